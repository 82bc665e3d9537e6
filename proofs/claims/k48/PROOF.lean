import PyProof.Rows.All
import Wide.All
import OpenK.AllK
import Wide.FinOn
import Lean
import PyProof.EqAt
import PyProof.EqKinds
import PyProof.TupleCall
import PyProof.StrLawsRepr
import PyProof.NeKinds
import KE.KTryMore
import PyProof.Rows.TupIter
import PyProof.InstStoreFacts
import PyProof.ExcInit
import KE.KEqDict
import KE.KDictOf
import KE.KPairComp
import PySem.Challenge.RW_cardshop_k48_picked
set_option Elab.async false
set_option compiler.extract_closed false
set_option linter.all false
set_option maxRecDepth 100000
set_option maxHeartbeats 4000000
namespace PySem.W.Fast
def tw2017488436792893610:=()
def tw6495169078977697649:=()
def tw11722531330242241831:=()
def tw17844344140725978745:=()
def tw9928440337080439548:=()
def tw13293568114882974338:=()
def tw7030617628052858715:=()
def tw17786514120566507763:=()
def tw17357379155593117617:=()
def tw10322717948387527240:=()
def tw14477677863895734813:=()
def tw4568672240455698049:=()
def tw10118966006166458164:=()
def tw17858424383614079679:=()
def tw14522243756216432948:=()
def tw8806477880501456437:=()
def tw17486100324427133271:=()
def tw10679607563741568113:=()
def tw13562942199982825226:=()
def tw5949331576474871442:=()
def tw16141136330200252685:=()
def tw4864373697313324103:=()
def tw4804579222279924256:=()
def tw17257084188901268695:=()
def tw5977277416443946143:=()
def tw10169154860651685136:=()
def tw5065935945565001934:=()
def tw66453569758408391:=()
def tw14121417670919896077:=()
def tw7888417256386628231:=()
def tw1340024295531721258:=()
def tw5920683650902676547:=()
def tw12035702144364898004:=()
def tw3938073518644156831:=()
def tw17265839452405155662:=()
def tw10769083097360671399:=()
def tw1111823723185681176:=()
def tw6661587713036932843:=()
def tw4833071119326210471:=()
def tw552939751920346489:=()
def tw11077097005517326214:=()
def tw865142526595177200:=()
def tw1318943079774053279:=()
def tw8070145909265961170:=()
def tw9132673393273027835:=()
def tw10148974903502659792:=()
def tw9095774172852847863:=()
def tw17277428570314365606:=()
def tw9475147159526530982:=()
def tw7147082391088812887:=()
def tw7782534313622683162:=()
def tw9169286767624277359:=()
def tw689292708252248889:=()
def tw17891903962234691525:=()
def tw3363668694099050274:=()
def tw14833024498244881850:=()
def tw9570637569437218243:=()
def tw129387318709587050:=()
def tw9132714151297570028:=()
def tw2361866460376569226:=()
def tw6885538176057181025:=()
def tw10674307924298166566:=()
def tw16086568669637448565:=()
def tw12544320735087626957:=()
def tw15316139267098593889:=()
def tw12590466872024593965:=()
def tw6082012466211369424:=()
def tw45445104657198533:=()
def tw4276211464335401369:=()
def tw13750814498624555455:=()
def tw15063565183747322729:=()
def tw17672457110630729715:=()
def tw5614497586120186411:=()
def tw16119501124364240680:=()
def tw15425410383365833804:=()
def tw10282976545306839329:=()
def tw11557722661285797993:=()
def tw10623391770938007987:=()
def tw13343422855469832773:=()
def tw201694092967806759:=()
def tw5990571972637181303:=()
def tw7165626389545206988:=()
def tw7395977062896445424:=()
def tw5794522594137664444:=()
def tw5363138540234661074:=()
def tw10310950504464341764:=()
def tw16306313758888980254:=()
def tw13710877731130417778:=()
def tw2193211255834252620:=()
def tw10515644151627768715:=()
def tw12864978018286948642:=()
def tw1217806635041675276:=()
def tw17161584027741692426:=()
def tw194317350958658572:=()
def tw17521479323977887198:=()
def tw10796008098643753128:=()
def tw12666085389647741524:=()
def tw16476161128392009521:=()
def tw6699146597385603915:=()
def tw9886685381898870012:=()
def tw14012039855485857219:=()
def tw2960683088931199707:=()
def tw1567430827264062116:=()
def tw8188379239764182472:=()
def tw886371643434747964:=()
def tw4172893200097153301:=()
def tw6615288370582573521:=()
def tw10026315567963256861:=()
def tw12407135489961490887:=()
def tw10906968886098322461:=()
def tw12613798731320383293:=()
def tw4870748566892619467:=()
def tw8468327017375295535:=()
def tw3424490928528341916:=()
def tw14061655876958042247:=()
def tw7014857087144937611:=()
def tw11604244929532214662:=()
def tw14206159788926831735:=()
def tw4957802265577044970:=()
def tw11322664900206473815:=()
def tw334678736540774649:=()
def tw9748330771809978726:=()
def tw11659945336380050088:=()
def tw197308241170443246:=()
def tw13005534653332924458:=()
def tw3095897225939898429:=()
def tw6650891347508753702:=()
def tw17649413715341190986:=()
def tw1412720537363343511:=()
def tw5423588891955058407:=()
def tw14341854766615995288:=()
def tw15329914924373778904:=()
def tw16452787954321027847:=()
def tw17356761180666195464:=()
def tw1273821523408585605:=()
def tw4563474545244086812:=()
def tw17292644606321920710:=()
def tw5110280742534764454:=()
def tw14242697565245549616:=()
def tw14758342931912913056:=()
def tw472962112465155147:=()
def tw8785518229267717534:=()
def tw10950124226301991672:=()
def tw18244358480327385542:=()
def tw1482160743162677113:=()
def tw17519150779930828324:=()
def tw6239436838333232091:=()
def tw10850346696639159462:=()
def tw17326632970503513996:=()
def tw1403128172346724685:=()
def tw11595416060961813873:=()
def tw4067398165872683768:=()
def tw13359076195423493677:=()
def tw611551993719551423:=()
def tw861511208340056426:=()
def tw16197200020365448396:=()
def tw5396292985373032045:=()
def tw13685940621264829746:=()
def tw3864818314818925414:=()
def tw195813148002432566:=()
def tw8279196361856719879:=()
def tw1757730841646889965:=()
def tw1915083521938465961:=()
def tw15940259400949864498:=()
def tw14764525574602791148:=()
def tw9193663779513565131:=()
def tw5633782249346591109:=()
def tw17014040805222300027:=()
def tw11898488498785070834:=()
def tw899995193816536599:=()
def tw1328415211500192994:=()
def tw9642681288198612765:=()
def tw11752362966365821281:=()
def tw3795417372567796888:=()
def tw17381219196975986023:=()
def tw1062603230336701687:=()
def tw2521100110082016801:=()
def tw1286217186709074105:=()
def tw11255172529262681338:=()
def tw6939676479240249898:=()
def tw15412188968506800783:=()
def tw1794989314588332756:=()
def tw6517180223615390715:=()
def tw7081954310094832927:=()
def tw10527747737775999054:=()
def tw8986888657805268092:=()
def tw10481414422860726847:=()
def tw4601998965581577931:=()
def tw2330402049991292260:=()
def tw5926434288921883594:=()
def tw17417594189760621265:=()
def tw6246841175567503275:=()
def tw8430085535001168212:=()
def tw17347105397060175631:=()
def tw15959925583751017420:=()
def tw16288563683764056958:=()
def tw647333387527339025:=()
def tw16965257923294485426:=()
def tw2043878470458630930:=()
def tw5656661259225204039:=()
def tw14151388433131737742:=()
def tw14773776484057797747:=()
def tw1937009837871659750:=()
def tw3237025431094632784:=()
def tw5126702365746844979:=()
def tw7315652492575242487:=()
def tw5756829529422179909:=()
def tw1532258330520637472:=()
def tw6894807650083551131:=()
def tw11610853115135873353:=()
def tw7507168363580527883:=()
def tw12603925872948734485:=()
def tw3054853820963928616:=()
def tw14004911395697853428:=()
def tw18372556287362992177:=()
def tw12642981219296174628:=()
def tw688450397687140065:=()
def tw2109619934760483760:=()
def tw12920190658880143545:=()
def tw14309436833718469977:=()
def tw10257737191357282249:=()
def tw6380076307058282884:=()
def tw17015405907967114602:=()
def tw7242045241145011813:=()
def tw9032463242058959671:=()
def tw2119244508116951344:=()
def tw12738522907798631349:=()
def tw15314558951750692653:=()
def tw7432723007226642726:=()
def tw756929948968095657:=()
def tw274742330402555923:=()
def tw263486719208886493:=()
def tw15559889011779673392:=()
def tw12131360671691071315:=()
def tw12314513991521502400:=()
def tw11238961862987258874:=()
def tw3156938337717006078:=()
def tw14695906466899263665:=()
def tw3038247246378406736:=()
def tw9458919996374099982:=()
def tw14805028387873020438:=()
def tw7926292346623365395:=()
end PySem.W.Fast
set_option genSizeOf false
set_option genSizeOfSpec false
set_option bootstrap.genMatcherCode false
noncomputable section
open PySem renaming Value→aV,wpAny_bind→ll,Shared→lu,Addr→lE,sizeLine→lL,wpAny_pure→lM,Expr→lP,mainGlobals→lU,wpAny→lX,compareOp→l4,Program→l5,starEach→me,wpAny_truthy_bool→mr,strIterType→mw,World→mx,Around→my,Stmt→mC,mem_of_lookup→mF,FuncData→mW,wpAny_mono→m4,assignEach→nI,binaryOp→nR,bootBuiltins→nU,wpAny_field→nY,wpAny_Call_Name_kw→og,NameKind→oh,wpAny_setField_rec→om,IsPair→ox,backTo→oM,wpAny_passesOwn→pO,keywordEach→p8,Builtin→qw,Within→qR,backToKw→rD,call→tO,Obj→tT,Args→vf
open Bool renaming and_eq_true→lj,and_eq_true_iff→ml,false_ne_true→mN,or_eq_true→oB,false_eq_true→qp,not_eq_true'→qv,and_true→rN,false_or→tV,true_and→tX,true→vm,false→vn
open PySem.Heap renaming get?_push_of_some→lp,lt_size→lH,get?_push_size→lN,size_push→n6,ExtBut→oJ,SameBut→pB,get?_update_other→qW,get?_push_cases→rE,get?_push_ne→sD,size_update→sX
open List renaming length_map→lq,getElem?_eq_getElem→lA,map_cons→lB,size_toArray→lD,length_append→lF,length_cons→lG,getElem?_map→lK,getElem?_eq_some_iff→lO,mem_cons→lQ,replicate→lR,mem_cons_of_mem→lV,mem_cons_self→lW,getD_eq_getElem?_getD→lZ,getElem?_set_ne→l6,mem_append_right→l7,zip_cons_cons→mf,range→mj,isEmpty_iff→mm,mem_singleton→mz,map_map→mD,exists_cons_of_length_eq_add_one→mE,all_eq_true→mG,getElem?_append_right→mH,length_eq_zero_iff→mJ,cons_append→mK,length_range→mM,all_cons→mO,length_take→mS,getElem?_append_left→mU,mem_range→mV,length_zip→mX,length_drop→mY,replicate_succ→mZ,mem_of_getElem?→m8,mem_append→m9,map_append→ng,length_set→nj,find?_cons→nq,getElem?_cons_succ→nr,getElem?_set_self→nA,append_assoc→nC,length_eq_one_iff→nE,append_nil→nG,map_nil→nL,getElem?_set→nO,nil_append→nQ,map_congr_left→nS,mem_map→nW,find?_cons_of_neg→nX,set_cons_zero→oq,nodup_cons→oz,of_mem_zip→oA,flatten_cons→oH,take_of_length_le→oU,set_cons_succ→oW,length_nil→oX,any_cons→pd,getElem?_eq_none→pf,mem_append_left→pz,getElem_mem→pC,not_mem_nil→pE,map_id'→pF,getElem?_zip_eq_some→pH,drop_eq_getElem_cons→pI,foldl_cons→pP,lookup→pR,set_set→pU,length_singleton→pV,lookup_cons→p4,length→p6,getElem?_mapIdx→p9,mem_of_mem_drop→qa,mem_filter→qb,filterMap_cons→qf,getElem_of_mem→qh,filter_eq_self→qi,flatMap_append→qj,pairwise_cons→qm,getElem?_eq_none_iff→qq,pairwise_iff_getElem→qr,ext_getElem?→qy,nodup_append→qz,flatMap_cons→qA,drop_length→qJ,map_snd_zip→qL,any_eq_true→qM,flatMap_nil→qN,getElem_map→qO,filter_cons_of_neg→qP,foldl→qX,drop_eq_nil_of_le→rd,forIn_cons→rj,length_replicate→rp,getElem?_toArray→rq,length_filter_le→rA,mem_of_mem_take→rH,take_nil→rM,mem_filterMap→rR,getElem_range→rW,zip_map_right→se,filter_filter→sf,filter_append→si,any_eq_false→sj,toArray→sy,foldl_append→sG,filter_congr→sJ,getElem_inj→sL,zipIdx_cons→sV,map_reverse→sZ,filter→tu,zipIdx_nil→tF,idxOf_cons→tG,filter_nil→tH,drop_zero→tL,forIn_nil→tP,drop_nil→tW,set_comm→tY,map_drop→tZ,map_take→t5,all_map→uB,map_id→uX
open Nat renaming le_refl→lC,lt_of_lt_of_le→lY,ne_of_lt→l0,zero_le→mq,le_trans→m5,le_of_lt→oE,le_succ→oF,min_self→oI,ne_of_gt→oT,lt_irrefl→oY,le_of_ble_eq_true→ph,lt_succ_of_lt→pj,pow_succ→pS,div_lt_iff_lt_mul→pW,lt_succ_self→pY,le_of_not_lt→pZ,toDigits_of_lt_base→qI,le_of_eq→qU,toDigits→qY,sub_self→qZ,zero_add→rf,div_add_mod→rm,pow_pos→rF,digitChar→rL,lt_of_le_of_lt→r9,mul_comm→so,mod_eq_of_lt→sU,le_add_right→sY,le_antisymm→tD,min_eq_left→tE,mod_lt→tM,mul_add→uY
open Option renaming bind_eq_some_iff→lI,map_eq_some_iff→lJ,isNone_iff_eq_none→ou,isSome_map→pT,isSome_iff_exists→qB,isSome_some→rX,getD_none→sS,none→uS,some→vj,none→vk
open PySem.Obj renaming mapSeq→l8
open Option.some renaming inj→l9
open PySem.W renaming Frag→mh,Frag→mR,nsIn→nH,findIn→n5,keepIn→oQ,emptyDict→oS,kia_one→pb,instObj→pX,codeIn→p7,kla_fn→qo,hasDictIn→qt,plainGet→qT,plainOver→rB,mg_of→sx,makesIn→sM,cellsFrom_some→sO,methodObj→tm,specialIn→tq,tabIn→tI,kla_fn→tQ,takerIn→t6,OpenLaw→t9,callWith_K→ui,isFn→uj,lookIn→uQ,kitOne→uR
open False renaming elim→mi
open Int renaming emod_lt_of_pos→mB,emod_nonneg→mL,eq_ofNat_of_zero_le→nu,toNat_natCast→qx
open Array renaming getElem?_toList→mP,length_toList→mQ,getD_eq_getD_getElem?→m6,getElem?_eq_some_iff→oj,getElem?_eq_none_iff→pA,perm_iff_toList_perm→ql,toList→qS,getD→rY
open PySem.Value renaming ref→mT,none→nz,bool→pq,str→pQ,int→qF,type→rQ,float→tj,isStrOf→tU,isInt→uO,bytes→uP
open True renaming intro→m7
open Nat.succ renaming inj→nh
open PySem.Builtin.SmallTypes renaming ownedTupleIsFree→ni,nextOf→oy,ownedTupleHandOut→pL
open PyProof.Rows renaming callWith_type1→nv,slot_tuple_getitem→oP,callWith_builtin1→sQ,lt_int→uZ
open PySem.Builtin.Str renaming strSliceIndices→ny,occurrences→nM,tooLong→qg,padded→rV,glued→vh
open PySem.Str renaming length→nJ,ofString→oG,empty→t7
open PySem.Builtin.Slice renaming slicePlaces→ot,sliceAdjust→pG,sliceApplied→qk,slicePartIndex→tw,sliceFields→tS
open PySem.Builtin.Tuple renaming tupleExact→oN,tupleItemsOf→tK
open PySem.Builtin.List renaming listTooLong→oO,listExtendWith→tJ
open PySem.SeqAt renaming RcAt→oV,RcNeAt→pD,ne_of_list_tuple→q9,EqAt→rS
open PySem.Builtin.Int renaming intBits→pJ
open PySem.Heap.SameBut renaming update→pM
open Ne renaming symm→pN
open PySem.Env renaming kindOf→p5
open PySem.Builtin renaming divisionGoesByPylong→qc
open PySem.F renaming slot_zip_next→qd,slot_dict_setdefault→qe,args_tuple_add_2→qC,entry_tuple_add→qH,plain_list_iadd→qK,slot_tuple_add→qV,slot_list_lt→rG,args_zip_next_1→sv,entry_zip_next→sW,slot_int_rmul→tB
open List.cons renaming inj→qE
open PySem.Builtin.Range renaming rangeSize→qG
open Sum renaming inl→qQ,inr→rJ
open PySem.SeqAt.EqAt renaming same→rg,int_str→rO,str_int→rP,int_int→rT
open List.Pairwise renaming nil→sr
open PySem.SeqAt.RcNeAt renaming lists_lengths→tN,tuple_none→ue,tuple_bool→uf,none_tuple→ug,bool_tuple→uh,none_none→uk,none_bool→um,bool_none→uo,bool_bool→uq,list_none→ur,list_bool→uu,none_list→uv,bool_list→uw,tuple_int→ux,tuple_str→uy,int_tuple→uz,str_tuple→uA,none_int→uC,none_str→uD,bool_int→uE,bool_str→uF,int_none→uG,int_bool→uH,str_none→uI,str_bool→uJ,list_int→uK,list_str→uL,int_list→uM,str_list→uN,int_int→uT,int_str→uU,str_int→uV,str_str→uW,tuples→vc,lists→ve
open List.Perm renaming refl→tR
open PySem.Heap.IsSliceOf renaming new→vd
open PySem.Within renaming cons→vg
open PySem.Heap.DictOf renaming new→vi
namespace L2
open PySem PySem.Spec PyProof.Rows
theorem sN.{u}{α:Type u}(a:α):vj a≠vk:=Option.some_ne_none a
noncomputable abbrev Fgg:=mh
noncomputable abbrev Pnn:=List (lE×tT)
noncomputable abbrev Key:=Sum Int Str
def keyIs:Key->aV->Bool
 |.inl k,v=>uO k v
 |.inr x,v=>tU x v
def keyH (w:mx):Key->Int
 |.inl k=>hashInt k
 |.inr x=>hashStr w x
theorem zo_:∀{k:Key}{v:aV},keyIs k v=vm->(∃i t,k=qQ i/\v=qF i t)\/(∃x t,k=rJ x/\v=pQ x t)
 |.inl i,v,h=>by
  obtain⟨t,e⟩:=Value.isInt_shape (k:=i) (v:=v) h;exact .inl ⟨i,t,rfl,e⟩
 |.inr x,v,h=>by
  obtain⟨t,e⟩:=Value.isStrOf_shape (x:=x) (v:=v) h;exact .inr ⟨x,t,rfl,e⟩
theorem zik_ (i:Int)(t:Tok):keyIs (.inl i) (.int i t)=vm:=by simp[keyIs,uO]
theorem ziz_ (x:Str)(t:Tok):keyIs (.inr x) (.str x t)=vm:=by simp[keyIs,tU]
theorem zpY_ (a b:Int):decide ((qQ a:Key)=qQ b)=(a == b):=by
 by_cases e:a=b
 ·subst e;simp
 ·have h:¬(qQ a:Key)=qQ b:=λq=>e (Sum.inl.inj q)
  rw[decide_eq_false h];exact(beq_eq_false_iff_ne.mpr e).symm
theorem zqe_ (a b:Str):decide ((rJ a:Key)=rJ b)=decide (a=b):=by
 by_cases e:a=b
 ·subst e;simp
 ·have h:¬(rJ a:Key)=rJ b:=λq=>e (Sum.inr.inj q)
  rw[decide_eq_false h,decide_eq_false e]
theorem zpS_ (a:Int)(b:Str):decide ((qQ a:Key)=rJ b)=vn:=decide_eq_false (λq=>nomatch q)
theorem zpQ_ (a:Str)(b:Int):decide ((rJ a:Key)=qQ b)=vn:=decide_eq_false (λq=>nomatch q)
def mixKind (prog:l5)(w:mx):PySem.KeyKind prog w Key where
 is:=keyIs
 hash:=keyH w
 inj:=λv a b ha hb=>by
  rcases zo_ ha with⟨i,t,rfl,rfl⟩|⟨x,t,rfl,rfl⟩
  ·rcases zo_ hb with⟨j,u,rfl,e⟩|⟨y,u,rfl,e⟩
   ·injection e with e1 _;rw[e1]
   ·exact nomatch e
  ·rcases zo_ hb with⟨j,u,rfl,e⟩|⟨y,u,rfl,e⟩
   ·exact nomatch e
   ·injection e with e1 _;rw[e1]
 byValue:=λk v h=>by
  rcases zo_ h with⟨i,t,rfl,rfl⟩|⟨x,t,rfl,rfl⟩<;>rfl
 pyHash:=λhv h=>by
  rcases zo_ hv with⟨i,t,rfl,rfl⟩|⟨x,t,rfl,rfl⟩
  ·exact wpAny_pyHash_int h
  ·exact wpAny_pyHash_str h
 eqBool:=λhu hv h=>by
  rcases zo_ hu with⟨i,t,rfl,rfl⟩|⟨x,t,rfl,rfl⟩
  ·rcases zo_ hv with⟨j,u,rfl,rfl⟩|⟨y,u,rfl,rfl⟩
   ·rw[zpY_]at h;exact wpAny_eqBool_int h
   ·rw[zpS_]at h;exact rO i t y u _ _ _ _ h
  ·rcases zo_ hv with⟨j,u,rfl,rfl⟩|⟨y,u,rfl,rfl⟩
   ·rw[zpQ_]at h;exact rP x t j u _ _ _ _ h
   ·rw[zqe_]at h;exact wpAny_eqBool_str h
 «strs»:=λk x t v h=>by
  rcases zo_ h with⟨i,u,rfl,e⟩|⟨y,u,rfl,e⟩
  ·exact nomatch e
  ·injection e with e1 _
   subst e1;cases v<;>rfl
theorem zg4_ (prog:l5)(w:mx)(k:Key)(v:aV):(mixKind prog w).is k v=keyIs k v:=rfl
theorem zeV_ (prog:l5)(w:mx)(i:Int)(t:Tok):(mixKind prog w).is (.inl i) (.int i t)=vm:=zik_ i t
theorem ze7_ (prog:l5)(w:mx)(x:Str)(t:Tok):(mixKind prog w).is (.inr x) (.str x t)=vm:=ziz_ x t
inductive V where
 |non |bl (b:Bool)|int (i:Int)|str (x:Str)|byt (b:Array UInt8)|flt (b:UInt64)|ref (a:lE)|ty (n:String)
 deriving DecidableEq
noncomputable def RelV:V->aV->Prop
 |.non,u=>u=nz
 |.bl b,u=>u=pq b
 |.int i,u=>∃t,u=qF i t
 |.str x,u=>∃t,u=pQ x t
 |.byt b,u=>∃t,u=uP b t
 |.flt b,u=>∃t,u=tj b t
 |.ref a,u=>u=mT a
 |.ty n,u=>u=rQ n
abbrev Vals:List V->List aV->Prop:=Paired RelV
theorem Vals.length {xs:List V}{us:List aV}(r:Vals xs us):xs.length=us.length:=Paired.length r
theorem Vals.get:∀{xs:List V}{us:List aV}{i:Nat}{x:V},Vals xs us->xs[i]?=vj x->∃u,us[i]?=vj u/\RelV x u
 |_,_,_,_,.nil,e=>by simp at e
 |_,_,0,_,.cons r _,e=>by simp at e;subst e;exact⟨_,rfl,r⟩
 |_,_,i+1,x,.cons _ t,e=>by
  obtain⟨u,h1,h2⟩:=Vals.get (i:=i) (x:=x) t (by simpa using e)
  exact⟨u,by simpa using h1,h2⟩
theorem Vals.set {x:V}{u:aV}(r:RelV x u):∀{xs:List V}{us:List aV}(i:Nat),Vals xs us->Vals (xs.set i x) (us.set i u)
 |_,_,_,.nil=>.nil
 |_,_,0,.cons _ t=>.cons r t
 |_,_,i+1,.cons q t=>.cons q (Vals.set r i t)
theorem Vals.append:∀{xs ys:List V}{us ws:List aV},Vals xs us->Vals ys ws->Vals (xs++ys) (us++ws)
 |_,_,_,_,.nil,s=>s
 |_,_,_,_,.cons r t,s=>.cons r (Vals.append t s)
theorem Vals.take:∀{xs:List V}{us:List aV}(n:Nat),Vals xs us->Vals (xs.take n) (us.take n)
 |_,_,0,_=>.nil
 |_,_,_+1,.nil=>.nil
 |_,_,n+1,.cons r t=>.cons r (Vals.take n t)
theorem Vals.drop:∀{xs:List V}{us:List aV}(n:Nat),Vals xs us->Vals (xs.drop n) (us.drop n)
 |_,_,0,r=>r
 |_,_,_+1,.nil=>.nil
 |_,_,n+1,.cons _ t=>Vals.drop n t
def RelO:Option V->Option aV->Prop
 |some v,vj u=>RelV v u
 |none,vk=>True
 |_,_=>False
def KV {κ:Type}:List (κ×V)->List (κ×aV)->Prop:=Paired λ(p:κ×V) (q:κ×aV)=>p.1=q.1/\RelV p.2 q.2
def kV:Key->V
 |.inl i=>.int i
 |.inr x=>.str x
inductive HO where
 |lst (xs:List V)
 |tup (xs:List V)
 |dK (kvs:List (Key×V))|dT (kvs:List (List Key×V))
 |set (S:Int->Bool) (n:Nat)
 |ins (C dx:lE) (fs:List (Str×V))
 |own (x:lE)
 |xd (fs:List (Str×V))
 |met (f x:lE)
 |rng (lo hi:Int)
 |frz (o:tT) (u:HO)
 |tbl (pos:Pos) (qual:Str)
 |ext (φ:Heap->Prop)
noncomputable abbrev Hp:=lE->Option HO
def upd (H:Hp)(a:lE)(o:HO):Hp:=λb=>if b=a then vj o else H b
theorem zh_ {H:Hp}{a:lE}{o:HO}:upd H a o a=vj o:=by unfold upd;rw[if_pos rfl]
theorem zd_ {H:Hp}{a b:lE}{o:HO}(h:b≠a):upd H a o b=H b:=by unfold upd;rw[if_neg h]
theorem ne_of {H:Hp}{a b:lE}{o u:HO}(h:H a=vj o)(h':H b=vj u)(d:o≠u):a≠b:=by
 intro e;subst e;rw[h]at h';exact d (l9 h')
theorem ze_ {H:Hp}{a b:lE}{o:HO}(h:H a=vj o)(h':H b=vk):a≠b:=by
 intro e;subst e;rw[h]at h';cases h'
section
variable (P:l5)(w:mx)
def ObjOk (H:Hp)(h:Heap)(a:lE):HO->Prop
 |.lst xs=>xs.length<=lL/\∃(aa:List aV) (n:Nat),Vals xs aa/\h.get? a=vj {cls:=.type "list",data:=.seq aa.toArray n}
 |.tup xs=>xs.length<=lL/\∃aa:List aV,Vals xs aa/\IsTup h a aa.toArray
 |.dK kvs=>kvs.length<=lL/\(a == sysModules)=vn/\∃vs,KV kvs vs/\h.DictOf (mixKind P w) a vs
 | .dT kvs=>kvs.length<=lL/\(a == sysModules)=vn/\∃xs:List (List Key×lE×aV),
   Paired (λ(p:List Key×V) (q:List Key×lE×aV)=>p.1=q.1/\H q.2.1=vj (.tup (p.1.map kV))/\RelV p.2 q.2.2) kvs xs /\
   ∃o es ep,h.get? a=vj o/\o.ExactDict/\o.data=.dict es ep/\es.toList=xs.map (entryOfKey (tupleKind (mixKind P w)))/\(xs.map (·.1)).Nodup
 |.set S n=>h.SetOf (intKind P w) a S n
 | .ins C dx fs=>H dx=vj (.own a)/\fs.length<=1000/\dx≠a/\h.get? a=vj (pX C dx) /\
   ∃mA,h.Ns1 dx mA/\(∀f,RelO (fs.lookup f) (mA f))/\qR mA (fs.map (·.1))
 |.own _=>∃o,h.get? a=vj o
 |.xd fs=>∃mA,h.Ns1 a mA/\∀f,RelO (fs.lookup f) (mA f)
 |.rng lo hi=>∃t u v,h.get? a=vj {cls:=.type "range",data:=.fields #[.int lo t,.int hi u,.int 1 v]}
 |.frz o u=>h.get? a=vj o/\ObjOk H h a u
 |.tbl pos qual=>∃ps:Array aV,h.get? a=vj {cls:=.none,data:=.fields ps}/\TriplesOk ps.toList/\∀cv,codeAmong pos ps.toList=vj cv->∃c o vs t,cv=.ref c/\H c=vj (.frz o (.own a))/\o.data=.fields vs/\vs[1]?=vj (.str qual t)
 |.met f x=>h.get? a=vj (tm (.ref f) (.ref x))
 |.ext φ=>φ h/\(∃o,h.get? a=vj o)/\∀h1 h2:Heap,φ h1->(∀o,h1.get? a=vj o->h2.get? a=vj o)->φ h2
def HOk (H:Hp)(h:Heap):Prop:=∀a o,H a=vj o->ObjOk P w H h a o
end
section
variable {P:l5}{w:mx}{H H':Hp}{h h':Heap}{a:lE}{o:HO}
theorem ObjOk.lt (x:ObjOk P w H h a o):a<h.objs.size:=by
 cases o with
 |lst xs=>obtain⟨_,_,_,_,e⟩:=x;exact lH e
 |tup xs=>obtain⟨_,_,_,p⟩:=x;exact p.lt
 |dK kvs=>obtain⟨_,_,_,_,o,_,_,e,_⟩:=x;exact lH e
 |dT kvs=>obtain⟨_,_,_,_,o,_,_,e,_⟩:=x;exact lH e
 |set S n=>obtain⟨o,_,_,_,e,_⟩:=x;exact lH e
 |ins C dx fs=>obtain⟨_,_,_,e,_⟩:=x;exact lH e
 |own y=>obtain⟨_,e⟩:=x;exact lH e
 |xd fs=>obtain⟨_,⟨_,_,_,e,_⟩,_⟩:=x;exact lH e
 |rng lo hi=>obtain⟨_,_,_,e⟩:=x;exact lH e
 |frz ob u=>obtain⟨e,_⟩:=x;exact lH e
 |tbl pos qual=>obtain⟨_,e,_⟩:=x;exact lH e
 |met f y=>exact lH (show h.get? a=vj _ from x)
 |ext φ=>obtain⟨_,⟨_,e⟩,_⟩:=x;exact lH e
theorem Paired.mapP {α β:Type}{F G:α->β->Prop}:∀{d_:List α}{d9:List β},Paired F d_ d9->(∀a b,F a b->G a b)->Paired G d_ d9
 |_,_,.nil,_=>.nil
 |_,_,.cons r t,f=>.cons (f _ _ r) (Paired.mapP t f)
theorem ObjOk.stay (x:ObjOk P w H h a o)(k:∀b u,(b=a\/H b=vj (.own a))->h.get? b=vj u->h'.get? b=vj u)
  (ho:∀b,H b=vj (.own a)->H' b=vj (.own a)) (ht:∀b xs,H b=vj (.tup xs)->H' b=vj (.tup xs)) (hf:∀b ob,H b=vj (.frz ob (.own a))->H' b=vj (.frz ob (.own a)):=by exact λ_ _ q=>q):ObjOk P w H' h' a o:=by
 induction o with
 |lst xs=>obtain⟨z,aa,n,r,e⟩:=x;exact⟨z,aa,n,r,k _ _ (.inl rfl) e⟩
 |tup xs=>obtain⟨z,aa,r,ob,e,c⟩:=x;exact⟨z,aa,r,ob,k _ _ (.inl rfl) e,c⟩
 |dK kvs=>obtain⟨z,y,vs,r,ob,es,ep,e,c⟩:=x;exact⟨z,y,vs,r,ob,es,ep,k _ _ (.inl rfl) e,c⟩
 |dT kvs=>
  obtain⟨z,y,xs,r,ob,es,ep,e,c⟩:=x;exact⟨z,y,xs,Paired.mapP r λp q z=>⟨z.1,ht _ _ z.2.1,z.2.2⟩,ob,es,ep,k _ _ (.inl rfl) e,c⟩
 |set S n=>obtain⟨ob,es,ep,t,e,c⟩:=x;exact⟨ob,es,ep,t,k _ _ (.inl rfl) e,c⟩
 |ins C dx fs=>
  obtain⟨d,z,ne,e,mA,⟨od,es,ep,e2,c⟩,r⟩:=x;exact⟨ho _ d,z,ne,k _ _ (.inl rfl) e,mA,⟨od,es,ep,k _ _ (.inr d) e2,c⟩,r⟩
 |own y=>obtain⟨ob,e⟩:=x;exact⟨ob,k _ _ (.inl rfl) e⟩
 |xd fs=>obtain⟨mA,⟨od,es,ep,e,c⟩,r⟩:=x;exact⟨mA,⟨od,es,ep,k _ _ (.inl rfl) e,c⟩,r⟩
 |rng lo hi=>obtain⟨t,u,v,e⟩:=x;exact⟨t,u,v,k _ _ (.inl rfl) e⟩
 |frz ob u ih=>obtain⟨e,q⟩:=x;exact⟨k _ _ (.inl rfl) e,ih q⟩
 |tbl pos qual=>
  obtain⟨ps,e,t,f⟩:=x;exact⟨ps,k a _ (.inl rfl) e,t,λcv q=>let⟨c,ob,vs,t,q1,q2,q3⟩:=f cv q;⟨c,ob,vs,t,q1,hf _ _ q2,q3⟩⟩
 |met f y=>
  have e:h.get? a=vj (tm (.ref f) (.ref y)):=x;show h'.get? a=vj (tm (.ref f) (.ref y))
  exact k a _ (.inl rfl) e
 |ext φ=>obtain⟨p,⟨o,e⟩,st⟩:=x;exact⟨st _ _ p λo q=>k _ _ (.inl rfl) q,⟨o,k _ _ (.inl rfl) e⟩,st⟩
theorem HOk.lt (x:HOk P w H h)(e:H a=vj o):a<h.objs.size:=(x a o e).lt
theorem HOk.fresh (x:HOk P w H h)(e:h.objs.size<=a):H a=vk:=by
 cases q:H a with
 |none=>rfl
 |some u=>exact absurd (lY (x.lt q) e) (oY _)
theorem HOk.kept (x:HOk P w H h)(k:∀b u,h.get? b=vj u->h'.get? b=vj u):HOk P w H h':=λa o e=>
 (x a o e).stay (λb u _ q=>k b u q) (λ_ q=>q) λ_ _ q=>q
theorem HOk.laid (x:HOk P w H h)(k:∀b u,h.get? b=vj u->h'.get? b=vj u)(hp:h.objs.size<=a)(new:ObjOk P w (upd H a o) h' a o):HOk P w (upd H a o) h':=λb u e=>by
 have hn:=x.fresh hp;by_cases hb:b=a
 ·subst hb;rw[zh_]at e;cases e;exact new
 ·rw[zd_ hb]at e
  exact(x b u e).stay (λc v _ q=>k c v q) (λc q=>by rw[zd_ (ze_ q hn)];exact q) (λc xs q=>by rw[zd_ (ze_ q hn)];exact q) λc ob q=>by rw[zd_ (ze_ q hn)];exact q
end
def Rd (H:Hp)(a:lE)(u:HO):Prop:=H a=vj u\/∃o,H a=vj (.frz o u)
theorem Rd.ok {P:l5}{w:mx}{H:Hp}{h:Heap}{a:lE}{u:HO}(r:Rd H a u)(x:HOk P w H h):ObjOk P w H h a u:=by
 rcases r with r |⟨o,r⟩
 ·exact x a u r
 ·obtain⟨_,q⟩:=x a _ r
  exact q
noncomputable def Mut:Option HO->Prop
 |some (.lst _)=>True
 |some (.dK _)=>True
 |some (.dT _)=>True
 |some (.set _ _)=>True
 |some (.ins _ _ _)=>True
 |some (.ext _)=>True
 |_=>False
section
variable {P:l5}{w:mx}{H:Hp}{h h':Heap}{x e:lE}{o':HO}
theorem HOk.write (ok:HOk P w H h)(mu:Mut (H x))(he:e=x\/H e=vj (.own x))(k:∀b u,b≠e->h.get? b=vj u->h'.get? b=vj u)(bH:∃u,h'.get? e=vj u)
  (new:ObjOk P w (upd H x o') h' x o'):HOk P w (upd H x o') h':=λb u q=>by
 have d6:∀c y,H c=vj (.own y)->c≠x:=λc y r z=>by subst z;rw[r]at mu;exact mu
 have gf:∀c xs,H c=vj (.tup xs)->c≠x:=λc xs r z=>by subst z;rw[r]at mu;exact mu
 by_cases hb:b=x
 ·subst hb;rw[zh_]at q;cases q;exact new
 ·rw[zd_ hb]at q
  by_cases hbe:b=e
  ·have q':H b=vj (.own x):=by
    rcases he with z |z
    ·exact absurd (hbe.trans z) hb
    ·rw[hbe];exact z
   rw[q]at q';cases q';obtain⟨v,hv⟩:=bH;exact⟨v,by rw[hbe];exact hv⟩
  ·refine(ok b u q).stay (λc v hc r=>k c v ?_ r) (λc r=>by rw[zd_ (d6 c b r)];exact r) (λc xs r=>by rw[zd_ (gf c xs r)];exact r) λc ob r=>by rw[zd_ (λz=>by subst z;rw[r]at mu;exact mu)];exact r
   rcases hc with rfl |hc
   ·exact hbe
   ·rintro rfl
    rcases he with z |z
    ·exact d6 c b hc z
    ·rw[hc]at z;cases z;exact hb rfl
end
structure Un (fs ex:List lE)(H H':Hp)(h h':Heap):Prop where
 keep:∀b o,h.get? b=vj o->H b=vk->b∉fs->b∉ex->h'.get? b=vj o
 slot:∀b o,h.get? b=vj o->H b=vk->b∈fs->b∉ex->∃sl,h'.get? b=vj {o with slots:=sl}
 free:∀b o,h.get? b=vj o->H b=vk->b∉ex->H' b=vk
 there:∀b o,h.get? b=vj o->b∉ex->∃o',h'.get? b=vj o'
 tups:∀b xs,H b=vj (.tup xs)->H' b=vj (.tup xs)
 frzs:∀b o u,H b=vj (.frz o u)->H' b=vj (.frz o u)
 tbls:∀b p q,H b=vj (.tbl p q)->H' b=vj (.tbl p q)
section
variable {fs ex:List lE}{H H1 H2:Hp}{h h1 h2 h':Heap}{a x e:lE}{o:HO}
theorem Un.any (u:Un fs ex H H1 h h1){b:lE}{ob:tT}(q:h.get? b=vj ob)(n:H b=vk)(hx:b∉ex):∃sl,h1.get? b=vj {ob with slots:=sl}:=by
 by_cases hb:b∈fs
 ·exact u.slot b ob q n hb hx
 ·exact⟨ob.slots,u.keep b ob q n hb hx⟩
theorem Un.trans (a:Un fs ex H H1 h h1)(b:Un fs ex H1 H2 h1 h2):Un fs ex H H2 h h2 where
 keep:=λc ob q n hc hx=>b.keep c ob (a.keep c ob q n hc hx) (a.free c ob q n hx) hc hx
 slot:=λc ob q n hc hx=>by
  obtain⟨sl,e1⟩:=a.slot c ob q n hc hx;obtain⟨f7,e2⟩:=b.slot c _ e1 (a.free c ob q n hx) hc hx;exact⟨f7,e2⟩
 free:=λc ob q n hx=>by
  obtain⟨o',e1⟩:=a.there c ob q hx;exact b.free c o' e1 (a.free c ob q n hx) hx
 there:=λc ob q hx=>by
  obtain⟨o',e1⟩:=a.there c ob q hx;exact b.there c o' e1 hx
 tups:=λc xs q=>b.tups c xs (a.tups c xs q)
 frzs:=λc ob xs q=>b.frzs c ob xs (a.frzs c ob xs q)
 tbls:=λc p' q' q=>b.tbls c p' q' (a.tbls c p' q' q)
theorem Un.kept (k:∀b u,h.get? b=vj u->h'.get? b=vj u):Un fs ex H H h h':=
 ⟨λb ob q _ _ _=>k b ob q,λb ob q _ _ _=>⟨ob.slots,k b ob q⟩,λ_ _ _ n _=>n,λb ob q _=>⟨ob,k b ob q⟩,λ_ _ q=>q,λ_ _ _ q=>q,λ_ _ _ q=>q⟩
theorem Un.refl:Un fs ex H H h h:=Un.kept λ_ _ q=>q
theorem Un.laid (k:∀b u,h.get? b=vj u->h'.get? b=vj u)(hp:h.objs.size<=a)(hn:H a=vk):Un fs ex H (upd H a o) h h' where
 keep:=λb u q _ _ _=>k b u q
 slot:=λb u q _ _ _=>⟨u.slots,k b u q⟩
 free:=λb u q n _=>by rw[zd_ (l0 (lY (lH q) hp))];exact n
 there:=λb u q _=>⟨u,k b u q⟩
 tups:=λb xs q=>by rw[zd_ (ze_ q hn)];exact q
 frzs:=λb u xs q=>by rw[zd_ (ze_ q hn)];exact q
 tbls:=λb p' q' q=>by rw[zd_ (ze_ q hn)];exact q
theorem Un.write (mu:Mut (H x))(he:e=x\/H e=vj (.own x))(k:∀b u,b≠e->h.get? b=vj u->h'.get? b=vj u)(bH:∃u,h'.get? e=vj u):Un fs ex H (upd H x o) h h':=by
 have hx:∀b,H b=vk->b≠x:=λb n z=>by subst z;rw[n]at mu;exact mu
 have hb:∀b,H b=vk->b≠e:=λb n z=>by
  subst z;rcases he with r |r
  ·exact hx b n r
  ·rw[n]at r;cases r
 have hm:∀b u,H b=vj u->¬Mut (vj u)->b≠x:=λb u q nm z=>by subst z;rw[q]at mu;exact nm mu
 refine⟨λb u q n _ _=>k b u (hb b n) q,λb u q n _ _=>⟨u.slots,k b u (hb b n) q⟩,λb u q n _=>by rw[zd_ (hx b n)];exact n,λb u q _=>?_,
  λb xs q=>by rw[zd_ (hm b _ q λz=>z)];exact q,λb u xs q=>by rw[zd_ (hm b _ q λz=>z)];exact q,λb p' q' q=>by rw[zd_ (hm b _ q λz=>z)];exact q⟩
 by_cases hbe:b=e
 ·subst hbe;exact bH
 ·exact⟨u,k b u hbe q⟩
end
def trk (h:Heap)(H:Hp):List lE:=(mj h.objs.size).filter λa=>(H a).isSome
def hidT (h:Heap)(H:Hp):Heap:=W.hideAll h (trk h H)
theorem ziw_ (h:Heap)(H:Hp):(hidT h H).objs.size=h.objs.size:=W.hideAll_size _ _
theorem zjY_ {h:Heap}{H:Hp}{b:lE}{o:tT}(e:h.get? b=vj o)(n:H b=vk):(hidT h H).get? b=vj o:=
 W.hideAll_get _ e λhm=>by
  have q:(H b).isSome=vm:=(qb.mp hm).2;rw[n]at q;simp at q
theorem zmb_ {h:Heap}{H:Hp}{b:lE}{o:tT}(e:(hidT h H).get? b=vj o):h.get? b=vj o/\H b=vk:=by
 have e':h.get? b=vj o:=W.of_hideAll (trk h H) e;refine⟨e',?_⟩;cases q:H b with
 |none=>rfl
 |some x=>
  have hm:b∈trk h H:=qb.mpr ⟨mV.mpr (lH e'),by simp[q]⟩
  have z:(hidT h H).get? b=vk:=W.hideAll_none (trk h H) hm;rw[z]at e;cases e
def lamK (K:Fgg):Option (lE×Pos×Str):=match nH K lU "put_in_order" with
 |some (vj (.ref f))=>(match K.lookup f with
  |some ⟨_,_,.func fd,_⟩=>(match fd.body,tI K "put_in_order" with
   |.stmts [.Return (vj (.Call _ _ [⟨_,.Lambda _ _ _ pos,_⟩] _)) _],vj (_,P)=>vj (P,pos,fd.qualname ++ ".<locals>." ++ "<lambda>")
   |_,_=>vk)
  |_=>vk)
 |_=>vk
def Tb (K:Fgg)(H:Hp):Prop:=∀P pos q,lamK K=vj (P,pos,q)->H P=vj (.tbl pos q)
structure Mod (K:Fgg)(mg:Str->Option aV)(base:Heap):Prop where
 kin:K.In base
 glob:base.Ns lU mg
 blt:∃mb,base.Ns builtinsNs mb/\∀x:Str,x ≠ "__name__" -> mb x=nU x
 nolimit:base.NoLimit
 bm:∃bm ob,mg "__builtins__"=vj (.ref bm)/\bm≠builtinsNs/\base.get? bm=vj ob/\ob.cls=.type "module" /\ ob.dict=vj builtinsNs/\ob.data=.plain
structure Cx where
 prog:l5
 w:mx
 K:Fgg
 mg:Str->Option aV
 base:Heap
 A:my
 N:List Str
 s₀:lu
 H₀:Hp
 env:Env
 outer:List Env
 stack:List Env
 ex:List lE
 fn:Str->Bool
 calm:Bool
 pn:Pnn
 xe:aV->lu->Prop
noncomputable def frs (l:List Env):List lE:=l.filterMap (·.frame)
abbrev Cx.fs (X:Cx):List lE:=frs X.outer
def Vis (sc:Scope)(x:Str):Prop:=sc.names.lookup x=vj .local\/sc.names.lookup x=vj .cell\/sc.names.lookup x=vj .free
def Loc (sc:Scope)(x:Str):Prop:=sc.names.lookup x=vj .local\/sc.names.lookup x=vj .cell
def Look (env:Env)(h:Heap)(m:Str->Option aV)(x:Str)(u:aV):Prop:=
 (env.kindOf x=vj .local/\m x=vj u)\/((env.kindOf x=vj .cell\/env.kindOf x=vj .free)/\∃c,env.cells.lookup x=vj c/\h.IsCell c (vj u))
structure Cx.Ok (X:Cx):Prop where
 mod:Mod X.K X.mg X.base
 kind:X.env.scope.kind=.function
 glob:X.env.globals=lU
 blt:X.env.builtins=builtinsNs
 above:X.s₀.heap.objs.size<=X.env.locals
 inj:∀x y c,X.env.cells.lookup x=vj c->X.env.cells.lookup y=vj c->x=y
 has:∀x,(X.env.kindOf x=vj .cell\/X.env.kindOf x=vj .free)->∃c,X.env.cells.lookup x=vj c
 cab:∀x c,X.fn x=vm->X.env.cells.lookup x=vj c->X.s₀.heap.objs.size<=c
 hd:X.calm=vm->X.A.handled=vk
 frames:X.A.frames=vj X.stack
 stk:X.stack=X.outer\/(X.stack=X.env::X.outer/\X.env.frame=vj X.env.locals)
 exf:∀b∈X.ex,b≠X.env.locals/\∀x c,X.env.cells.lookup x=vj c->c≠b
 bs:∀b o,X.base.get? b=vj o->X.s₀.heap.get? b=vj o/\X.H₀ b=vk
 bsz:X.base.objs.size<=X.s₀.heap.objs.size
 noex:∀b o,X.base.get? b=vj o->b∉X.ex
 exfs:∀b∈X.ex,b∉X.fs
 funs:X.s₀.heap.FunFrames X.base X.outer
 frf:∀b∈X.fs,X.H₀ b=vk
 tb:Tb X.K X.H₀
structure Inv (X:Cx)(pins:Pnn)(σ:List (Option V))(H:Hp)(s:lu):Prop where
 ok:X.Ok
 os:s.os=X.s₀.os
 bare:AllBare s.gens
 base:Un X.fs X.ex X.H₀ H X.s₀.heap s.heap
 loc:∃m,s.heap.Ns X.env.locals m/\∀(i:Nat) (x:Str) (v:V),X.N[i]?=vj x->σ[i]?=vj (vj v)->Vis X.env.scope x->∃u,RelV v u/\Look X.env s.heap m x u
 cell:∀x c,X.env.cells.lookup x=vj c->∃v,s.heap.IsCell c v
 free:H X.env.locals=vk
 freeC:∀x c,X.env.cells.lookup x=vj c->H c=vk
 pin:∀p∈X.pn++pins,s.heap.get? p.1=vj p.2/\H p.1=vk/\p.1≠X.env.locals/\p.1∉X.fs/\∀v,p.2.data≠.cell v
 hok:HOk X.prog X.w H s.heap
 len:σ.length=X.N.length
section
variable {X:Cx}{pins:Pnn}{σ:List (Option V)}{H H':Hp}{s:lu}{h':Heap}
theorem Cx.Ok.nofr (ok:X.Ok){b:lE}{o:tT}(e:X.base.get? b=vj o):b∉X.fs:=λhb=>by
 have:=(ok.funs.mem hb).1;rw[e]at this;cases this
theorem Inv.bs (I:Inv X pins σ H s):∀b o,X.base.get? b=vj o->s.heap.get? b=vj o/\H b=vk:=λb o e=>
 ⟨I.base.keep b o (I.ok.bs b o e).1 (I.ok.bs b o e).2 (I.ok.nofr e) (I.ok.noex b o e),I.base.free b o (I.ok.bs b o e).1 (I.ok.bs b o e).2 (I.ok.noex b o e)⟩
theorem Inv.tb (I:Inv X pins σ H s):Tb X.K H:=λP p q e=>I.base.tbls _ _ _ (I.ok.tb P p q e)
theorem Inv.bk (I:Inv X pins σ H s):∀b o,X.base.get? b=vj o->s.heap.get? b=vj o:=λb o e=>(I.bs b o e).1
theorem Inv.mod (I:Inv X pins σ H s):Mod X.K X.mg X.base:=I.ok.mod
theorem Inv.kIn (I:Inv X pins σ H s):X.K.In s.heap:=I.ok.mod.kin.keeps I.bk
theorem Inv.nolimit (I:Inv X pins σ H s):s.heap.NoLimit:=I.ok.mod.nolimit.keeps I.bk
theorem Inv.lt (I:Inv X pins σ H s):X.env.locals<s.heap.objs.size:=let⟨_,hn,_⟩:=I.loc;hn.lt
theorem Inv.sz (I:Inv X pins σ H s):X.s₀.heap.objs.size<=s.heap.objs.size:=m5 I.ok.above (oE I.lt)
theorem Inv.nofs (I:Inv X pins σ H s){a:lE}(h:s.heap.objs.size<=a):a∉X.fs:=λhb=>by
 obtain⟨_,o,ho,_⟩:=I.ok.funs.mem hb;exact absurd (lY (lH ho) (m5 I.sz h)) (oY _)
theorem Inv.cne (I:Inv X pins σ H s):∀x c,X.env.cells.lookup x=vj c->c≠X.env.locals:=λx c e z=>by
 obtain⟨v,o,ho,hd⟩:=I.cell x c e;obtain⟨m,⟨o',es,ep,aH,hd',_⟩,_⟩:=I.loc;rw[z,aH]at ho;cases ho;rw[hd']at hd;cases hd
theorem Inv.funs (I:Inv X pins σ H s):s.heap.FunFrames X.base X.outer:=by
 have all:∀(l:List Env),(∀b∈frs l,b∈X.fs)->X.s₀.heap.FunFrames X.base l->s.heap.FunFrames X.base l:=by
  intro l;induction l with
  |nil=>intro _ _;trivial
  |cons env r ih=>
   intro hs hl;obtain⟨hk,⟨L,o,hf,hn,ho,hd⟩,hr⟩:=hl;have hL:L∈X.fs:=hs L (by unfold frs;rw[qf,hf];exact lW)
   obtain⟨sl,e⟩:=I.base.slot L o ho (I.ok.frf L hL) hL λz=>I.ok.exfs L z hL
   exact⟨hk,⟨L,_,hf,hn,e,hd⟩,ih (λb hb=>hs b (by unfold frs;rw[qf,hf];exact lV _ hb)) hr⟩
 exact all X.outer (λ_ hb=>hb) I.ok.funs
theorem Inv.stack (I:Inv X pins σ H s):s.heap.FunFrames X.base X.stack:=by
 rcases I.ok.stk with e |⟨e,hf⟩
 ·rw[e];exact I.funs
 ·rw[e]
  obtain⟨m,hn,_⟩:=I.loc;refine .cons (by rw[I.ok.kind];decide) hf hn ?_ I.funs
  exact Heap.get?_none_of_le (m5 I.ok.bsz I.ok.above)
theorem Inv.stkSub (I:Inv X pins σ H s):∀b∈frs X.stack,b∈X.env.locals::X.fs:=λb hb=>by
 rcases I.ok.stk with e |⟨e,hf⟩
 ·rw[e]at hb;exact lV _ hb
 ·rw[e]at hb
  unfold frs at hb;rw[qf,hf]at hb;exact hb
theorem Inv.stkFree (I:Inv X pins σ H s):∀b∈frs X.stack,H b=vk:=λb hb=>by
 rcases lQ.mp (I.stkSub b hb)with e |hb
 ·rw[e];exact I.free
 ·obtain⟨_,o,ho,_⟩:=I.ok.funs.mem hb
  exact I.base.free b o ho (I.ok.frf b hb) λz=>I.ok.exfs b z hb
theorem Inv.step {g':Array GenState}{t':Nat}{d':Drawn}{ch:List lE}(I:Inv X pins σ H s)
  (cp:∀b∈ch,(b∈X.ex\/X.s₀.heap.objs.size<=b)/\b≠X.env.locals/\(∀x c,X.env.cells.lookup x=vj c->c≠b)/\∀p∈X.pn++pins,p.1≠b)
  (keep:∀b o,b≠X.env.locals->b∉X.fs->b∉ch->s.heap.get? b=vj o->H b=vk->h'.get? b=vj o)
  (slot:∀b o,b≠X.env.locals->b∈X.fs->b∉ch->s.heap.get? b=vj o->H b=vk->∃sl,h'.get? b=vj {o with slots:=sl}) (free:∀b o,b∉ch->s.heap.get? b=vj o->H b=vk->H' b=vk)
  (there:∀b o,b∉ch->s.heap.get? b=vj o->∃o',h'.get? b=vj o')
  (tups:∀b xs,H b=vj (.tup xs)->H' b=vj (.tup xs)) (frzs:∀b o u,H b=vj (.frz o u)->H' b=vj (.frz o u)) (tbls:∀b p q,H b=vj (.tbl p q)->H' b=vj (.tbl p q))
  (ns:∀m,s.heap.Ns X.env.locals m->h'.Ns X.env.locals m) (hok:HOk X.prog X.w H' h') (hg:AllBare g'):
  Inv X pins σ H' {s with heap:=h',gens:=g',drawn:=d',toks:=t'}:=by
 have iB:∀b o,X.s₀.heap.get? b=vj o->b≠X.env.locals:=λb o e=>l0 (lY (lH e) I.ok.above)
 have fI:∀b o,X.s₀.heap.get? b=vj o->b∉X.ex->b∉ch:=λb o e hx hb=>by
  rcases(cp b hb).1 with z |z
  ·exact hx z
  ·exact absurd (lY (lH e) z) (oY _)
 have cellK:∀x c,X.env.cells.lookup x=vj c->∀v,s.heap.IsCell c v->h'.IsCell c v:=λx c e v ⟨o,ho,hd⟩=>by
  have d8:c∉ch:=λz=>(cp c z).2.2.1 x c e rfl
  by_cases hc:c∈X.fs
  ·obtain⟨sl,q⟩:=slot c o (I.cne x c e) hc d8 ho (I.freeC x c e)
   exact⟨_,q,hd⟩
  ·exact⟨o,keep c o (I.cne x c e) hc d8 ho (I.freeC x c e),hd⟩
 refine⟨I.ok,I.os,hg,⟨λb o e n hb hx=>?_,λb o e n hb hx=>?_,λb o e n hx=>?_,λb o e hx=>?_,λb xs e=>tups b xs (I.base.tups b xs e),λb o xs e=>frzs b o xs (I.base.frzs b o xs e),λb p q e=>tbls b p q (I.base.tbls b p q e)⟩,?_,λx c e=>?_,?_,λx c e=>?_,λp hp=>?_,hok,I.len⟩
 ·exact keep b o (iB b o e) hb (fI b o e hx) (I.base.keep b o e n hb hx) (I.base.free b o e n hx)
 ·obtain⟨sl,e1⟩:=I.base.slot b o e n hb hx
  obtain⟨f7,e2⟩:=slot b _ (iB b o e) hb (fI b o e hx) e1 (I.base.free b o e n hx);exact⟨f7,e2⟩
 ·obtain⟨o',e1⟩:=I.base.there b o e hx
  exact free b o' (fI b o e hx) e1 (I.base.free b o e n hx)
 ·obtain⟨o',e1⟩:=I.base.there b o e hx
  exact there b o' (fI b o e hx) e1
 ·obtain⟨m,hn,hl⟩:=I.loc
  refine⟨m,ns m hn,λi x v e1 e2 e3=>?_⟩
  obtain⟨u,r,l⟩:=hl i x v e1 e2 e3;refine⟨u,r,?_⟩;rcases l with l |⟨k,c,e,z⟩
  ·exact .inl l
  ·exact .inr ⟨k,c,e,cellK x c e _ z⟩
 ·obtain⟨v,z⟩:=I.cell x c e
  exact⟨v,cellK x c e v z⟩
 ·obtain⟨m,⟨o,_,_,ho,_⟩,_⟩:=I.loc
  exact free _ o (λz=>(cp _ z).2.1 rfl) ho I.free
 ·obtain⟨v,o,ho,hd⟩:=I.cell x c e
  exact free c o (λz=>(cp c z).2.2.1 x c e rfl) ho (I.freeC x c e)
 ·obtain⟨e,n,ne,nf,d⟩:=I.pin p hp
  have d8:p.1∉ch:=λz=>(cp p.1 z).2.2.2 p hp rfl
  exact⟨keep p.1 p.2 ne nf d8 e n,free p.1 p.2 d8 e n,ne,nf,d⟩
theorem Inv.un {t':Nat}(I:Inv X pins σ H s)(u:Un X.fs [] H H' s.heap h')(hok:HOk X.prog X.w H' h'):Inv X pins σ H' {s with heap:=h',toks:=t'}:=by
 obtain⟨m,⟨o,es,ep,ho,r⟩,_⟩:=id I.loc;obtain⟨sl,hL⟩:=u.any ho I.free (by simp)
 exact I.step (g':=s.gens) (d':=s.drawn) (ch:=[]) (λ_ z=>nomatch z) (λb o _ hb _ e n=>u.keep b o e n hb (by simp)) (λb o _ hb _ e n=>u.slot b o e n hb (by simp)) (λb o _ e n=>u.free b o e n (by simp)) (λb o _ e=>u.there b o e (by simp)) u.tups u.frzs u.tbls (λm' hm=>by
  obtain⟨o',es',ep',aH,r'⟩:=hm;rw[ho]at aH;cases aH;exact⟨_,es',ep',hL,r'⟩) hok I.bare
theorem Inv.call {g':Array GenState}{t':Nat}{d':Drawn}{ch:List lE}(I:Inv X pins σ H s)(u:Un (frs X.stack) ch H H' s.heap h')(hok:HOk X.prog X.w H' h')(hg:AllBare g')
  (cp:∀b∈ch,(b∈X.ex\/X.s₀.heap.objs.size<=b)/\b≠X.env.locals/\(∀x c,X.env.cells.lookup x=vj c->c≠b)/\∀p∈X.pn++pins,p.1≠b):
  Inv X pins σ H' {s with heap:=h',gens:=g',drawn:=d',toks:=t'}:=by
 obtain⟨m,⟨o,es,ep,ho,r⟩,_⟩:=id I.loc;obtain⟨sl,hL⟩:=u.any ho I.free λz=>(cp _ z).2.1 rfl
 exact I.step (ch:=ch) cp (λb o hL hb hc e n=>u.keep b o e n (λz=>(lQ.mp (I.stkSub b z)).elim hL hb) hc) (λb o _ _ hc e n=>u.any e n hc) (λb o hc e n=>u.free b o e n hc) (λb o hc e=>u.there b o e hc) u.tups u.frzs u.tbls (λm' hm=>by
  obtain⟨o',es',ep',aH,r'⟩:=hm;rw[ho]at aH;cases aH;exact⟨_,es',ep',hL,r'⟩) hok hg
theorem Inv.turned {t':Nat}{it:lE}(I:Inv X pins σ H s)(k:∀b o,b≠it->s.heap.get? b=vj o->h'.get? b=vj o)(hn:H it=vk)(hL:it≠X.env.locals)
  (h1:it∈X.ex\/X.s₀.heap.objs.size<=it) (h2:∀x c,X.env.cells.lookup x=vj c->c≠it) (h3:∀p∈X.pn++pins,p.1≠it):Inv X pins σ H {s with heap:=h',toks:=t'}:=by
 have d7:∀b u,H b=vj u->b≠it:=λb u e z=>by rw[z,hn]at e;cases e
 refine I.step (g':=s.gens) (d':=s.drawn) (ch:=[it]) (λb hb=>?_) (λb o _ _ hc e _=>k b o (λz=>hc (by simp[z])) e) (λb o _ _ hc e _=>⟨o.slots,k b o (λz=>hc (by simp[z])) e⟩) (λ_ _ _ _ n=>n)
  (λb o hc e=>⟨o,k b o (λz=>hc (by simp[z])) e⟩) (λ_ _ e=>e) (λ_ _ _ e=>e) (λ_ _ _ e=>e) (λm hm=>?_) (λb u e=>?_) I.bare
 ·have e:b=it:=by simpa using hb
  subst e;exact⟨h1,hL,h2,h3⟩
 ·obtain⟨o,es,ep,ho,r⟩:=hm
  exact⟨o,es,ep,k _ o (pN hL) ho,r⟩
 ·refine(I.hok b u e).stay (λc v hc q=>k c v ?_ q) (λ_ q=>q) λ_ _ q=>q
  rcases hc with z |z
  ·rw[z];exact d7 b u e
  ·exact d7 c _ z
theorem Inv.tok (I:Inv X pins σ H s)(t:Nat):Inv X pins σ H {s with toks:=t}:=I.un (h':=s.heap) (t':=t) Un.refl I.hok
theorem Inv.kept {t':Nat}(I:Inv X pins σ H s)(k:∀b u,s.heap.get? b=vj u->h'.get? b=vj u):Inv X pins σ H {s with heap:=h',toks:=t'}:=I.un (Un.kept k) (I.hok.kept k)
theorem Inv.laid {a:lE}{o:HO}{t':Nat}(I:Inv X pins σ H s)(k:∀b u,s.heap.get? b=vj u->h'.get? b=vj u)(hp:s.heap.objs.size<=a)(new:ObjOk X.prog X.w (upd H a o) h' a o):
  Inv X pins σ (upd H a o) {s with heap:=h',toks:=t'}:=I.un (Un.laid k hp (I.hok.fresh hp)) (I.hok.laid k hp new)
theorem Inv.write {x e:lE}{o:HO}{t':Nat}(I:Inv X pins σ H s)(mu:Mut (H x))(he:e=x\/H e=vj (.own x))(k:∀b u,b≠e->s.heap.get? b=vj u->h'.get? b=vj u)(bH:∃u,h'.get? e=vj u)
  (new:ObjOk X.prog X.w (upd H x o) h' x o):Inv X pins σ (upd H x o) {s with heap:=h',toks:=t'}:=I.un (Un.write mu he k bH) (I.hok.write mu he k bH new)
theorem Inv.pins_of {cO:Pnn}(I:Inv X pins σ H s)(h:∀p∈cO,s.heap.get? p.1=vj p.2/\H p.1=vk/\p.1≠X.env.locals/\p.1∉X.fs/\∀v,p.2.data≠.cell v):Inv X cO σ H s:=
 ⟨I.ok,I.os,I.bare,I.base,I.loc,I.cell,I.free,I.freeC,λp hp=>(m9.mp hp).elim (λz=>I.pin p (pz _ z)) (h p),I.hok,I.len⟩
theorem zf0_ {N:List Str}(hN:N.Nodup){i j:Nat}{x:Str}(a:N[i]?=vj x)(b:N[j]?=vj x):i=j:=by
 obtain⟨h1,e1⟩:=lO.mp a;obtain⟨h2,e2⟩:=lO.mp b;exact(sL hN).mp (e1.trans e2.symm)
theorem zil_ {M:Model}{A:my}{E:aV->lu->Prop}{i:Nat}{x:Str}{v:V}{u:aV}{Q:Unit->lu->Prop}(I:Inv X pins σ H s)(hN:X.N.Nodup)(hi:X.N[i]?=vj x)(hx:Loc X.env.scope x)(r:RelV v u)
  (h:∀s',Inv X pins (σ.set i (vj v)) H s'->(∃a,pB a s.heap s'.heap/\(a=X.env.locals\/X.env.cells.lookup x=vj a))->Q () s') (hf:X.fn x=vm\/X.env.scope.names.lookup x=vj .local:=by first |exact .inl rfl |exact .inr rfl |assumption):lX M A (storeName X.env x u) Q E s:=by
 obtain⟨m,hn,hl⟩:=id I.loc;have gT:(X.env.scope.kind == .class ||(X.env.scope.kind == .module && X.env.locals != X.env.globals))=vn:=by rw[I.ok.kind];rfl
 have eS:i<σ.length:=by rw[I.len];exact(lO.mp hi).1
 have cne:=I.cne;have tracked:∀{a:lE}{h':Heap},(∃o,s.heap.get? a=vj o/\H a=vk)->pB a s.heap h'->HOk X.prog X.w H h':=λ{a h'} ha hs b ob e=>by
  obtain⟨_,_,hfree⟩:=ha;refine(I.hok b ob e).stay (λc w' hc q=>(hs.2 c ?_).trans q) (λ_ q=>q) λ_ _ q=>q
  rintro rfl;rcases hc with rfl |hc
  ·rw[hfree]at e;cases e
  ·rw[hfree]at hc;cases hc
 rcases hx with hk |hk
 ·refine wpAny_storeName_local hk hn (λh' gI hs=>?_) gT
  obtain⟨oL,_,_,cQ,_⟩:=id hn;refine h _ ⟨I.ok,I.os,I.bare,⟨λb o e n hb hx=>?_,λb o e n hb hx=>?_,I.base.free,λb o e hx=>?_,I.base.tups,I.base.frzs,I.base.tbls⟩,⟨_,gI,λj y v' e1 e2 e3=>?_⟩,λy c e=>?_,I.free,I.freeC,λp hp=>?_,tracked ⟨oL,cQ,I.free⟩ hs,by simpa using I.len⟩ ⟨_,hs,.inl rfl⟩
  ·exact(hs.2 b (l0 (lY (lH e) I.ok.above))).trans (I.base.keep b o e n hb hx)
  ·obtain⟨sl,e1⟩:=I.base.slot b o e n hb hx
   exact⟨sl,(hs.2 b (l0 (lY (lH e) I.ok.above))).trans e1⟩
  ·obtain⟨o',e1⟩:=I.base.there b o e hx
   exact⟨o',(hs.2 b (l0 (lY (lH e) I.ok.above))).trans e1⟩
  ·by_cases hj:j=i
   ·subst hj
    rw[hi]at e1;cases e1;rw[nA eS]at e2;cases e2;exact⟨u,r,.inl ⟨hk,by simp⟩⟩
   ·rw[l6 (pN hj)]at e2
    obtain⟨u',r',q⟩:=hl j y v' e1 e2 e3;refine⟨u',r',?_⟩;rcases q with⟨k,e⟩|⟨k,c,e,z⟩
    ·refine .inl ⟨k,?_⟩
     have:y≠x:=λe=>hj (zf0_ hN e1 (e ▸ hi))
     simp[this,e]
    ·exact .inr ⟨k,c,e,z.sameBut hs (cne y c e)⟩
  ·obtain⟨w',z⟩:=I.cell y c e
   exact⟨w',z.sameBut hs (cne y c e)⟩
  ·obtain⟨e,n,ne,nf,d⟩:=I.pin p hp
   exact⟨(hs.2 p.1 ne).trans e,n,ne,nf,d⟩
 ·have dw:X.fn x=vm:=by
   rcases hf with z |z
   ·exact z
   ·rw[z]at hk;cases hk
  obtain⟨c,hc⟩:=I.ok.has x (.inl hk);obtain⟨w',z⟩:=I.cell x c hc;refine wpAny_storeName_cell I.ok.kind hk hc z (λh' aI hs=>?_)
  obtain⟨oc,hoc,hocd⟩:=id z;refine h {s with heap:=h'} ⟨I.ok,I.os,I.bare,⟨λb o e n hb hx=>?_,λb o e n hb hx=>?_,I.base.free,λb o e hx=>?_,I.base.tups,I.base.frzs,I.base.tbls⟩,⟨m,hn.sameBut hs (pN (cne x c hc)),λj y v' e1 e2 e3=>?_⟩,λy c' e=>?_,I.free,I.freeC,λp hp=>?_,tracked ⟨oc,hoc,I.freeC x c hc⟩ hs,by simpa using I.len⟩ ⟨c,hs,.inr hc⟩
  ·exact(hs.2 b (l0 (lY (lH e) (I.ok.cab x c dw hc)))).trans (I.base.keep b o e n hb hx)
  ·obtain⟨sl,e1⟩:=I.base.slot b o e n hb hx
   exact⟨sl,(hs.2 b (l0 (lY (lH e) (I.ok.cab x c dw hc)))).trans e1⟩
  ·obtain⟨o',e1⟩:=I.base.there b o e hx
   exact⟨o',(hs.2 b (l0 (lY (lH e) (I.ok.cab x c dw hc)))).trans e1⟩
  ·by_cases hj:j=i
   ·subst hj
    rw[hi]at e1;cases e1;rw[nA eS]at e2;cases e2;exact⟨u,r,.inr ⟨.inl hk,c,hc,aI⟩⟩
   ·rw[l6 (pN hj)]at e2
    obtain⟨u',r',q⟩:=hl j y v' e1 e2 e3;refine⟨u',r',?_⟩;rcases q with q |⟨k,c',e,z'⟩
    ·exact .inl q
    ·refine .inr ⟨k,c',e,z'.sameBut hs ?_⟩
     rintro rfl;exact hj (zf0_ hN e1 (I.ok.inj _ _ _ e hc ▸ hi))
  ·by_cases hcc:c'=c
   ·subst hcc;exact⟨_,aI⟩
   ·obtain⟨w2,z2⟩:=I.cell y c' e
    exact⟨w2,z2.sameBut hs hcc⟩
  ·obtain⟨e,n,ne,nf,d⟩:=I.pin p hp
   refine⟨(hs.2 p.1 ?_).trans e,n,ne,nf,d⟩;intro q;rw[q,hoc]at e;have q':oc=p.2:=l9 e;exact d w' (by rw[<- q'];exact hocd)
theorem zfs_ {M:Model}{A:my}{E:aV->lu->Prop}{i:Nat}{x:Str}{v:V}{u:aV}{Q:Unit->lu->Prop}(I:Inv X pins σ H s)(hN:X.N.Nodup)(hi:X.N[i]?=vj x)(hx:Loc X.env.scope x)(r:RelV v u)
  (h:∀s',Inv X pins (σ.set i (vj v)) H s'->Q () s') (hf:X.fn x=vm\/X.env.scope.names.lookup x=vj .local:=by first |exact .inl rfl |exact .inr rfl |assumption):lX M A (storeName X.env x u) Q E s:=
 zil_ I hN hi hx r (λs' I' _=>h s' I') hf
theorem Inv.call' {s':lu}{ch:List lE}(I:Inv X pins σ H s)(ho:s'.os=s.os)(u:Un (frs X.stack) ch H H' s.heap s'.heap)(hok:HOk X.prog X.w H' s'.heap)(hg:AllBare s'.gens)
  (cp:∀b∈ch,(b∈X.ex\/X.s₀.heap.objs.size<=b)/\b≠X.env.locals/\(∀x c,X.env.cells.lookup x=vj c->c≠b)/\∀p∈X.pn++pins,p.1≠b):Inv X pins σ H' s':=by
 obtain⟨h',g',d',t',o'⟩:=s';have e:o'=s.os:=ho;subst e;exact I.call (g':=g') (t':=t') (d':=d') u hok hg cp
end
abbrev XK:=aV->Option lE->Hp->Prop
noncomputable abbrev St:=List (Option V)
abbrev VK:=V->Hp->Prop
abbrev TE:=St->Hp->VK->Prop
abbrev TT:=St->Hp->(Bool->Hp->Prop)->Prop
abbrev TA:=St->Hp->(List V->Hp->Prop)->Prop
structure Ends where
 nx:St->Hp->Prop
 rt:VK
 bk:St->Hp->Prop:=λ_ _=>False
 ct:St->Hp->Prop:=λ_ _=>False
abbrev TS:=Ends->St->Hp->Prop
def EP (X:Cx)(pins:Pnn)(σ:St)(Q:VK)(u:aV)(s':lu):Prop:=∃v H',Inv X pins σ H' s'/\RelV v u/\Q v H'
def TP (X:Cx)(pins:Pnn)(σ:St)(Q:Bool->Hp->Prop)(b:Bool)(s':lu):Prop:=∃H',Inv X pins σ H' s'/\Q b H'
def AP (X:Cx)(pins:Pnn)(σ:St)(Q:List V->Hp->Prop)(us:List aV)(s':lu):Prop:=∃vs H',Inv X pins σ H' s'/\Vals vs us/\Q vs H'
def SP (X:Cx)(pins:Pnn)(D:Ends)(f:Flow)(s':lu):Prop:=
 match f with
 |.next=>∃ah H',Inv X pins ah H' s'/\D.nx ah H'
 |.brk=>∃ah H',Inv X pins ah H' s'/\D.bk ah H'
 |.cont=>∃ah H',Inv X pins ah H' s'/\D.ct ah H'
 |.ret u=>∃v ah H',Inv X pins ah H' s'/\RelV v u/\D.rt v H'
def PE (X:Cx)(e:lP)(t:TE):Prop:=
 ∀(pins:Pnn) (s:lu) (σ:St) (H:Hp) (Q:VK),Inv X pins σ H s->t σ H Q->lX (model X.prog X.w) X.A (eval e X.env) (EP X pins σ Q) X.xe s
def PT (X:Cx)(e:lP)(t:TT):Prop:=
 ∀(pins:Pnn) (s:lu) (σ:St) (H:Hp) (Q:Bool->Hp->Prop),Inv X pins σ H s->t σ H Q->lX (model X.prog X.w) X.A (isTrue e X.env (eval e X.env)) (TP X pins σ Q) X.xe s
def PW (X:Cx)(e:lP)(t:TT):Prop:=
 ∀(whole:Sem aV) (pins:Pnn) (s:lu) (σ:St) (H:Hp) (Q:Bool->Hp->Prop),Inv X pins σ H s->t σ H Q->lX (model X.prog X.w) X.A (isTrue e X.env whole) (TP X pins σ Q) X.xe s
theorem PW.pt {X:Cx}{e:lP}{t:TT}(h:PW X e t):PT X e t:=h _
def PA (X:Cx)(es:List lP)(t:TA):Prop:=
 ∀(pos:Pos) (pins:Pnn) (s:lu) (σ:St) (H:Hp) (Q:List V->Hp->Prop),Inv X pins σ H s->t σ H Q->lX (model X.prog X.w) X.A (spliced (oM pos (me es X.env))) (AP X pins σ Q) X.xe s
def PS (X:Cx)(st:mC)(t:TS):Prop:=
 ∀(pins:Pnn) (s:lu) (σ:St) (H:Hp) (D:Ends),Inv X pins σ H s->t D σ H->lX (model X.prog X.w) X.A (exec st X.env) (SP X pins D) X.xe s
def PSs (X:Cx)(st:List mC)(t:TS):Prop:=
 ∀(pins:Pnn) (s:lu) (σ:St) (H:Hp) (D:Ends),Inv X pins σ H s->t D σ H->lX (model X.prog X.w) X.A (execs st X.env) (SP X pins D) X.xe s
theorem thn {α:Type}{t:Sem α}{Q Q':α->lu->Prop}{M:Model}{A:my}{E:aV->lu->Prop}{s:lu}(h:lX M A t Q E s)(hQ:∀a s,Q a s->Q' a s):lX M A t Q' E s:=m4 h hQ λ_ _ x=>x
section
variable {X:Cx}
def tVar (i:Nat):TE:=λσ H Q=>∃v,σ[i]?=vj (vj v)/\Q v H
def tC (v:V):TE:=λ_ H Q=>Q v H
theorem zpN_ {i:Nat}{x:Str}{pos:Pos}(hN:X.N[i]?=vj x)(hv:Vis X.env.scope x)(hd:(x==("__debug__":Str))=vn:=by decide)(aC:(x==("__classdict__":Str))=vn:=by decide):PE X (.Name x pos) (tVar i):=by
 intro pins s σ H Q I h;obtain⟨v,e,h⟩:=h;obtain⟨m,hn,hl⟩:=I.loc;obtain⟨u,r,l⟩:=hl i x v hN e hv;have fin:EP X pins σ Q u s:=⟨v,H,I,r,h⟩;rcases l with⟨hk,hm⟩|⟨hk,c,hc,bw⟩
 ·exact wpAny_Name (wpAny_loadName_local I.ok.kind hk hn hm fin) hd
 ·rcases hk with hk |hk
  ·exact wpAny_Name (wpAny_loadName_cell I.ok.kind hk hc bw fin) hd
  ·exact wpAny_Name (wpAny_loadName_free I.ok.kind hk hc bw fin aC) hd
theorem zqx_ {i j pos}:PE X (.Constant (.int i) j pos) (tC (.int i)):=λ_ _ _ H _ I h=>wpAny_Constant_int ⟨.int i,H,I.tok _,⟨_,rfl⟩,h⟩
theorem pe_bl {b j pos}:PE X (.Constant (.bool b) j pos) (tC (.bl b)):=λ_ _ _ H _ I h=>Constant_bool ⟨.bl b,H,I,rfl,h⟩
theorem zrw_ {j pos}:PE X (.Constant .none j pos) (tC .non):=λ_ _ _ H _ I h=>Constant_none ⟨.non,H,I,rfl,h⟩
theorem zqn_ {x j pos}:PE X (.Constant (.str x) j pos) (tC (.str x)):=λ_ _ _ H _ I h=>Calls.Constant_str ⟨.str x,H,I.tok _,⟨_,rfl⟩,h⟩
def Gl (X:Cx)(x:Str):Prop:=X.env.kindOf x=vj .globalImplicit
theorem zeJ_ {E:aV->lu->Prop}{pins:Pnn}{s:lu}{σ:St}{H:Hp}{x:Str}{u:aV}{pos:Pos}{Q:aV->lu->Prop}(I:Inv X pins σ H s)(hg:Gl X x)(hm:X.mg x=vj u)(h:Q u s)
  (hd:(x==("__debug__":Str))=vn:=by decide):lX (model X.prog X.w) X.A (eval (.Name x pos) X.env) Q E s:=
 Calls.Name_function_global I.ok.kind hg (Calls.loadGlobal_global (by rw[I.ok.glob];exact I.mod.glob.keeps I.bk) hm h) hd
theorem zc2_ {E:aV->lu->Prop}{pins:Pnn}{s:lu}{σ:St}{H:Hp}{x:Str}{u:aV}{pos:Pos}{Q:aV->lu->Prop}(I:Inv X pins σ H s)(hg:Gl X x)(hm:X.mg x=vk)(hv:nU x=vj u)(h:Q u s)
  (hn:x ≠ "__name__":=by decide) (hd:(x==("__debug__":Str))=vn:=by decide):lX (model X.prog X.w) X.A (eval (.Name x pos) X.env) Q E s:=by
 obtain⟨mb,h1,h2⟩:=I.mod.blt;exact Calls.Name_function_global I.ok.kind hg (Calls.loadGlobal_builtin (by rw[I.ok.glob];exact I.mod.glob.keeps I.bk) hm (by rw[I.ok.blt];exact h1.keeps I.bk) ((h2 x hn).trans hv) h) hd
theorem znD_ {x:Str}{v:V}{u:aV}{pos:Pos}(hg:Gl X x)(hm:X.mg x=vj u)(r:RelV v u)(hd:(x==("__debug__":Str))=vn:=by decide):PE X (.Name x pos) (tC v):=
 λ_ _ _ H _ I h=>zeJ_ I hg hm ⟨v,H,I,r,h⟩ hd
theorem zmZ_ {x:Str}{v:V}{u:aV}{pos:Pos}(hg:Gl X x)(hm:X.mg x=vk)(hv:nU x=vj u)(r:RelV v u)(hn:x ≠ "__name__":=by decide)(hd:(x==("__debug__":Str))=vn:=by decide):PE X (.Name x pos) (tC v):=
 λ_ _ _ H _ I h=>zc2_ I hg hm hv ⟨v,H,I,r,h⟩ hn hd
variable {a:lP}{pos:Pos}
variable {tA:TT}
def tNot (t:TT):TT:=λσ H Q=>t σ H λc H1=>Q (!c) H1
theorem zl0_ (ha:PT X a tA):PW X (.BoolOp .And [a] pos) tA:=by
 intro wh pins s σ H Q I h;refine isTrue_and (thn (ha pins s σ H Q I h) λc s1 e=>?_)
 cases c with
 |true=>exact isTrue_and_nil e
 |false=>exact e
theorem zrl_ (ha:PT X a tA):PW X (.BoolOp .Or [a] pos) tA:=by
 intro wh pins s σ H Q I h;refine isTrue_or (thn (ha pins s σ H Q I h) λc s1 e=>?_)
 cases c with
 |false=>exact isTrue_or_nil e
 |true=>exact e
theorem zpD_ (ha:PT X a tA):PT X (.UnaryOp .Not a pos) (tNot tA):=by
 intro pins s σ H Q I h;exact isTrue_not (ha pins s σ H (λc H1=>Q (!c) H1) I h)
theorem zlz_ {op}{t:TE}(h:PE X a t):PE X (.BoolOp op [a] pos) t:=λpins s σ H Q I hw=>BoolOp_one (h pins s σ H Q I hw)
end
def SqL (K:Fgg)(H:Hp)(a:lE)(xs:List V):Prop:=
 Rd H a (.lst xs) \/
  ∃(o:tT) (aa:Array aV) (n:Nat),K.lookup a=vj o/\o.cls=.type "list" /\ o.dict=vk/\o.data=.seq aa n/\aa.size<=lL/\Vals xs aa.toList
def SqT (K:Fgg)(H:Hp)(a:lE)(xs:List V):Prop:=
 Rd H a (.tup xs) \/
  ∃(o:tT) (aa:Array aV) (n:Nat),K.lookup a=vj o/\o.cls=.type "tuple" /\ o.data=.seq aa n/\aa.size<=lL/\Vals xs aa.toList
noncomputable def absV:aV->Option V
 |.none=>vj .non
 |.bool b=>vj (.bl b)
 |.int i _=>vj (.int i)
 |.str x _=>vj (.str x)
 |.bytes b _=>vj (.byt b)
 |.float b _=>vj (.flt b)
 |.ref a=>vj (.ref a)
 |.type n=>vj (.ty n)
 |_=>vk
theorem RelV.abs {x:V}{u:aV}(r:RelV x u):absV u=vj x:=by
 cases x with
 |non=>cases r;rfl
 |bl _=>cases r;rfl
 |int _=>obtain⟨t,rfl⟩:=r;rfl
 |str _=>obtain⟨t,rfl⟩:=r;rfl
 |byt _=>obtain⟨t,rfl⟩:=r;rfl
 |flt _=>obtain⟨t,rfl⟩:=r;rfl
 |ref _=>cases r;rfl
 |ty _=>cases r;rfl
theorem RelV.inj {x y:V}{u:aV}(r:RelV x u)(q:RelV y u):x=y:=l9 (r.abs.symm.trans q.abs)
theorem Vals.inj:∀{xs ys:List V}{us:List aV},Vals xs us->Vals ys us->xs=ys
 |_,_,_,.nil,.nil=>rfl
 |_,_,_,.cons r t,.cons r' t'=>by rw[r.inj r',Vals.inj t t']
section
variable {X:Cx}{pins:Pnn}{σ:St}{H:Hp}{s:lu}{a:lE}{xs ys:List V}
theorem SqL.of {K:Fgg}(h:H a=vj (.lst xs)):SqL K H a xs:=.inl (.inl h)
theorem SqT.of {K:Fgg}(h:H a=vj (.tup xs)):SqT K H a xs:=.inl (.inl h)
theorem Inv.list (I:Inv X pins σ H s)(h:SqL X.K H a xs):∃aa:List aV,Vals xs aa/\PlainL s.heap a aa.toArray/\xs.length<=lL:=by
 rcases h with h |⟨o,aa,n,hk,hc,hd,hs,hz,r⟩
 ·obtain⟨z,aa,n,r,e⟩:=h.ok I.hok
  exact⟨aa,r,⟨_,n,e,rfl,rfl,rfl⟩,z⟩
 ·refine⟨aa.toList,r,⟨o,n,I.kIn a o hk,hc,hd,by simpa using hs⟩,?_⟩
  have e:=r.length;simp only[mQ]at e;lia
theorem Inv.tuple (I:Inv X pins σ H s)(h:SqT X.K H a xs):∃aa:List aV,Vals xs aa/\IsTup s.heap a aa.toArray/\xs.length<=lL:=by
 rcases h with h |⟨o,aa,n,hk,hc,hs,hz,r⟩
 ·obtain⟨z,aa,r,p⟩:=h.ok I.hok
  exact⟨aa,r,p,z⟩
 ·refine⟨aa.toList,r,⟨o,I.kIn a o hk,hc,n,by simpa using hs⟩,?_⟩
  have e:=r.length;simp only[mQ]at e;lia
theorem Inv.list_inj (I:Inv X pins σ H s)(h:SqL X.K H a xs)(h':SqL X.K H a ys):xs=ys:=by
 obtain⟨aa,r,⟨o,n,e,_,_,d⟩,_⟩:=I.list h;obtain⟨its',r',⟨o',n',e',_,_,d'⟩,_⟩:=I.list h';rw[e]at e';cases e';rw[d]at d';injection d' with d1 _;have:aa=its':=by simpa using congrArg qS d1
 subst this;exact r.inj r'
theorem Inv.tuple_inj (I:Inv X pins σ H s)(h:SqT X.K H a xs)(h':SqT X.K H a ys):xs=ys:=by
 obtain⟨aa,r,⟨o,e,_,n,d⟩,_⟩:=I.tuple h;obtain⟨its',r',⟨o',e',_,n',d'⟩,_⟩:=I.tuple h';rw[e]at e';cases e';rw[d]at d';injection d' with d1 _;have:aa=its':=by simpa using congrArg qS d1
 subst this;exact r.inj r'
end
noncomputable abbrev Cx.wish (X:Cx)(E:aV->lu->Prop):Cx:={X with xe:=E}
abbrev Cx.nox (X:Cx):Cx:=X.wish λ_ _=>False
theorem Cx.Ok.wish {X:Cx}(ok:X.Ok)(E:aV->lu->Prop):(X.wish E).Ok:=
 ⟨ok.mod,ok.kind,ok.glob,ok.blt,ok.above,ok.inj,ok.has,ok.cab,ok.hd,ok.frames,ok.stk,ok.exf,ok.bs,ok.bsz,ok.noex,ok.exfs,ok.funs,ok.frf,ok.tb⟩
theorem Cx.Ok.unwish {X:Cx}{E:aV->lu->Prop}(ok:(X.wish E).Ok):X.Ok:=
 ⟨ok.mod,ok.kind,ok.glob,ok.blt,ok.above,ok.inj,ok.has,ok.cab,ok.hd,ok.frames,ok.stk,ok.exf,ok.bs,ok.bsz,ok.noex,ok.exfs,ok.funs,ok.frf,ok.tb⟩
section
variable {X:Cx}{pins:Pnn}{σ:St}{H:Hp}{s:lu}{E:aV->lu->Prop}
theorem Inv.wish (I:Inv X pins σ H s)(E:aV->lu->Prop):Inv (X.wish E) pins σ H s:=⟨I.ok.wish E,I.os,I.bare,I.base,I.loc,I.cell,I.free,I.freeC,I.pin,I.hok,I.len⟩
theorem Inv.unwish (I:Inv (X.wish E) pins σ H s):Inv X pins σ H s:=⟨I.ok.unwish,I.os,I.bare,I.base,I.loc,I.cell,I.free,I.freeC,I.pin,I.hok,I.len⟩
theorem SP.unwish {D:Ends}{f:Flow}{s':lu}(h:SP (X.wish E) pins D f s'):SP X pins D f s':=by
 cases f with
 |next=>obtain⟨ah,H',I,q⟩:=h;exact⟨ah,H',I.unwish,q⟩
 |brk=>obtain⟨ah,H',I,q⟩:=h;exact⟨ah,H',I.unwish,q⟩
 |cont=>obtain⟨ah,H',I,q⟩:=h;exact⟨ah,H',I.unwish,q⟩
 |ret u=>obtain⟨v,ah,H',I,r,q⟩:=h;exact⟨v,ah,H',I.unwish,r,q⟩
end
section
variable {X:Cx}{st:mC}{rest:List mC}{t u:TS}{e:lP}{te:TE}{pos:Pos}
def tNext:TS:=λD σ H=>D.nx σ H
def tSeq (t u:TS):TS:=λD σ H=>t {D with nx:=u D} σ H
theorem zjc_:PSs X [] tNext:=λ_ _ σ H _ I h=>wpAny_execs_nil ⟨σ,H,I,h⟩
theorem zgb_ (h1:PS X st t)(h2:PSs X rest u):PSs X (st::rest) (tSeq t u):=by
 intro pins s σ H D I h;refine wpAny_execs_cons (thn (h1 pins s σ H {D with nx:=u D} I h) λf s1 q=>?_)
 cases f with
 |next=>
  obtain⟨ah,H',I',q⟩:=q;exact h2 pins s1 ah H' D I' q
 |ret v=>exact q
 |brk=>exact q
 |cont=>exact q
def tCont:TS:=λD σ H=>D.ct σ H
theorem zlG_:PS X (.Pass pos) tNext:=λ_ _ σ H _ I h=>wpAny_Pass ⟨σ,H,I,h⟩
theorem ze9_:PS X (.Continue pos) tCont:=λ_ _ σ H _ I h=>wpAny_Continue ⟨σ,H,I,h⟩
theorem Inv.quiet {pins:Pnn}{σ:St}{H:Hp}{s:lu}(I:Inv X pins σ H s):interactive X.env=vn:=by simp[interactive,I.ok.kind]
theorem zqJ_ {x j pos pos'}:PS X (.Expr (.Constant (.str x) j pos) pos') tNext:=λ_ s σ H _ I h=>wpAny_Expr (Calls.Constant_str (show SP X _ _ .next {s with toks:=s.toks+1}from⟨σ,H,I.tok _,h⟩)) I.quiet
def tDrop (te:TE):TS:=λD σ H=>te σ H λ_ H1=>D.nx σ H1
theorem zmi_ (he:PE X e te)(hs:swapsWith e vk pos.line X.env=pure vn:=by rfl):PS X (.Expr e pos) (tDrop te):=by
 intro pins s σ H D I h;exact wpAny_Expr_any (thn (he pins s σ H _ I h) λv s1 ⟨x,H1,I1,r1,q1⟩=>⟨σ,H1,I1,q1⟩) I.quiet hs
def tRet (te:TE):TS:=λD σ H=>te σ H D.rt
theorem zmy_ (he:PE X e te):PS X (.Return (vj e) pos) (tRet te):=by
 intro pins s σ H D I h;exact wpAny_Return_some (thn (he pins s σ H _ I h) λv s1 ⟨x,H1,I1,r1,q1⟩=>⟨x,σ,H1,I1,r1,q1⟩)
def tRetN:TS:=λD _ H=>D.rt .non H
theorem zn4_:PS X (.Return vk pos) tRetN:=λ_ _ σ H _ I h=>wpAny_Return_none ⟨.non,σ,H,I,rfl,h⟩
def tNever:TS:=λ_ _ _=>False
theorem zkQ_:PS X st tNever:=λ_ _ _ _ _ _ h=>h.elim
end
abbrev TG:=V->St->Hp->(St->Hp->Prop)->Prop
abbrev TGs:=List V->St->Hp->(St->Hp->Prop)->Prop
def PG (X:Cx)(target:lP)(t:TG):Prop:=
 ∀(pins:Pnn) (s:lu) (σ:St) (H:Hp) (v:V) (u:aV) (Q:St->Hp->Prop),Inv X pins σ H s->RelV v u->t v σ H Q ->
  lX (model X.prog X.w) X.A (assign target X.env u) (λ_ s'=>∃ah H',Inv X pins ah H' s'/\Q ah H') X.xe s
def PGs (X:Cx)(ts:List lP)(t:TGs):Prop:=
 ∀(pins:Pnn) (s:lu) (σ:St) (H:Hp) (vs:List V) (us:List aV) (Q:St->Hp->Prop),Inv X pins σ H s->Vals vs us->t vs σ H Q ->
  lX (model X.prog X.w) X.A (assignInOrder ((nI ts X.env).map (·.2)) us) (λ_ s'=>∃ah H',Inv X pins ah H' s'/\Q ah H') X.xe s
abbrev TSet:=V->V->V->Hp->(Hp->Prop)->Prop
def PSet (X:Cx)(t:TSet):Prop:=
 ∀(pins:Pnn) (s:lu) (σ:St) (H:Hp) (o i v:V) (ov iv u:aV) (Q:Hp->Prop),Inv X pins σ H s->RelV o ov->RelV i iv->RelV v u->t o i v H Q ->
  lX (model X.prog X.w) X.A (setItem ov iv u) (λ_ s'=>∃H',Inv X pins σ H' s'/\Q H') X.xe s
section
variable {X:Cx}{pos:Pos}
def gName (i:Nat):TG:=λv σ H Q=>Q (σ.set i (vj v)) H
theorem znh_ {i:Nat}{x:Str}(hN:X.N.Nodup)(hi:X.N[i]?=vj x)(hx:Loc X.env.scope x)(hf:X.fn x=vm\/X.env.scope.names.lookup x=vj .local:=by first |exact .inl rfl |exact .inr rfl |assumption):PG X (.Name x pos) (gName i):=by
 intro pins s σ H v u Q I r h;exact wpAny_assign_Name (zfs_ I hN hi hx r (λs' I'=>⟨_,H,I',h⟩) hf)
def gNil:TGs:=λvs σ H Q=>vs=[]/\Q σ H
def gCons (t:TG)(u:TGs):TGs:=λvs σ H Q=>∃v r,vs=v::r/\t v σ H λah H'=>u r ah H' Q
theorem znA_:PGs X [] gNil:=by
 intro pins s σ H vs us Q I r h;obtain⟨e,h⟩:=h;subst e;cases r;exact assignInOrder_nil ⟨σ,H,I,h⟩
theorem zke_ {e:lP}{es:List lP}{t:TG}{u:TGs}(h1:PG X e t)(h2:PGs X es u)
  (hs:(nI (e::es) X.env).map (·.2)=assign e X.env::(nI es X.env).map (·.2):=by rfl):PGs X (e::es) (gCons t u):=by
 intro pins s σ H vs us Q I r h;obtain⟨v,vr,e1,h⟩:=h;subst e1;cases r with
 |cons r rr=>
  rw[hs];refine assignInOrder_cons (thn (h1 pins s σ H _ _ _ I r h) λ_ s1 af=>?_)
  obtain⟨i3,H1,I1,q1⟩:=af;exact h2 pins s1 i3 H1 _ _ Q I1 rr q1
def gTup (K:Fgg)(n:Nat)(t:TGs):TG:=λv σ H Q=>∃a xs,v=.ref a/\SqT K H a xs/\xs.length=n/\t xs σ H Q
theorem zp2_ {es:List lP}{k:Nat}{t:TGs}{n:Nat}(hc:X.calm=vm)(h:PGs X es t)
  (hn:(nI es X.env).length=n:=by rfl) (gE:(nI es X.env).findIdx? (·.1)=vk:=by rfl):PG X (.Tuple es k pos) (gTup X.K n t):=by
 intro pins s σ H v u Q I r hw;obtain⟨a,xs,e1,hq,hl,hw⟩:=hw;subst e1;cases r;obtain⟨aa,rv,ht,hz⟩:=I.tuple hq;refine assign_Tuple_tuple (I.ok.hd hc) ht (by simp[hn,<- hl,rv.length]) gE λh' hx=>?_
 have I1:Inv X pins σ H {s with heap:=h'}:=I.kept (t':=s.toks) λb o e=>hx b o (l0 (lH e)) e
 exact h pins _ σ H xs _ Q I1 (by simpa using rv) hw
def gSub (to ti:TE)(t:TSet):TG:=λv σ H Q=>to σ H λo H1=>ti σ H1 λi H2=>t o i v H2 λH3=>Q σ H3
theorem zpZ_ {o i:lP}{to ti:TE}{t:TSet}(ho:PE X o to)(hi:PE X i ti)(hs:PSet X t)
  (ha:∀v,assign (.Subscript o i pos) X.env v=(do
   let ov <- holding [v] (eval o X.env)
   let iv <- holding [v,ov] (eval i X.env)
   standAt pos
   holding [v,ov,iv] (setItem ov iv v)
   release [v,ov,iv] []):=by intro _;rfl):PG X (.Subscript o i pos) (gSub to ti t):=by
 intro pins s σ H v u Q I r h;rw[ha];refine ll (wpAny_holding (thn (ho pins s σ H _ I h) λov s1 af=>?_))
 obtain⟨x,H1,I1,r1,q1⟩:=af;refine ll (wpAny_holding (thn (hi pins s1 σ H1 _ I1 q1) λiv s2 af=>?_))
 obtain⟨y,H2,I2,r2,q2⟩:=af;refine ll (wpAny_standAt (ll (wpAny_holding (thn (hs pins s2 σ H2 x y v ov iv u _ I2 r1 r2 r q2) λ_ s3 af=>?_))))
 obtain⟨H3,I3,q3⟩:=af;exact wpAny_release ⟨σ,H3,I3,q3⟩
def tAsg (te:TE)(g:TG):TS:=λD σ H=>te σ H λx H1=>g x σ H1 D.nx
theorem zqT_ {tg e:lP}{te:TE}{g:TG}(he:PE X e te)(hg:PG X tg g)(hs:swapsWithSole [tg] e pos.line X.env=pure vn:=by rfl)(hw:swappedStores [tg] e X.env=pure vk:=by rfl)
  (h1:(nI [tg] X.env).map (·.2)=[assign tg X.env]:=by rfl):PS X (.Assign [tg] e pos) (tAsg te g):=by
 intro pins s σ H D I h;refine wpAny_Assign_stores (thn (he pins s σ H _ I h) λv s1 af=>?_) hs hw
 obtain⟨x,H1,I1,r1,q1⟩:=af;rw[h1];exact thn (hg pins s1 σ H1 x v _ I1 r1 q1) λ_ s2 q=>q
theorem znw_ {i:Nat}{x:Str}{e:lP}{te:TE}{pos':Pos}(hN:X.N.Nodup)(hi:X.N[i]?=vj x)(hx:Loc X.env.scope x)(he:PE X e te)(hs:swapsWith e (vj (.Name x pos')) pos.line X.env=pure vn:=by rfl)(hf:X.fn x=vm\/X.env.scope.names.lookup x=vj .local:=by first |exact .inl rfl |exact .inr rfl |assumption):
  PS X (.Assign [.Name x pos'] e pos) (tAsg te (gName i)):=by
 intro pins s σ H D I h;refine wpAny_Assign_Name (thn (he pins s σ H _ I h) λv s1 af=>?_) hs
 obtain⟨y,H1,I1,r1,q1⟩:=af;exact zfs_ I1 hN hi hx r1 (λs2 I2=>⟨_,H1,I2,q1⟩) hf
end
structure It where
 go:Nat->Hp->Prop
 yld:Nat->Hp->V->Hp->Prop
 stop:Nat->Hp->Prop
def FpOk (X:Cx)(pins:Pnn)(H:Hp)(b:lE):Prop:=
 H b=vk/\b≠X.env.locals/\b∉X.fs/\(b∈X.ex\/X.s₀.heap.objs.size<=b)/\(∀x c,X.env.cells.lookup x=vj c->c≠b)/\∀p∈X.pn++pins,p.1≠b
theorem Inv.fpOk {X:Cx}{pins:Pnn}{σ:St}{H H':Hp}{s:lu}{b:lE}(I:Inv X pins σ H s)(hb:s.heap.objs.size<=b)(hn:H' b=vk):FpOk X pins H' b:=by
 refine⟨hn,oT (lY I.lt hb),I.nofs hb,.inr (m5 I.sz hb),λx c e z=>?_,λp hp z=>?_⟩
 ·obtain⟨v,q⟩:=I.cell x c e
  exact absurd (lY q.lt (by rw[z];exact hb)) (oY _)
 ·exact absurd (lY (lH (I.pin p hp).1) (by rw[z];exact hb)) (oY _)
structure Turn (P:l5)(w:mx)(K:Fgg)(tg:lP)(J:It)(fp:List lE)(it:lE)(tn:Nat->Heap->Prop):Prop where
 mem:it∈fp
 obj:∀i h,tn i h->∀b∈fp,∃o,h.get? b=vj o/\∀v,o.data≠.cell v
 keep:∀i h h',tn i h->(∀b∈fp,∀o,h.get? b=vj o->h'.get? b=vj o)->tn i h'
 item:∀(X:Cx),X.prog=P->X.w=w->X.K=K->X.calm=vm->∀(i:Nat) (pins:Pnn) (s:lu) (σ:St) (H:Hp) (E:aV->lu->Prop),Inv X pins σ H s->(∀b∈fp,FpOk X pins H b)->tn i s.heap->J.go i H ->
  lX (model P w) X.A (pyNext (.ref it)) (λr s1=>∃u,r=vj u /\
   lX (model P w) X.A (letOwnedTupleGo tg (.ref it) u) (λ_ s2=>∃x H',Inv X pins σ H' s2/\RelV x u/\J.yld i H x H'/\tn (i+1) s2.heap/\∀b∈fp,H' b=vk) E s1) E s
 done:∀(X:Cx),X.prog=P->X.w=w->X.K=K->X.calm=vm->∀(i:Nat) (pins:Pnn) (s:lu) (σ:St) (H:Hp) (E:aV->lu->Prop),Inv X pins σ H s->(∀b∈fp,FpOk X pins H b)->tn i s.heap->J.stop i H ->
  lX (model P w) X.A (pyNext (.ref it)) (λr s1=>r=vk/\Inv X pins σ H s1) E s
 self:∀(A:my) (i:Nat) (s:lu) (Q:aV->lu->Prop) (E:aV->lu->Prop),tn i s.heap->Q (.ref it) s->lX (model P w) A (pyIter (.ref it)) Q E s
abbrev TI:=St->Hp->(It->Hp->Prop)->Prop
def PIE (X:Cx)(pins:Pnn)(σ:St)(tg:lP)(R:It->Hp->Prop)(fK:aV)(s2:lu):Prop:=
 ∃(it:lE) (fp:List lE) (tn:Nat->Heap->Prop) (J:It) (H':Hp),fK=.ref it/\Inv X pins σ H' s2/\Turn X.prog X.w X.K tg J fp it tn/\tn 0 s2.heap/\(∀b∈fp,FpOk X pins H' b)/\R J H'
def PI (X:Cx)(tg iter:lP)(wi:TI):Prop:=
 ∀(pins:Pnn) (s:lu) (σ:St) (H:Hp) (R:It->Hp->Prop),Inv X pins σ H s->wi σ H R ->
  lX (model X.prog X.w) X.A (eval iter X.env) (λv s1=>lX (model X.prog X.w) X.A (pyIter v) (PIE X pins σ tg R) X.xe s1) X.xe s
theorem zoG_ {M:Model}{A:my}{E:aV->lu->Prop}{s:lu}{tg:lP}{it:lE}{u:aV}{o:tT}{n:String}{vs:Array aV}{Q:Unit->lu->Prop}(ho:s.heap.get? it=vj o)(hc:o.cls=.type n)(hd:o.data=.fields vs)
  (hn:["enumerate", "zip", "dict_itemiterator", "dict_reverseitemiterator", "odict_iterator", "itertools.zip_longest", "itertools.pairwise"].contains n=vn) (hQ:Q () s):lX M A (letOwnedTupleGo tg (.ref it) u) Q E s:=by
 unfold letOwnedTupleGo
 cases tg<;>first
  |exact lM hQ
  | (cases u<;>first
    |exact lM hQ
    | (refine ll (wpAny_load ho ?_)
       rw[hc,hd];show lX M A (if(["enumerate", "zip", "dict_itemiterator", "dict_reverseitemiterator", "odict_iterator", "itertools.zip_longest", "itertools.pairwise"].contains n && vs[0]?==vj (rawInt _))=vm then _ else _) Q E s
       rw[if_neg (by intro h;rw[hn,Bool.false_and]at h;cases h)]
       exact lM hQ))
def Itl (K:Fgg)(a:lE):It:=
 ⟨λi H=>∃xs x,SqL K H a xs/\xs[i]?=vj x,λi H x H'=>H'=H/\∀xs,SqL K H a xs->xs[i]?=vj x,λi H=>∃xs,SqL K H a xs/\xs.length<=i⟩
def Itt (K:Fgg)(a:lE):It:=
 ⟨λi H=>∃xs x,SqT K H a xs/\xs[i]?=vj x,λi H x H'=>H'=H/\∀xs,SqT K H a xs->xs[i]?=vj x,λi H=>∃xs,SqT K H a xs/\xs.length<=i⟩
noncomputable def Itr (lo:Int)(n:Nat):It:=⟨λi _=>i<n,λi H x H'=>H'=H/\x=.int (lo+i),λi _=>n<=i⟩
theorem ziD_ {P:l5}{w:mx}{K:Fgg}{tg:lP}(a it:lE):Turn P w K tg (Itl K a) [it] it (λi h=>h.IsListIter it a i) where
 mem:=by simp
 obj:=λi h st b hb=>by
  have e:b=it:=by simpa using hb
  subst e;obtain⟨o,e,c,d⟩:=st;exact⟨o,e,λv z=>by rw[d]at z;cases z⟩
 keep:=λi h h' st k=>st.at λo e=>k it (by simp) o e
 item:=by
  intro X hP hw hK hc i pins s σ H E I hf st hg;subst hP hw hK;obtain⟨xs,x,hq,hx⟩:=hg;obtain⟨aa,rv,p,hz⟩:=I.list hq;obtain⟨u,hu,ru⟩:=rv.get hx;obtain⟨f0,f1,f2,f3,f4,f5⟩:=hf it (by simp)
  refine wpAny_pyNext_list_item st p.isList (x:=u) (by simpa using hu) λh' st' sb=>?_
  have I1:Inv X pins σ H {s with heap:=h'}:=I.turned (t':=s.toks) (λb o hb e=>(sb.2 b hb).trans e) f0 f1 f3 f4 f5
  obtain⟨o,e,c,d⟩:=id st';exact⟨u,rfl,zoG_ (s:={s with heap:=h'}) e c d (by decide) ⟨x,H,I1,ru,⟨rfl,λys hy=>by rw[I.list_inj hy hq];exact hx⟩,st',λb hb=>(hf b hb).1⟩⟩
 done:=by
  intro X hP hw hK hc i pins s σ H E I hf st hg;subst hP hw hK;obtain⟨xs,hq,hx⟩:=hg;obtain⟨aa,rv,p,hz⟩:=I.list hq;obtain⟨f0,f1,f2,f3,f4,f5⟩:=hf it (by simp)
  have hl:=rv.length;exact wpAny_pyNext_list_end (I.ok.hd hc) st p.isList (by simp;lia) λh' eb=>⟨rfl,I.turned (t':=s.toks) (λb o hb e=>eb b o hb e) f0 f1 f3 f4 f5⟩
 self:=λ_ _ _ _ _ st h=>wpAny_pyIter_listiter st h
theorem zgv_ {P:l5}{w:mx}{K:Fgg}{tg:lP}(a it:lE):Turn P w K tg (Itt K a) [it] it (λi h=>h.IsTupleIter it a i) where
 mem:=by simp
 obj:=λi h st b hb=>by
  have e:b=it:=by simpa using hb
  subst e;obtain⟨o,e,c,d⟩:=st;exact⟨o,e,λv z=>by rw[d]at z;cases z⟩
 keep:=λi h h' st k=>st.at λo e=>k it (by simp) o e
 item:=by
  intro X hP hw hK hc i pins s σ H E I hf st hg;subst hP hw hK;obtain⟨xs,x,hq,hx⟩:=hg;obtain⟨aa,rv,p,hz⟩:=I.tuple hq;obtain⟨u,hu,ru⟩:=rv.get hx;obtain⟨f0,f1,f2,f3,f4,f5⟩:=hf it (by simp)
  refine wpAny_pyNext_tuple_item st (show s.heap.IsTuple a aa.toArray from p) (x:=u) (by simpa using hu) λh' st' sb=>?_
  have I1:Inv X pins σ H {s with heap:=h'}:=I.turned (t':=s.toks) (λb o hb e=>(sb.2 b hb).trans e) f0 f1 f3 f4 f5
  obtain⟨o,e,c,d⟩:=id st';exact⟨u,rfl,zoG_ (s:={s with heap:=h'}) e c d (by decide) ⟨x,H,I1,ru,⟨rfl,λys hy=>by rw[I.tuple_inj hy hq];exact hx⟩,st',λb hb=>(hf b hb).1⟩⟩
 done:=by
  intro X hP hw hK hc i pins s σ H E I hf st hg;subst hP hw hK;obtain⟨xs,hq,hx⟩:=hg;obtain⟨aa,rv,p,hz⟩:=I.tuple hq;obtain⟨f0,f1,f2,f3,f4,f5⟩:=hf it (by simp)
  have hl:=rv.length;exact wpAny_pyNext_tuple_end (I.ok.hd hc) st (show s.heap.IsTuple a aa.toArray from p) (by simp;lia) λh' eb=>⟨rfl,I.turned (t':=s.toks) (λb o hb e=>eb b o hb e) f0 f1 f3 f4 f5⟩
 self:=λ_ _ _ _ _ st h=>wpAny_pyIter_tupleiter st h
theorem zg7_ {P:l5}{w:mx}{K:Fgg}{tg:lP}(it:lE)(lo:Int)(n:Nat):Turn P w K tg (Itr lo n) [it] it (λi h=>IsRangeIter h it (lo+(i:Nat)*1) ((n:Int)-(i:Nat)) 1) where
 mem:=by simp
 obj:=λi h st b hb=>by
  have e:b=it:=by simpa using hb
  subst e;exact⟨_,st,λv z=>by
   have z':Data.fields _=Data.cell v:=z;cases z'⟩
 keep:=λi h h' st k=>k it (by simp) _ st
 item:=by
  intro X hP hw hK hc i pins s σ H E I hf st hg;subst hP hw hK;obtain⟨f0,f1,f2,f3,f4,f5⟩:=hf it (by simp)
  have W:=Walks.range (prog:=X.prog) (w:=X.w) (I.ok.hd hc) it lo 1 n;refine W.item i s _ _ hg st λv h' tk hv st' kk=>?_
  obtain⟨t,rfl⟩:=hv;have I1:Inv X pins σ H {s with heap:=h',toks:=tk}:=I.turned (λb o hb e=>kk b o (by simpa using hb) e) f0 f1 f3 f4 f5
  refine⟨_,rfl,zoG_ (s:={s with heap:=h',toks:=tk}) (n:="range_iterator") st' rfl rfl (by decide) ⟨.int (lo+i),H,I1,⟨t,?_⟩,⟨rfl,rfl⟩,st',λb hb=>(hf b hb).1⟩⟩
  rw[Int.mul_one]
 done:=by
  intro X hP hw hK hc i pins s σ H E I hf st hg;subst hP hw hK;obtain⟨f0,f1,f2,f3,f4,f5⟩:=hf it (by simp)
  exact wpAny_pyNext_range_end (I.ok.hd hc) st (by have:n<=i:=hg;lia) λh' eb=>⟨rfl,I.turned (t':=s.toks) (λb o hb e=>eb b o hb e) f0 f1 f3 f4 f5⟩
 self:=λ_ _ _ _ _ st h=>wpAny_pyIter_rangeiter st h
section
variable {X:Cx}{tg:lP}
theorem zfJ_ {pins:Pnn}{σ:St}{H:Hp}{s:lu}{R:It->Hp->Prop}{E:aV->lu->Prop}{lo hi:Int}{t u v:Tok}{tk:Nat}(I:Inv X pins σ H s)(h1 : -(2 ^ 62)<=lo)(h2:lo<2 ^ 62)(h3 : -(2 ^ 62)<=hi)(h4:hi<2 ^ 62)
  (q:R (Itr lo (hi-lo).toNat) H):lX (model X.prog X.w) X.A (pyIter (.ref s.heap.objs.size)) (PIE X pins σ tg R) E {s with heap:=s.heap.push {cls:=.type "range",data:=.fields #[.int lo t,.int hi u,.int 1 v]},toks:=tk}:=by
 refine wpAny_pyIter_range (IsRange.new ..) (small_one h1 h2 h3 h4) ?_;have I1:Inv X pins σ H {s with heap:=s.heap.push {cls:=.type "range",data:=.fields #[.int lo t,.int hi u,.int 1 v]},toks:=tk}:=I.kept λb o e=>lp _ e
 refine⟨(s.heap.push {cls:=.type "range",data:=.fields #[.int lo t,.int hi u,.int 1 v]}).objs.size,[(s.heap.push {cls:=.type "range",data:=.fields #[.int lo t,.int hi u,.int 1 v]}).objs.size],_,_,H,rfl,
  I1.kept (t':=tk) λb o e=>lp _ e,zg7_ _ lo (hi-lo).toNat,?_,λb hb=>?_,q⟩
 ·have e1:lo+((0:Nat):Int)*1=lo:=by simp
  have e2:(((hi-lo).toNat:Nat):Int)-((0:Nat):Int)=qG lo hi 1:=by rw[rangeSize_one];split<;>omega
  show IsRangeIter _ _ (lo+((0:Nat):Int)*1) ((((hi-lo).toNat:Nat):Int)-((0:Nat):Int)) 1
  rw[e1,e2];exact lN _ rfl
 ·have e:b=(s.heap.push {cls:=.type "range",data:=.fields #[.int lo t,.int hi u,.int 1 v]}).objs.size:=by simpa using hb
  subst e;exact I1.fpOk (lC _) (I1.hok.fresh (lC _))
def tFor (wi:TI)(g:TG)(tb:TS):TS:=λD σ H=>wi σ H λJ H1=>∃W:Nat->Nat->St->Hp->Prop,(∃m,W 0 m σ H1)/\∀i m σ H,W i m σ H ->
 (J.stop i H/\D.nx σ H)\/(J.go i H/\∃N:St->Hp->Prop,(∀ah H',N ah H'->∃m',m'<m/\W (i+1) m' ah H')/\∀x H',J.yld i H x H'->g x σ H' λdH H2=>tb {D with nx:=N,ct:=N,bk:=D.nx} dH H2)
def pinsAt (fp:List lE)(h:Heap):Pnn:=fp.filterMap λb=>(h.get? b).map λo=>(b,o)
theorem zbj_ {fp:List lE}{h:Heap}{b:lE}{o:tT}(hb:b∈fp)(e:h.get? b=vj o):(b,o)∈pinsAt fp h:=rR.mpr ⟨b,hb,by rw[e];rfl⟩
theorem zh8_ {fp:List lE}{h:Heap}{p:lE×tT}(hp:p∈pinsAt fp h):p.1∈fp/\h.get? p.1=vj p.2:=by
 obtain⟨b,hb,e⟩:=rR.mp hp;cases q:h.get? b with
 |none=>rw[q]at e;cases e
 |some o=>
  rw[q]at e;have e':(b,o)=p:=l9 e;subst e';exact⟨hb,q⟩
theorem Inv.pinned {pins:Pnn}{σ:St}{H:Hp}{s:lu}{fp:List lE}(I:Inv X pins σ H s)(hf:∀b∈fp,FpOk X pins H b)(ho:∀b∈fp,∃o,s.heap.get? b=vj o/\∀v,o.data≠.cell v):Inv X (pins++pinsAt fp s.heap) σ H s:=
 I.pins_of λp hp=>(m9.mp hp).elim (λz=>I.pin p (l7 _ z)) λz=>by
  obtain⟨hb,e⟩:=zh8_ z;obtain⟨f0,f1,f2,_⟩:=hf p.1 hb;obtain⟨o,e',d⟩:=ho p.1 hb;rw[e]at e';cases e';exact⟨e,f0,f1,f2,d⟩
theorem Inv.unpinned {pins pl:Pnn}{σ:St}{H:Hp}{s:lu}(I:Inv X (pins++pl) σ H s):Inv X pins σ H s:=I.pins_of λp hp=>I.pin p (l7 _ (pz _ hp))
theorem zoO_ {iter:lP}{body:List mC}{wi:TI}{g:TG}{tb:TS}{pos:Pos}(hp:PassesOwn (model X.prog X.w) X.A X.env X.xe)(hc:X.calm=vm)(hi:PI X tg iter wi)(hg:PG X tg g)(hb:PSs X body tb)
  (hs:∀x,foldedSetIterable iter X.env x=pure x:=by intro _;rfl):PS X (.For tg iter body [] pos) (tFor wi g tb):=by
 intro pins s σ H D I h;refine wpAny_For (thn (hi pins s σ H _ I h) λv s1 h1=>thn h1 λfK s2 h2=>?_) hs
 obtain⟨it,fp,tn,J,H2,e,I2,T,bx,f2,W,⟨m0,w0⟩,turn⟩:=h2;subst e;have aX:∀{H':Hp},(∀b∈fp,H' b=vk)->∀b∈fp,FpOk X pins H' b:=λhn b hb=>⟨hn b hb,(f2 b hb).2⟩
 refine codeAny_forLoop_any (λn s'=>∃i ah H',Inv X pins ah H' s'/\tn i s'.heap/\(∀b∈fp,H' b=vk)/\W i n ah H') ?_ m0 ⟨0,σ,H2,I2,bx,λb hb=>(f2 b hb).1,w0⟩
 rintro n s3 ⟨i,bE,H3,I3,st3,fr3,w3⟩;rcases turn i n bE H3 w3 with⟨stop,qn⟩|⟨go,N,hN,step⟩
 ·refine pO hp (thn (T.done X rfl rfl rfl hc i pins s3 bE H3 X.xe I3 (aX fr3) st3 stop) λr s4 af=>?_)
  obtain⟨hr,I4⟩:=af;subst hr;exact wpAny_execs_nil ⟨bE,H3,I4,qn⟩
 ·refine pO hp (thn (T.item X rfl rfl rfl hc i pins s3 bE H3 X.xe I3 (aX fr3) st3 go) λr s4 af=>?_)
  obtain⟨u,hr,h4⟩:=af;subst hr;refine pO hp (thn h4 λ_ s5 af=>?_)
  obtain⟨x,H5,I5,r5,y5,st5,fr5⟩:=af;have ie:=I5.pinned (aX fr5) (T.obj _ _ st5);refine pO hp (thn (hg _ s5 bE H5 x u _ ie r5 (step x H5 y5)) λ_ s6 af=>?_)
  obtain⟨cb,H6,I6,q6⟩:=af;refine pO hp (thn (hb _ s6 cb H6 _ I6 q6) λf s7 q7=>?_)
  have again:∀{bL:St}{H7:Hp},Inv X (pins++pinsAt fp s5.heap) bL H7 s7->N bL H7->∃m,m<n/\∃i ah H',Inv X pins ah H' s7/\tn i s7.heap/\(∀b∈fp,H' b=vk)/\W i m ah H':=λ{bL H7} I7 n7=>by
   obtain⟨m',hm,w7⟩:=hN bL H7 n7;refine⟨m',hm,i+1,bL,H7,I7.unpinned,T.keep _ _ _ st5 λb hb o e=>(I7.pin (b,o) (l7 _ (l7 _ (zbj_ hb e)))).1,λb hb=>?_,w7⟩
   obtain⟨o,e,d⟩:=T.obj _ _ st5 b hb;exact(I7.pin (b,o) (l7 _ (l7 _ (zbj_ hb e)))).2.1
  cases f with
  |next=>obtain⟨bL,H7,I7,n7⟩:=q7;exact again I7 n7
  |cont=>obtain⟨bL,H7,I7,n7⟩:=q7;exact again I7 n7
  |brk=>obtain⟨bL,H7,I7,q7⟩:=q7;exact⟨bL,H7,I7.unpinned,q7⟩
  |ret v=>obtain⟨x7,bL,H7,I7,r7,q7⟩:=q7;exact⟨x7,bL,H7,I7.unpinned,r7,q7⟩
end
abbrev R2:=V->V->Hp->VK->Prop
def OpR (X:Cx)(f:aV->aV->Sem aV)(r:R2):Prop:=
 ∀(pins:Pnn) (s:lu) (σ:St) (H:Hp) (x y:V) (v u:aV) (Q:VK),Inv X pins σ H s->RelV x v->RelV y u->r x y H Q ->
  lX (model X.prog X.w) X.A (f v u) (EP X pins σ Q) X.xe s
def UnR (X:Cx)(f:aV->Sem aV)(r:V->Hp->VK->Prop):Prop:=
 ∀(pins:Pnn) (s:lu) (σ:St) (H:Hp) (x:V) (v:aV) (Q:VK),Inv X pins σ H s->RelV x v->r x H Q ->
  lX (model X.prog X.w) X.A (f v) (EP X pins σ Q) X.xe s
def CallR (X:Cx)(f:aV)(r:List V->Hp->VK->Prop):Prop:=
 ∀(pins:Pnn) (s:lu) (σ:St) (H:Hp) (xs:List V) (us:List aV) (Q:VK),Inv X pins σ H s->Vals xs us->r xs H Q ->
  lX (model X.prog X.w) X.A (call f us) (EP X pins σ Q) X.xe s
def tOp (r:R2)(ta tb:TE):TE:=λσ H Q=>ta σ H λx H1=>tb σ H1 λy H2=>r x y H2 Q
def rI (C:Int->Int->Prop)(g:Int->Int->V):R2:=λx y H Q=>∃i j,x=.int i/\y=.int j/\C i j/\Q (g i j) H
def rI0 (g:Int->Int->V):R2:=λx y H Q=>∃i j,x=.int i/\y=.int j/\Q (g i j) H
def rU (g:Int->V):V->Hp->VK->Prop:=λx H Q=>∃i,x=.int i/\Q (g i) H
section
variable {X:Cx}{a b:lP}{ta tb:TE}{pos:Pos}
theorem binT (ha:PE X a ta)(hb:PE X b tb){pins:Pnn}{s:lu}{σ:St}{H:Hp}{R:V->V->Hp->Prop}(I:Inv X pins σ H s)
  (h:ta σ H λx H1=>tb σ H1 λy H2=>R x y H2) {Q:aV->lu->Prop}{f:aV->aV->Sem aV}
  (hf:∀v u s2 x y H2,Inv X pins σ H2 s2->RelV x v->RelV y u->R x y H2->lX (model X.prog X.w) X.A (f v u) Q X.xe s2):
  lX (model X.prog X.w) X.A (eval a X.env) (λv ab=>lX (model X.prog X.w) X.A (eval b X.env) (λu aP=>lX (model X.prog X.w) X.A (f v u) Q X.xe aP) X.xe ab) X.xe s:=by
 refine thn (ha pins s σ H _ I h) λv s1 af=>?_
 obtain⟨x,H1,I1,r1,q1⟩:=af;refine thn (hb pins s1 σ H1 _ I1 q1) λu s2 af=>?_
 obtain⟨y,H2,I2,r2,q2⟩:=af;exact hf v u s2 x y H2 I2 r1 r2 q2
theorem pe_op {op:Operator}{r:R2}(ho:OpR X (nR op) r)(ha:PE X a ta)(hb:PE X b tb):PE X (.BinOp a op b pos) (tOp r ta tb):=by
 intro pins s σ H Q I h;exact wpAny_BinOp (binT ha hb I h λv u s2 x y H2 I2 rx ry q=>ho pins s2 σ H2 x y v u Q I2 rx ry q)
theorem opI {f:aV->aV->Sem aV}{C:Int->Int->Prop}{g:Int->Int->Int}
  (rule:∀(i j:Int) (t u:Tok) (s:lu) (Q:aV->lu->Prop) (E:aV->lu->Prop),C i j->Q (.int (g i j) s.toks) {s with toks:=s.toks+1}->lX (model X.prog X.w) X.A (f (.int i t) (.int j u)) Q E s):
  OpR X f (rI C λi j=>.int (g i j)):=by
 intro pins s σ H x y v u Q I rx ry h;obtain⟨i,j,rfl,rfl,hc,q⟩:=h;obtain⟨t,rfl⟩:=rx;obtain⟨t',rfl⟩:=ry;exact rule i j t t' s _ _ hc ⟨.int (g i j),H,I.tok _,⟨_,rfl⟩,q⟩
theorem opI0 {f:aV->aV->Sem aV}{g:Int->Int->Int}
  (rule:∀(i j:Int) (t u:Tok) (s:lu) (Q:aV->lu->Prop) (E:aV->lu->Prop),Q (.int (g i j) s.toks) {s with toks:=s.toks+1}->lX (model X.prog X.w) X.A (f (.int i t) (.int j u)) Q E s):
  OpR X f (rI0 λi j=>.int (g i j)):=by
 intro pins s σ H x y v u Q I rx ry h;obtain⟨i,j,rfl,rfl,q⟩:=h;obtain⟨t,rfl⟩:=rx;obtain⟨t',rfl⟩:=ry;exact rule i j t t' s _ _ ⟨.int (g i j),H,I.tok _,⟨_,rfl⟩,q⟩
theorem opB0 {f:aV->aV->Sem aV}{g:Int->Int->Bool}
  (rule:∀(i j:Int) (t u:Tok) (s:lu) (Q:aV->lu->Prop) (E:aV->lu->Prop),Q (.bool (g i j)) s->lX (model X.prog X.w) X.A (f (.int i t) (.int j u)) Q E s):
  OpR X f (rI0 λi j=>.bl (g i j)):=by
 intro pins s σ H x y v u Q I rx ry h;obtain⟨i,j,rfl,rfl,q⟩:=h;obtain⟨t,rfl⟩:=rx;obtain⟨t',rfl⟩:=ry;exact rule i j t t' s _ _ ⟨.bl (g i j),H,I,rfl,q⟩
def CDiv (i j:Int):Prop:=0<j/\j<1073741824
def CPow (i j:Int):Prop:=0<=j/\j<=1000000/\i.natAbs<2 ^ 64
def CMul (i j:Int):Prop:=(-(2 ^ 64)<i/\i<2 ^ 64)\/(-(2 ^ 64)<j/\j<2 ^ 64)
theorem CMul.ok {i j:Int}(h:CMul i j):IntMulOk i j:=by
 rcases h with⟨h1,h2⟩|⟨h1,h2⟩
 ·exact .of_left (intBits_le_64 h1 h2)
 ·exact .of_right (intBits_le_64 h1 h2)
theorem zq0_:OpR X (nR .Add) (rI0 λi j=>.int (i+j)):=opI0 λ_ _ _ _ _ _ _ q=>add_int q
theorem zqP_:OpR X (nR .Sub) (rI0 λi j=>.int (i-j)):=opI0 λ_ _ _ _ _ _ _ q=>sub_int q
theorem zps_:OpR X (nR .Mod) (rI (λ_ j=>0<j) λi j=>.int (i % j)):=opI λi j _ _ _ _ _ hc q=>by
 have h1:(0:Int)<j:=hc;exact mod_int' (by lia) (by rw[Int.fmod_eq_emod_of_nonneg i (by lia)];exact q)
theorem unI {f:aV->Sem aV}{g:Int->Int}
  (rule:∀(i:Int) (t:Tok) (s:lu) (Q:aV->lu->Prop) (E:aV->lu->Prop),Q (.int (g i) s.toks) {s with toks:=s.toks+1}->lX (model X.prog X.w) X.A (f (.int i t)) Q E s):
  UnR X f (rU λi=>.int (g i)):=by
 intro pins s σ H x v Q I rx h;obtain⟨i,rfl,q⟩:=h;obtain⟨t,rfl⟩:=rx;exact rule i t s _ _ ⟨.int (g i),H,I.tok _,⟨_,rfl⟩,q⟩
theorem zoX_:UnR X (unaryOp .USub) (rU λi=>.int (-i)):=unI λ_ _ _ _ _ q=>neg_int q
theorem zie_ {pins:Pnn}{σ:St}{H:Hp}{s:lu}{Q:VK}{k k':Bool}(I:Inv X pins σ H s)(q:Q (.bl k) H)(e:k=k'):EP X pins σ Q (.bool k') s:=by
 subst e;exact⟨.bl k,H,I,rfl,q⟩
theorem op_lt:OpR X (l4 .Lt) (rI0 λi j=>.bl (decide (i<j))):=opB0 λ_ _ _ _ _ _ _ q=>lt_int q
theorem op_le:OpR X (l4 .LtE) (rI0 λi j=>.bl (decide (i<=j))):=opB0 λ_ _ _ _ _ _ _ q=>le_int q
theorem op_gt:OpR X (l4 .Gt) (rI0 λi j=>.bl (decide (j<i))):=opB0 λ_ _ _ _ _ _ _ q=>gt_int q
theorem op_ge:OpR X (l4 .GtE) (rI0 λi j=>.bl (decide (j<=i))):=opB0 λ_ _ _ _ _ _ _ q=>ge_int q
theorem zh0_:OpR X (l4 .In) (λx y H Q=>∃i j,x=.str i/\y=.str j/\Q (.bl (!(nM j i 0 j.length 1).isEmpty)) H):=by
 intro pins s σ H x y v u Q I rx ry h;obtain⟨i,j,rfl,rfl,q⟩:=h;obtain⟨t,rfl⟩:=rx;obtain⟨t',rfl⟩:=ry;exact in_str (zie_ I q rfl)
theorem zqO_:OpR X (l4 .Is) (λx y H Q=>y=.non/\Q (.bl (decide (x=.non))) H):=by
 intro pins s σ H x y v u Q I rx ry h;obtain⟨rfl,q⟩:=h;cases ry;refine is_none_gen (zie_ I q ?_)
 cases x<;>first
  |(cases rx;rfl)
  |(obtain⟨t,rfl⟩:=rx;rfl)
theorem zlL_:OpR X (l4 .IsNot) (λx y H Q=>y=.non/\Q (.bl (!decide (x=.non))) H):=by
 intro pins s σ H x y v u Q I rx ry h;obtain⟨rfl,q⟩:=h;cases ry;refine isnot_none_gen (zie_ I q ?_)
 cases x<;>first
  |(cases rx;rfl)
  |(obtain⟨t,rfl⟩:=rx;rfl)
theorem zdS_:OpR X (l4 .NotIn) (λx y H Q=>∃i j,x=.str i/\y=.str j/\Q (.bl (!(!(nM j i 0 j.length 1).isEmpty))) H):=by
 intro pins s σ H x y v u Q I rx ry h;obtain⟨i,j,rfl,rfl,q⟩:=h;obtain⟨t,rfl⟩:=rx;obtain⟨t',rfl⟩:=ry;exact notIn_str (zie_ I q rfl)
theorem zmT_ {op:CmpOp}{r:R2}(ho:OpR X (l4 op) r)(ha:PE X a ta)(hb:PE X b tb)(hm:behindInMarks op b=vn):PE X (.Compare a [op] [b] pos) (tOp r ta tb):=by
 intro pins s σ H Q I h;exact wpAny_Compare1 (binT ha hb I h λv u s2 x y H2 I2 rx ry q=>ho pins s2 σ H2 x y v u Q I2 rx ry q) hm
theorem line63:(lL:Nat)<2 ^ 63:=by rw[sizeLine_eq];decide
theorem zfv_:OpR X (nR .Add) (λx y H Q=>∃i j,x=.str i/\y=.str j/\i.length+j.length<=lL/\Q (.str (i++j)) H):=by
 intro pins s σ H x y v u Q I rx ry h;obtain⟨i,j,rfl,rfl,hz,q⟩:=h;obtain⟨t,rfl⟩:=rx;obtain⟨t',rfl⟩:=ry;exact add_str (λt' tk=>⟨.str (i++j),H,I.tok _,⟨_,rfl⟩,q⟩) hz
theorem vals1 {x:V}{us:List aV}(r:Vals [x] us):∃u,us=[u]/\RelV x u:=by
 cases r with
 |cons r1 r2=>cases r2;exact⟨_,rfl,r1⟩
theorem vals2 {x y:V}{us:List aV}(r:Vals [x,y] us):∃u w',us=[u,w']/\RelV x u/\RelV y w':=by
 cases r with
 |cons r1 r2=>
  cases r2 with
  |cons r3 r4=>cases r4;exact⟨_,_,rfl,r1,r3⟩
theorem ziu_ (hc:X.calm=vm):CallR X (.builtin "min") (λxs H Q=>∃i j,xs=[.int i,.int j]/\Q (.int (if j<i then j else i)) H):=by
 intro pins s σ H xs us Q I r h;obtain⟨i,j,rfl,q⟩:=h;obtain⟨u,w',rfl,⟨t,rfl⟩,⟨t',rfl⟩⟩:=vals2 r;refine min_two_ints (I.ok.hd hc) λh' tk k=>⟨_,H,I.kept k,?_,q⟩
 by_cases hj:j<i
 ·rw[if_pos hj,if_pos hj];exact⟨_,rfl⟩
 ·rw[if_neg hj,if_neg hj];exact⟨_,rfl⟩
theorem zd4_:CallR X (.type "str") (λxs H Q=>∃i,xs=[.int i]/\i.natAbs.log2<1920/\Q (.str (toString i)) H):=by
 intro pins s σ H xs us Q I r h;obtain⟨i,rfl,hz,q⟩:=h;obtain⟨u,rfl,t,rfl⟩:=vals1 r;exact PySem.P.str_of_int hz ⟨.str _,H,I.tok _,⟨_,rfl⟩,q⟩
end
structure ObjM (h:Heap)(x dx C:lE)(mA:Str->Option aV):Prop where
 obj:h.get? x=vj (pX C dx)
 ns:h.Ns1 dx mA
 ne:dx≠x
theorem zhQ_ {h:Heap}{dx:lE}{mA:Str->Option aV}(n:h.Ns1 dx mA):∃od,h.get? dx=vj od/\∀name,uQ name od=vj (mA name):=by
 obtain⟨o,es,ep,ho,hd,hk,_,hm⟩:=n;refine⟨o,ho,λname=>?_⟩
 have e:=hm name;unfold nsFind findBy at e;rw[<- Array.find?_toList]at e;unfold uQ;rw[hd];dsimp only;split
 ·rename_i y q
  rw[q]at e;exact congrArg vj e
 ·rename_i q
  rw[q]at e;have a:es.toList.any (·.refKey)=vn:=by
   rw[sj];intro y hy;obtain⟨z,t,hkey⟩:=hk y (Array.mem_toList_iff.mp hy);simp[DictEntry.refKey,hkey]
  have a':¬es.toList.any (·.refKey)=vm:=by rw[a];exact mN
  rw[if_neg a'];exact congrArg vj e
theorem ObjM.look {h:Heap}{x dx C:lE}{mA:Str->Option aV}(I:ObjM h x dx C mA):∃od,W.InstAt h x (pX C dx) C (vj od)/\∀name,uQ name od=vj (mA name):=
 let⟨od,ho,hl⟩:=zhQ_ I.ns
 ⟨od,⟨I.obj,rfl,rfl,ho⟩,hl⟩
section
variable {prog:l5}{w:mx}{A:my}{E:aV->lu->Prop}{s:lu}{K:Fgg}{x dx C f:lE}{mA:Str->Option aV}{name:Str}{v:aV}
theorem zm2_ {expr:Bool}{Q:aV->lu->Prop}(X:K.In s.heap)(I:ObjM s.heap x dx C mA)(hg:qT K C name=vm)(hh:qt K C=vm)
  (ha:n5 K (.ref C) name=vj vk) (hv:mA name=vj v) (gC:W.handedIn v=vm) (h:Q v {s with toks:=s.toks+1}):
  lX (model prog w) A (getAttr (.ref x) name expr) Q E s:=by
 obtain⟨od,J,hl⟩:=I.look;exact W.get_value X J (W.plainGet_of hg).1 (W.findObj_own hh ha rfl (by rw[hl,hv])) gC h
theorem znS_ {ns:List Str}{Q:Unit->lu->Prop}(X:K.In s.heap)(I:ObjM s.heap x dx C mA)
  (hs:n5 K (.ref C) "__setattr__"=vj (vj (.builtin "object.__setattr__"))) (hp:rB K C=vm) (ht:t6 K C name=vj vk) (hh:qt K C=vm)
  (hw:qR mA ns) (hsz:ns.length<=lL)
  (h:∀h',ObjM h' x dx C (λy=>if y=name then vj v else mA y)->pB dx s.heap h'->Q () {s with heap:=h',toks:=s.toks+2}):
  lX (model prog w) A (setAttr (.ref x) name v) Q E s:=by
 obtain⟨od,J,hl⟩:=I.look;refine W.set_plain X J hs (W.osa_open (s:={s with toks:=s.toks+1}) (r:=vk) X J hp ht λb=>?_)
 obtain⟨cd,hc,hd'⟩:=W.any_some hh;have hx:s.heap.get? x=vj ⟨.ref C,vj dx,.plain,#[]⟩:=I.obj;refine ll (lM (ll (ll (wpAny_loadPart hx (ll (W.Looks.here (s:={s with toks:=s.toks+1}) (W.looks_clsIn X hc) ?_))))));rw[hd'];refine lM (a:=vj dx) (ll (lM (ll ?_)));refine wpAny_nsSet1 (s:={s with toks:=s.toks+1}) I.ns λh' fN aR=>?_
 obtain⟨oD,esD,epD,hoD,hdD,hcD⟩:=fN.count (vg name v hw);refine ll (wpAny_lookBehind hoD (by rw[hdD];exact pastItsLine_dict (m5 hcD (by rw[lG];lia))) ?_)
 exact lM (h _ ⟨(aR.2 _ (pN I.ne)).trans I.obj,fN,I.ne⟩ aR)
theorem zjK_ {R:Result->lu->Prop}{vs:List aV}{kw:List (Str×aV)}(X:K.In s.heap)(hm:sM K C=vm)
  (hi:n5 K (.ref C) "__init__"=vj (vj (.ref f))) (hf:W.typeIn K (.ref f)=vj (.type "function"))
  (h:codeAny (model prog w) (A.under (.builtin "type.__call__" ⟨.ref C::vs,kw⟩)) (.call (.ref f) ⟨.ref (s.heap.objs.size+1)::vs,kw⟩) (W.InitBack (s.heap.objs.size+1) R)
   {s with heap:=(s.heap.push oS).push (pX C s.heap.objs.size)}):
  codeAny (model prog w) A (.call (.ref C) ⟨vs,kw⟩) R s:=by
 obtain⟨hh,g,d,t,os⟩:=s;exact W.make_core (W.makes_of X hm) (W.looks_findIn X hi) (λself=>W.bind_fn X self hf) (.inl rfl) h
end
noncomputable def putF (f:Str)(v:V):List (Str×V)->List (Str×V)
 |[]=>[(f,v)]
 |(g,x)::r=>if g=f then(g,v)::r else(g,x)::putF f v r
theorem zcn_ (f g:Str)(v:V):∀fs:List (Str×V),(putF f v fs).lookup g=if g=f then vj v else fs.lookup g
 |[]=>by
  show pR g [(f,v)]=_
  by_cases h:g=f
  ·have hb:(g == f)=vm:=beq_iff_eq.mpr h
   simp only[pR,hb,if_pos h]
  ·have hb:(g == f)=vn:=beq_eq_false_iff_ne.mpr h
   simp only[pR,hb,if_neg h]
 |(k,x)::r=>by
  have ih:=zcn_ f g v r;rw[show putF f v ((k,x)::r)=(if k=f then(k,v)::r else(k,x)::putF f v r)from rfl]
  by_cases hk:k=f
  ·rw[if_pos hk]
   by_cases h:g=k
   ·have hb:(g == k)=vm:=beq_iff_eq.mpr h
    simp only[pR,hb,if_pos (h.trans hk)]
   ·have hb:(g == k)=vn:=beq_eq_false_iff_ne.mpr h
    simp only[pR,hb,if_neg (λe:g=f=>h (e.trans hk.symm))]
  ·rw[if_neg hk]
   by_cases h:g=k
   ·have hb:(g == k)=vm:=beq_iff_eq.mpr h
    simp only[pR,hb,if_neg (λe:g=f=>hk (h.symm.trans e))]
   ·have hb:(g == k)=vn:=beq_eq_false_iff_ne.mpr h
    simp only[pR,hb];exact ih
theorem zcJ_ (f:Str)(v:V):∀fs:List (Str×V),f∈(putF f v fs).map (·.1)/\∀g,g∈fs.map (·.1)->g∈(putF f v fs).map (·.1)
 |[]=>⟨by simp[putF],λg h=>by simp at h⟩
 |(k,x)::r=>by
  obtain⟨i1,i2⟩:=zcJ_ f v r;rw[show putF f v ((k,x)::r)=(if k=f then(k,v)::r else(k,x)::putF f v r)from rfl]
  by_cases hk:k=f
  ·rw[if_pos hk]
   subst hk;exact⟨by simp,λg h=>by simpa using h⟩
  ·rw[if_neg hk]
   refine⟨?_,λg h=>?_⟩
   ·rw[lB]
    exact lV _ i1
   ·rw[lB]at h ⊢
    rcases lQ.mp h with e |e
    ·exact lQ.mpr (.inl e)
    ·exact lV _ (i2 g e)
theorem zcl_ (f:Str)(v:V):∀fs:List (Str×V),(putF f v fs).length<=fs.length+1
 |[]=>by simp[putF]
 |(k,x)::r=>by
  have ih:=zcl_ f v r;rw[show putF f v ((k,x)::r)=(if k=f then(k,v)::r else(k,x)::putF f v r)from rfl]
  by_cases hk:k=f
  ·rw[if_pos hk,lG,lG];lia
  ·rw[if_neg hk,lG,lG];lia
theorem RelO.some_of {v:V}{o:Option aV}(r:RelO (vj v) o):∃u,o=vj u/\RelV v u:=by
 cases o with
 |none=>exact(show False from r).elim
 |some u=>exact⟨u,rfl,r⟩
theorem zhP_ {v:V}{u:aV}(r:RelV v u):W.handedIn u=vm:=by
 cases v with
 |non=>cases(show u=nz from r);rfl
 |bl b=>cases(show u=pq b from r);rfl
 |int i=>obtain⟨t,e⟩:=(show∃t,u=qF i t from r);cases e;rfl
 |str x=>obtain⟨t,e⟩:=(show∃t,u=pQ x t from r);cases e;rfl
 |byt b=>obtain⟨t,e⟩:=(show∃t,u=uP b t from r);cases e;rfl
 |flt b=>obtain⟨t,e⟩:=(show∃t,u=tj b t from r);cases e;rfl
 |ref a=>cases(show u=mT a from r);rfl
 |ty n=>cases(show u=rQ n from r);rfl
section
variable {P:l5}{w:mx}{H:Hp}{h:Heap}{a C dx:lE}{fs:List (Str×V)}
theorem zf9_ (hok:HOk P w H h)(e:H a=vj (.ins C dx fs)):∃mA,ObjM h a dx C mA/\(∀f,RelO (fs.lookup f) (mA f))/\qR mA (fs.map (·.1))/\fs.length<=1000/\H dx=vj (.own a):=by
 obtain⟨d,z,ne,ob,mA,n,r,q⟩:=(show ObjOk P w H h a (.ins C dx fs)from hok a _ e)
 exact⟨mA,⟨ob,n,ne⟩,r,q,z,d⟩
end
structure Cls (K:Fgg)(C:lE):Prop where
 pg:qT K C t7=vm
 hd:qt K C=vm
 po:rB K C=vm
 sa:n5 K (.ref C) "__setattr__"=vj (vj (.builtin "object.__setattr__"))
theorem Cls.get {K:Fgg}{C:lE}(c:Cls K C)(f:Str):qT K C f=vm:=c.pg
def NoAttr (K:Fgg)(C:lE)(f:Str):Prop:=n5 K (.ref C) f=vj vk
theorem NoAttr.taker {K:Fgg}{C:lE}{f:Str}(n:NoAttr K C f):t6 K C f=vj vk:=by
 unfold t6;rw[show n5 K (.ref C) f=vj vk from n]
 rfl
section
variable {X:Cx}{pins:Pnn}{σ:St}{H:Hp}{s:lu}{a C dx:lE}{fs:List (Str×V)}{f:Str}{v:V}{A:my}{E:aV->lu->Prop}
theorem zgc_ {b:Bool}{Q:aV->lu->Prop}(I:Inv X pins σ H s)(e:H a=vj (.ins C dx fs))(c:Cls X.K C)(n:NoAttr X.K C f)(l:fs.lookup f=vj v)
  (h:∀u s',Inv X pins σ H s'->RelV v u->Q u s'):lX (model X.prog X.w) A (getAttr (.ref a) f b) Q E s:=by
 obtain⟨mA,O,r,_,_,_⟩:=zf9_ I.hok e;obtain⟨u,hu,ru⟩:=RelO.some_of (v:=v) (o:=mA f) (by rw[<- l];exact r f)
 exact zm2_ I.kIn O (c.get f) c.hd n hu (zhP_ ru) (h u _ (I.tok _) ru)
theorem zgz_ {y:V}{u:aV}{Q:Unit->lu->Prop}(I:Inv X pins σ H s)(e:H a=vj (.ins C dx fs))(c:Cls X.K C)(n:NoAttr X.K C f)(hl:fs.length<1000)(ry:RelV y u)
  (h:∀s',Inv X pins σ (upd H a (.ins C dx (putF f y fs))) s'->Q () s'):lX (model X.prog X.w) A (setAttr (.ref a) f u) Q E s:=by
 obtain⟨mA,O,r,wi,_,ho⟩:=zf9_ I.hok e;have hz:(fs.map (·.1)).length<=lL:=by rw[lq,sizeLine_eq];lia
 refine znS_ I.kIn O c.sa c.po n.taker c.hd wi hz λh' O' sb=>h _ ?_
 have hd:∃o,h'.get? dx=vj o:=let⟨o,_,_,e',_⟩:=O'.ns;⟨o,e'⟩
 refine I.write (x:=a) (e:=dx) (by rw[e];exact m7) (.inr ho) (λb q hb z=>(sb.2 b hb).trans z) hd ?_
 refine⟨by rw[zd_ O.ne];exact ho,?_,O.ne,O'.obj,_,O'.ns,λg=>?_,λg hg=>?_⟩
 ·have:=zcl_ f y fs;lia
 ·show RelO ((putF f y fs).lookup g) (if g=f then vj u else mA g)
  rw[zcn_];by_cases q:g=f
  ·rw[if_pos q,if_pos q];exact ry
  ·rw[if_neg q,if_neg q];exact r g
 ·by_cases q:g=f
  ·rw[q];exact(zcJ_ f y fs).1
  ·refine(zcJ_ f y fs).2 g (wi g λz=>hg ?_)
   show(if g=f then vj u else mA g)=vk
   rw[if_neg q];exact z
theorem Inv.made (I:Inv X pins σ H s):Inv X pins σ (upd (upd H s.heap.objs.size (.own (s.heap.objs.size+1))) (s.heap.objs.size+1) (.ins C s.heap.objs.size []))
  {s with heap:=(s.heap.push oS).push (pX C s.heap.objs.size)}:=by
 have e1:(s.heap.push oS).get? s.heap.objs.size=vj oS:=lN s.heap rfl;have e2:((s.heap.push oS).push (pX C s.heap.objs.size)).get? (s.heap.objs.size+1)=vj (pX C s.heap.objs.size):=by
  have:=lN (s.heap.push oS) (o:=pX C s.heap.objs.size) rfl;rwa[n6]at this
 have e3:(s.heap.push oS).Ns s.heap.objs.size (λ_=>vk):=⟨oS,#[],_,e1,rfl,(λe he=>absurd he (by simp)),λ_=>rfl⟩
 have I1:=I.laid (a:=s.heap.objs.size) (o:=.own (s.heap.objs.size+1)) (h':=s.heap.push oS) (t':=s.toks) (λb u q=>lp _ q) (lC _) ⟨_,e1⟩
 refine I1.laid (a:=s.heap.objs.size+1) (o:=.ins C s.heap.objs.size []) (t':=s.toks) (λb u q=>lp _ q) (qU (n6 _ _)) ?_
 have ne:s.heap.objs.size≠s.heap.objs.size+1:=l0 (pY _);refine⟨by rw[zd_ ne,zh_],mq _,ne,e2,λ_=>vk,(Heap.Ns1.of_empty e3).at λo q=>lp _ q,λ_=>m7,λy hy=>absurd rfl hy⟩
theorem zn3_ {prog:l5}{w:mx}{env:Env}{e:lP}{f:Str}{pos:Pos}{s:lu}{Q:aV->lu->Prop}(hb:attributeBase e f env (eval e env)=eval e env)
  (h:lX (model prog w) A (eval e env) (λo ab=>lX (model prog w) A (getAttr o f vm) Q E ab) E s):lX (model prog w) A (eval (.Attribute e f pos) env) Q E s:=
 Attribute_any_ h (by rw[arm_eval_Attribute,hb])
end
section
variable {X:Cx}{pins:Pnn}{σ:St}{H:Hp}{s:lu}{A:my}{E Q:aV->lu->Prop}{c:aV}{b:Bool}
inductive TyOf (K:Fgg) (H:Hp):V->aV->Prop where
 |non:TyOf K H .non (.type "NoneType")
 |bl (x:Bool):TyOf K H (.bl x) (.type "bool")
 |int (i:Int):TyOf K H (.int i) (.type "int")
 |str (x:Str):TyOf K H (.str x) (.type "str")
 |flt (x:UInt64):TyOf K H (.flt x) (.type "float")
 |lst {a:lE}{xs:List V}(e:H a=vj (.lst xs)):TyOf K H (.ref a) (.type "list")
 |frz {a:lE}{o:tT}{xs:List V}(e:H a=vj (.frz o (.lst xs))):TyOf K H (.ref a) (.type "list")
 |tup {a:lE}{xs:List V}(e:H a=vj (.tup xs)):TyOf K H (.ref a) (.type "tuple")
 |dK {a:lE}{kvs:List (Key×V)}(e:H a=vj (.dK kvs)):TyOf K H (.ref a) (.type "dict")
 |dT {a:lE}{kvs:List (List Key×V)}(e:H a=vj (.dT kvs)):TyOf K H (.ref a) (.type "dict")
 | ins {a C dx:lE}{fs:List (Str×V)}(e:H a=vj (.ins C dx fs)) (cl:Cls K C) (ha:n5 K (.ref C) "__class__"=vj (vj (.builtin "object.__class__")))
   (hn:tq K (.builtin "object.__class__") "__get__"=vj (vj (.builtin "getset_descriptor.__get__"))) (iI:W.takesIn K (.builtin "object.__class__")=vj vm)
   (hm:W.mroIn K C (.type "object")=vj vm):TyOf K H (.ref a) (.ref C)
theorem zhx_ {x:V}{u t:aV}(I:Inv X pins σ H s)(rx:RelV x u)(ty:TyOf X.K H x t)(e:uR X.K t c=vj b)(h:∀tk,Q (.bool b) {s with toks:=tk}):
  lX (model X.prog X.w) A (call (.builtin "isinstance") [u,c]) Q E s:=by
 cases ty with
 |non=>cases(show u=nz from rx);exact pb W.kitx_none I.kIn m7 e (λz=>nomatch z) h
 |bl y=>cases(show u=pq y from rx);exact pb W.kitx_bool I.kIn m7 e (λz=>nomatch z) h
 |int i=>obtain⟨t,q⟩:=(show∃t,u=qF i t from rx);cases q;exact pb W.kitx_int I.kIn m7 e (λz=>nomatch z) h
 |str y=>obtain⟨t,q⟩:=(show∃t,u=pQ y t from rx);cases q;exact pb W.kitx_str I.kIn m7 e (λz=>nomatch z) h
 |flt y=>obtain⟨t,q⟩:=(show∃t,u=tj y t from rx);cases q;exact pb W.kitx_float I.kIn m7 e (λz=>nomatch z) h
 | @lst a xs ea=>
  cases(show u=mT a from rx)
  obtain⟨_,_,n,_,h1⟩:=(show ObjOk X.prog X.w H s.heap a (.lst xs)from I.hok a _ ea)
  exact pb W.kitx_list I.kIn ⟨_,h1,rfl⟩ e (λz=>nomatch z) h
 | @frz a ob xs ea=>
  cases(show u=mT a from rx)
  obtain⟨_,_,_,n,_,h1⟩:=(show ObjOk X.prog X.w H s.heap a (.frz ob (.lst xs))from I.hok a _ ea)
  exact pb W.kitx_list I.kIn ⟨_,h1,rfl⟩ e (λz=>nomatch z) h
 | @tup a xs ea=>
  cases(show u=mT a from rx)
  obtain⟨_,_,_,p⟩:=(show ObjOk X.prog X.w H s.heap a (.tup xs)from I.hok a _ ea)
  obtain⟨o,h1,h2,_⟩:=p;exact pb W.kitx_tuple I.kIn ⟨o,h1,h2⟩ e (λz=>nomatch z) h
 | @dK a kvs ea=>
  cases(show u=mT a from rx)
  obtain⟨_,_,vs,_,p⟩:=(show ObjOk X.prog X.w H s.heap a (.dK kvs)from I.hok a _ ea)
  obtain⟨o,es,ep,h1,h2,_⟩:=p;exact pb W.kitx_dict I.kIn ⟨o,h1,h2.1⟩ e (λz=>nomatch z) h
 | @dT a kvs ea=>
  cases(show u=mT a from rx)
  obtain⟨_,_,xs,_,o,es,ep,h1,h2,_⟩:=(show ObjOk X.prog X.w H s.heap a (.dT kvs)from I.hok a _ ea)
  exact pb W.kitx_dict I.kIn ⟨o,h1,h2.1⟩ e (λz=>nomatch z) h
 | @ins a C dx fs ea cl ha hn iI hm=>
  cases(show u=mT a from rx)
  obtain⟨mA,O,_⟩:=zf9_ I.hok ea;obtain⟨od,J,_⟩:=O.look;exact pb (W.kitx_own (cl.get _) cl.hd ha hn iI hm) I.kIn J e (λz=>nomatch z) h
end
structure Room (k:Nat)(A:my):Prop where
 hd:A.handled=vk
 dp:A.depth+3*k+5<recursionLimit
 un:A.units+16*k+200<cLine
theorem Room.mono {j k:Nat}{A:my}(r:Room k A)(h:j<=k):Room j A:=⟨r.hd,by have:=r.dp;lia,by have:=r.un;lia⟩
theorem Room.deeper {k:Nat}{A:my}(r:Room (k+1) A)(env:Env):Room k (A.deeper env):=
 ⟨r.hd,by have:=r.dp;show A.depth+1+3*k+5<_;lia,by have:=r.un;show A.units+3+16*k+200<_;lia⟩
theorem zhc_ {A:my}{C:lE}{us:List aV}{kw:List (Str×aV)}:(A.under (.builtin "type.__call__" ⟨.ref C::us,kw⟩)).depth=A.depth+1:=by
 first |rfl |simp[Around.under,Code.weight,Code.isCreation,Code.isGuard,Code.isCaller,Code.frames,Code.isFrame,guardIds]
theorem zgw_ {A:my}{C:lE}{us:List aV}{kw:List (Str×aV)}:(A.under (.builtin "type.__call__" ⟨.ref C::us,kw⟩)).units=A.units+1:=by
 first |rfl |simp[Around.under,Code.cUnits,Code.frames,Code.isFrame]
theorem Room.make {k:Nat}{A:my}(r:Room (k+1) A)(C:lE)(us:List aV)(kw:List (Str×aV)):Room k (A.under (.builtin "type.__call__" ⟨.ref C::us,kw⟩)):=
 ⟨r.hd,by have:=r.dp;rw[zhc_];lia,by have:=r.un;rw[zgw_];lia⟩
theorem Room.depth {k:Nat}{A:my}(r:Room k A):A.depth<recursionLimit:=by have:=r.dp;lia
def tNil:TA:=λ_ H Q=>Q [] H
def tCons (ta:TE)(tr:TA):TA:=λσ H Q=>ta σ H λx H1=>tr σ H1 λxs H2=>Q (x::xs) H2
section
variable {X:Cx}{e:lP}{es:List lP}{te:TE}{t:TA}{pos:Pos}
theorem zg6_:PA X [] tNil:=λ_ _ _ _ H Q I h=>Calls.spliced_nil ⟨[],H,I,.nil,h⟩
theorem zb0_ (ha:PE X e te)(hr:PA X es t)(hs:me (e::es) X.env=(vn,eval e X.env)::me es X.env:=by rfl):PA X (e::es) (tCons te t):=by
 intro pos pins s σ H Q I h;rw[hs];show lX _ _ (spliced ((vn,eval e X.env)::oM pos (me es X.env))) _ _ s
 refine Calls.spliced_cons (thn (ha pins s σ H _ I h) λu s1 af=>?_)
 obtain⟨x,H1,I1,r1,q1⟩:=af;exact thn (hr pos pins s1 σ H1 _ I1 q1) λus s2 ⟨xs,H2,I2,r2,q2⟩=>⟨x::xs,H2,I2,.cons r1 r2,q2⟩
def tTup (t:TA):TE:=λσ H Q=>t σ H λxs H1=>xs.length<=lL/\∀p,H1 p=vk->Q (.ref p) (upd H1 p (.tup xs))
def tLst (t:TA):TE:=λσ H Q=>t σ H λxs H1=>xs.length<=lL/\∀p,H1 p=vk->Q (.ref p) (upd H1 p (.lst xs))
theorem zoZ_ {x1}(h:PA X es t):PE X (.Tuple es x1 pos) (tTup t):=by
 intro pins s σ H Q I hq;refine wpAny_Tuple_spliced (thn (h pos pins s σ H _ I hq) λus s1 ⟨xs,H1,I1,r,z,q⟩=>⟨by rw[<- r.length];exact z,?_⟩)
 have hf:H1 s1.heap.objs.size=vk:=I1.hok.fresh (lC _);refine⟨.ref s1.heap.objs.size,upd H1 s1.heap.objs.size (.tup xs),I1.laid (t':=s1.toks) (λb u e=>lp _ e) (lC _) ?_,rfl,q _ hf⟩
 exact⟨z,us,r,⟨_,lN _ rfl,rfl,_,rfl⟩⟩
theorem zrk_ (h:PA X es t):PE X (.List es pos) (tLst t):=by
 intro pins s σ H Q I hq;refine wpAny_List_spliced (thn (h pos pins s σ H _ I hq) λus s1 ⟨xs,H1,I1,r,z,q⟩=>⟨by rw[<- r.length];exact z,?_⟩)
 have hf:H1 s1.heap.objs.size=vk:=I1.hok.fresh (lC _);refine⟨.ref s1.heap.objs.size,upd H1 s1.heap.objs.size (.lst xs),I1.laid (t':=s1.toks) (λb u e=>lp _ e) (lC _) ?_,rfl,q _ hf⟩
 exact⟨z,us,0,r,lN _ rfl⟩
end
abbrev Sp:=List V->Hp->VK->XK->Prop
abbrev CXT:=List Env->Hp->lu->XK->aV->lu->Prop
structure Env0 (P:l5)(w:mx)(K:Fgg)(mg:Str->Option aV)(base:Heap)(A:my)(outer:List Env)(s:lu)(H:Hp):Prop where
 frames:A.frames=vj outer
 mod:Mod K mg base
 bs:∀b o,base.get? b=vj o->s.heap.get? b=vj o/\H b=vk
 bsz:base.objs.size<=s.heap.objs.size
 funs:s.heap.FunFrames base outer
 frf:∀b∈frs outer,H b=vk
 hok:HOk P w H s.heap
 bare:AllBare s.gens
 tb:Tb K H
def CE (outer:List Env)(P:l5)(w:mx)(H:Hp)(s:lu)(Q:VK)(u:aV)(s':lu):Prop:=
 ∃v H',s'.os=s.os/\AllBare s'.gens/\Un (frs outer) [] H H' s.heap s'.heap/\HOk P w H' s'.heap/\RelV v u/\Q v H'
def CR (CX:CXT)(outer:List Env)(P:l5)(w:mx)(H:Hp)(s:lu)(Q:VK)(E:XK)(r:Result)(s':lu):Prop:=
 match r with
 |.ok (.ret u)=>CE outer P w H s Q u s'
 |.ok _=>False
 |.error e=>CX outer H s E e s'
structure FnOk (P:l5)(w:mx)(K:Fgg)(mg:Str->Option aV)(base:Heap)(CX:CXT)(k:Nat)(f:lE)(fd:mW)(ps:List Str)(sp:Sp):Prop where
 len:∀vs H Q E,sp vs H Q E->vs.length=ps.length
 run:∀(A:my) (outer:List Env) (s:lu) (H:Hp) (args:Args) (us:List aV) (vs:List V) (Q:VK) (E:XK),Room k A->Env0 P w K mg base A outer s H->BindsTo s fd args (ps.zip us)->Vals vs us->sp vs H Q E ->
  codeAny (model P w) A (.call (.ref f) args) (CR CX outer P w H s Q E) s
theorem Env0.make {P:l5}{w:mx}{K:Fgg}{mg:Str->Option aV}{base:Heap}{A:my}{outer:List Env}{s:lu}{H:Hp}(e:Env0 P w K mg base A outer s H)(C:lE)(us:List aV)(kw:List (Str×aV)):
  Env0 P w K mg base (A.under (.builtin "type.__call__" ⟨.ref C::us,kw⟩)) outer s H:=⟨by first |exact e.frames |(simpa [Around.under,Code.envs,Code.isFrame,pushEnvs]using e.frames),e.mod,e.bs,e.bsz,e.funs,e.frf,e.hok,e.bare,e.tb⟩
section
variable {X:Cx}{pins:Pnn}{σ:St}{H:Hp}{s s':lu}
theorem Inv.env0 (I:Inv X pins σ H s):Env0 X.prog X.w X.K X.mg X.base X.A X.stack s H:=
 ⟨I.ok.frames,I.ok.mod,I.bs,m5 I.ok.bsz I.sz,I.stack,I.stkFree,I.hok,I.bare,I.tb⟩
theorem Inv.after {Q:VK}{u:aV}(I:Inv X pins σ H s)(h:CE X.stack X.prog X.w H s Q u s'):EP X pins σ Q u s':=by
 obtain⟨v,H',os,bare,un,hok,r,q⟩:=h;obtain⟨hh,g,d,t,aL⟩:=s';obtain rfl:aL=s.os:=os;exact⟨v,H',I.call (h':=hh) (g':=g) (d':=d) (t':=t) (ch:=[]) un hok bare (λb z=>absurd z (by simp)),r,q⟩
end
def tCall (sp:Sp)(au:List V)(E:XK)(t:TA):TE:=λσ H Q=>t σ H λvs H1=>sp (vs++au) H1 Q E
def tMake (C:lE)(sp:Sp)(au:List V)(E:XK)(t:TA):TE:=λσ H Q=>t σ H λvs H1=>∀x dx,H1 x=vk->H1 dx=vk->dx≠x ->
 sp (.ref x::(vs++au)) (upd (upd H1 dx (.own x)) x (.ins C dx [])) (λv H2=>v=.non/\Q (.ref x) H2) E
def Binds (K:Fgg)(fd:mW)(ps:List Str)(ds:List aV):Prop:=
 ∀(s:lu) (us:List aV),K.In s.heap->(us++ds).length=ps.length->BindsTo s fd ⟨us,[]⟩ (ps.zip (us++ds))
theorem Binds.all {K:Fgg}{fd:mW}{ps:List Str}(h:∀us:List aV,us.length=ps.length->bindArgs fd ⟨us,[]⟩=pure (ps.zip us)):Binds K fd ps []:=λs us _ hl=>by
 rw[nG]at hl ⊢;exact .of_eq (h us hl)
def Passes (CX:CXT)(X:Cx)(E:XK):Prop:=∀(pins:Pnn) (σ:St) (H:Hp) (s:lu) (e:aV) (s':lu),Inv X pins σ H s->CX X.stack H s E e s'->X.xe e s'
section
variable {X:Cx}{CX:CXT}{k:Nat}{f C:lE}{fd:mW}{ps:List Str}{sp:Sp}{au:List V}{ds:List aV}{E:XK}{x:Str}{p pos:Pos}{e:lP}{es:List lP}{t:TA}
theorem znB_ {pins:Pnn}{σ:St}{H:Hp}{s:lu}{Q:VK}{us:List aV}{vs:List V}(F:FnOk X.prog X.w X.K X.mg X.base CX k f fd ps sp)(hr:Room k X.A)(hb:Binds X.K fd ps ds)(hd:Vals au ds)(hx:Passes CX X E)
  (I:Inv X pins σ H s) (r:Vals vs us) (h:sp (vs++au) H Q E):lX (model X.prog X.w) X.A (call (.ref f) us) (EP X pins σ Q) X.xe s:=by
 have r2:Vals (vs++au) (us++ds):=r.append hd;have hl:(us++ds).length=ps.length:=by rw[<- r2.length];exact F.len _ _ _ _ h
 refine wpAny_call (codeAny_mono (F.run X.A X.stack s H ⟨us,[]⟩ (us++ds) (vs++au) Q E hr I.env0 (hb s us I.kIn hl) r2 h) λr s' hq=>?_)
 cases r with
 |error e=>exact hx pins σ H s e s' I hq
 |ok fl=>
  cases fl with
  |ret u=>exact I.after hq
  |next=>exact mi hq
  |brk=>exact mi hq
  |cont=>exact mi hq
theorem zlR_ (F:FnOk X.prog X.w X.K X.mg X.base CX k f fd ps sp)(hr:Room k X.A)(hg:Gl X x)(hm:X.mg x=vj (.ref f))(hk:oQ X.K (.ref f)=vm)(hb:Binds X.K fd ps ds)(hd:Vals au ds)(hx:Passes CX X E)
  (ha:PA X (e::es) t) (a_:(x==("__debug__":Str))=vn:=by decide) (he:me (e::es) X.env=(vn,eval e X.env)::me es X.env:=by rfl) (aN:(oM pos (me es X.env)).any (·.1)=vn:=by rfl):
  PE X (.Call (.Name x p) (e::es) [] pos) (tCall sp au E t):=by
 intro pins s σ H Q I h;refine og (zeJ_ I hg hm ?_ a_);refine ui (h₀:=X.base) I.ok.mod.kin hk (thn (ha pos pins s σ H _ I h) λus s1 ⟨vs,H1,I1,r,q⟩=>⟨I1.kIn,?_⟩) he aN
 exact znB_ F hr hb hd hx I1 r q
theorem zkI_ (F:FnOk X.prog X.w X.K X.mg X.base CX k f fd ps sp)(hr:Room k X.A)(hg:Gl X x)(hm:X.mg x=vj (.ref f))(hk:oQ X.K (.ref f)=vm)(hb:Binds X.K fd ps ds)(hd:Vals au ds)(hx:Passes CX X E)
  (a_:(x==("__debug__":Str))=vn:=by decide):PE X (.Call (.Name x p) [] [] pos) (tCall sp au E tNil):=by
 intro pins s σ H Q I h;refine og (zeJ_ I hg hm ?_ a_);exact W.callWith_K0 I.kIn hk (znB_ (us:=[]) F hr hb hd hx I .nil h)
structure Mk (K:Fgg)(C f:lE):Prop where
 makes:sM K C=vm
 init:n5 K (.ref C) "__init__"=vj (vj (.ref f))
 fn:uj K (.ref f)=vm
 kp:oQ K (.ref C)=vm
theorem zjA_ {pins:Pnn}{σ:St}{H:Hp}{s:lu}{Q:VK}{us:List aV}{vs:List V}(M:Mk X.K C f)(F:FnOk X.prog X.w X.K X.mg X.base CX k f fd ps sp)(hr:Room (k+1) X.A)(hb:Binds X.K fd ps ds)(hd:Vals au ds)
  (hx:Passes CX X E) (I:Inv X pins σ H s) (r:Vals vs us)
  (h:∀x dx,H x=vk->H dx=vk->dx≠x->sp (.ref x::(vs++au)) (upd (upd H dx (.own x)) x (.ins C dx [])) (λv H2=>v=.non/\Q (.ref x) H2) E):
  lX (model X.prog X.w) X.A (call (.ref C) us) (EP X pins σ Q) X.xe s:=by
 have hq:=h (s.heap.objs.size+1) s.heap.objs.size (I.hok.fresh (oF _)) (I.hok.fresh (lC _)) (l0 (pY _));have I2:=Inv.made (C:=C) I;have r2:Vals (V.ref (s.heap.objs.size+1)::(vs++au)) (mT (s.heap.objs.size+1)::(us++ds)):=.cons rfl (r.append hd);have hl:(mT (s.heap.objs.size+1)::us++ds).length=ps.length:=by
  have e:=r2.length;rw[F.len _ _ _ _ hq]at e;exact e.symm
 refine wpAny_call (zjK_ (f:=f) I.kIn M.makes M.init (beq_iff_eq.mp M.fn) (codeAny_mono (F.run _ X.stack _ _ ⟨mT (s.heap.objs.size+1)::us,[]⟩ (mT (s.heap.objs.size+1)::(us++ds)) _ _ E (hr.make C us [])
  (I2.env0.make C us []) (hb _ (mT (s.heap.objs.size+1)::us) I2.kIn hl) r2 hq) λr s' eI=>?_))
 cases r with
 |error e=>exact hx pins σ _ _ e s' I2 eI
 |ok fl=>
  cases fl with
  |ret u=>
   obtain⟨v,H',I3,rv,ev,q3⟩:=I2.after eI;subst ev;exact⟨rv,⟨V.ref (s.heap.objs.size+1),H',I3,rfl,q3⟩⟩
  |next=>exact mi eI
  |brk=>exact mi eI
  |cont=>exact mi eI
theorem zmQ_ (M:Mk X.K C f)(F:FnOk X.prog X.w X.K X.mg X.base CX k f fd ps sp)(hr:Room (k+1) X.A)(hg:Gl X x)(hm:X.mg x=vj (.ref C))(hb:Binds X.K fd ps ds)(hd:Vals au ds)(hx:Passes CX X E)
  (ha:PA X (e::es) t) (a_:(x==("__debug__":Str))=vn:=by decide) (he:me (e::es) X.env=(vn,eval e X.env)::me es X.env:=by rfl) (aN:(oM pos (me es X.env)).any (·.1)=vn:=by rfl):
  PE X (.Call (.Name x p) (e::es) [] pos) (tMake C sp au E t):=by
 intro pins s σ H Q I h;refine og (zeJ_ I hg hm ?_ a_);refine ui (h₀:=X.base) I.ok.mod.kin M.kp (thn (ha pos pins s σ H _ I h) λus s1 ⟨vs,H1,I1,r,q⟩=>⟨I1.kIn,?_⟩) he aN
 exact zjA_ M F hr hb hd hx I1 r q
end
structure FnScope (N P:List Str)(sc:Scope):Prop where
 kind:sc.kind=.function
 co:sc.isCoroutine=vn
 gen:sc.isGenerator=vn
 nd:N.Nodup
 pre:N.take P.length=P
 par:∀x∈P,sc.names.lookup x=vj .local\/sc.names.lookup x=vj .cell
 nofree:∀y∈sc.names,y.2≠.free
theorem zem_ {kindOf:Str->Option oh}{x:Str}:∀{binds:List (Str×aV)}{m:Str->Option aV},(∀v,(x,v)∉binds)->bindL kindOf binds m x=m x
 |[],_,_=>rfl
 |(n,v)::r,m,h=>by
  unfold bindL;rw[zem_ λw hw=>h w (lV _ hw)]
  split
  ·have:x≠n:=by rintro rfl;exact h v lW
   simp[this]
  ·rfl
theorem zeR_ {kindOf:Str->Option oh}{x:Str}:∀{binds:List (Str×aV)}{m:Str->Option aV},(∀v,(x,v)∉binds)->bindC kindOf binds m x=m x
 |[],_,_=>rfl
 |(n,v)::r,m,h=>by
  unfold bindC;rw[zeR_ λw hw=>h w (lV _ hw)]
  split
  ·rfl
  ·have:x≠n:=by rintro rfl;exact h v lW
   simp[this]
theorem zeo_ {kindOf:Str->Option oh}{x:Str}{v:aV}:∀{P:List Str}{vs:List aV}{i:Nat}{m:Str->Option aV},P.Nodup->P[i]?=vj x->vs[i]?=vj v->kindOf x=vj .local ->
  bindL kindOf (P.zip vs) m x=vj v
 |[],_,_,_,_,h,_,_=>by simp at h
 |_::_,[],_,_,_,_,h,_=>by simp at h
 |p::P,w::vs,0,m,nd,h1,h2,hk=>by
  simp at h1 h2;subst h1;subst h2;show bindL kindOf ((p,w)::P.zip vs) m p=_
  unfold bindL;rw[zem_ λv hv=>(oz.mp nd).1 (oA hv).1,if_pos hk]
  simp
 |p::P,w::vs,i+1,m,nd,h1,h2,hk=>by
  show bindL kindOf ((p,w)::P.zip vs) m x=_
  unfold bindL;exact zeo_ (i:=i) (oz.mp nd).2 (by simpa using h1) (by simpa using h2) hk
theorem zeS_ {kindOf:Str->Option oh}{x:Str}{v:aV}:∀{P:List Str}{vs:List aV}{i:Nat}{m:Str->Option aV},P.Nodup->P[i]?=vj x->vs[i]?=vj v->kindOf x≠vj .local ->
  bindC kindOf (P.zip vs) m x=vj v
 |[],_,_,_,_,h,_,_=>by simp at h
 |_::_,[],_,_,_,_,h,_=>by simp at h
 |p::P,w::vs,0,m,nd,h1,h2,hk=>by
  simp at h1 h2;subst h1;subst h2;show bindC kindOf ((p,w)::P.zip vs) m p=_
  unfold bindC;rw[zeR_ λv hv=>(oz.mp nd).1 (oA hv).1,if_neg hk]
  simp
 |p::P,w::vs,i+1,m,nd,h1,h2,hk=>by
  show bindC kindOf ((p,w)::P.zip vs) m x=_
  unfold bindC;exact zeS_ (i:=i) (oz.mp nd).2 (by simpa using h1) (by simpa using h2) hk
def start (N:List Str)(vs:List V):St:=vs.map vj++lR (N.length-vs.length) vk
def cxOf (CX:CXT)(P:l5)(w:mx)(K:Fgg)(mg:Str->Option aV)(base:Heap)(N:List Str)(qual:Str)(scope:Scope)(f:lE)(cd:aV)(A:my)(outer:List Env)(s:lu)(H:Hp)(E:XK):Cx where
 prog:=P
 w:=w
 K:=K
 mg:=mg
 base:=base
 A:=A.deeper (envOfC qual scope s.heap.objs.size f cd)
 N:=N
 s₀:=s
 H₀:=H
 env:=envOfC qual scope s.heap.objs.size f cd
 outer:=outer
 stack:=envOfC qual scope s.heap.objs.size f cd::outer
 ex:=[]
 calm:=vm
 fn:=λ_=>vm
 pn:=[]
 xe:=λe s'=>lX (model P w) (A.deeper (envOfC qual scope s.heap.objs.size f cd)) (leaving (envOfC qual scope s.heap.objs.size f cd) e) (λ_ cB=>CX outer H s E e cB) (λe' cB=>CX outer H s E e' cB) s'
theorem zeh_ {sc:Scope}{n:Nat}{x:Str}(h:sc.names.lookup x=vj .cell):∃c,(cellsFrom n sc.names []).lookup x=vj c:=by
 have q:=sO sc.names n [] (.inl h);exact qB.mp q
theorem zhO_ {CX:CXT}{P:l5}{w:mx}{K:Fgg}{mg:Str->Option aV}{base:Heap}{N ps:List Str}{qual:Str}{scope:Scope}{f:lE}{cd:aV}{A:my}{outer:List Env}{s s1:lu}{H:Hp}{E:XK}{us:List aV}{vs:List V}
  (S:FnScope N ps scope) (hd:A.handled=vk) (e0:Env0 P w K mg base A outer s H) (hl:vs.length=ps.length) (r:Vals vs us)
  (x:InCallC s s.heap.objs.size (bindL (envOfC qual scope s.heap.objs.size f cd).kindOf (ps.zip us) λ_=>vk) (cellsFrom (s.heap.objs.size+1) scope.names []) (bindC (envOfC qual scope s.heap.objs.size f cd).kindOf (ps.zip us) λ_=>vk) s1):
  Inv (cxOf CX P w K mg base N qual scope f cd A outer s H E) [] (start N vs) H s1:=by
 have aN:ps.length<=N.length:=by have:=congrArg p6 S.pre;rw[mS]at this;lia
 obtain⟨h1,tk,rfl,hk⟩:=x.done;have cC:∀b:lE,b∉(cxOf CX P w K mg base N qual scope f cd A outer s H E).ex:=λb z=>absurd (show b∈([]:List lE)from z) (by simp)
 refine⟨⟨e0.mod,S.kind,rfl,rfl,lC _,λy z c h1 h2=>?_,λy hy=>?_,λy c _ h=>?_,λ_=>hd,Around.frames_deeper e0.frames,.inr ⟨rfl,rfl⟩,λb z=>absurd z (cC b),e0.bs,e0.bsz,λb _ _=>cC b,λb z=>absurd z (cC b),e0.funs,e0.frf,e0.tb⟩,
  rfl,e0.bare,Un.kept hk,⟨_,x.toInCall.ns,λi y v h1 h2 h3=>?_⟩,λy c h=>⟨_,x.cell y c h⟩,e0.hok.fresh (lC _),λy c h=>?_,λp hp=>absurd (show p∈([]:Pnn)from hp) (by simp),e0.hok.kept hk,?_⟩
 ·exact name_of_addr x.apart (mF h1) (mF h2)
 ·have hy:scope.names.lookup y=vj .cell\/scope.names.lookup y=vj .free:=hy
  rcases hy with hy |hy
  ·exact zeh_ hy
  ·exact absurd rfl (S.nofree _ (mF hy))
 ·exact oE (x.above y c (mF h))
 ·have hi:i<vs.length:=by
   unfold start at h2;by_cases hi:i<vs.length
   ·exact hi
   ·rw[mH (by simpa using hi)]at h2
    rw[List.getElem?_replicate]at h2;split at h2<;>cases h2
  have ha:vs[i]?=vj v:=by
   unfold start at h2;rw[mU (by simpa using hi),lK]at h2
   cases e:vs[i]? with
   |none=>rw[e]at h2;cases h2
   |some a=>rw[e]at h2;cases h2;rfl
  obtain⟨u,hu,rv⟩:=r.get ha;have hp:ps[i]?=vj y:=by
   rw[<- S.pre,List.getElem?_take_of_lt (by lia)];exact h1
  have iC:ps.Nodup:=by rw[<- S.pre];exact S.nd.sublist (List.take_sublist _ _)
  refine⟨u,rv,?_⟩;rcases S.par y (m8 hp)with k |k
  ·exact .inl ⟨k,zeo_ iC hp hu k⟩
  ·obtain⟨c,e⟩:=zeh_ (n:=s.heap.objs.size+1) k
   refine .inr ⟨.inl k,c,e,?_⟩;have q:=x.cell y c e;rw[zeS_ iC hp hu (by show scope.names.lookup y≠_;rw[k];decide)]at q
   exact q
 ·exact e0.hok.fresh (oE (x.above y c (mF h)))
 ·unfold start
  show _=N.length
  rw[lF,lq,rp];lia
theorem zqs_ {CX:CXT}{P:l5}{w:mx}{K:Fgg}{mg:Str->Option aV}{base:Heap}{k:Nat}{f:lE}{name qual:Str}{params:Arguments}{body:List mC}{scope:Scope}{dV kV doc pm ae ct oc:aV}{an od:Option lE}
  {aq:Array (Option aV)}{N ps:List Str}{sp:Sp}(lk:K.lookup f=vj ⟨oc,od,.func (W.fnOf name qual params body scope dV kV doc pm an ae ct),aq⟩) (aC:p7 K ae qual=vm) (S:FnScope N ps scope)
  (len:∀vs H Q E,sp vs H Q E->vs.length=ps.length)
  (e9:∀(A:my) (outer:List Env) (s:lu) (H:Hp) (vs:List V) (Q:VK) (E:XK),Room k (A.deeper (envOfC qual scope s.heap.objs.size f ae))->sp vs H Q E ->
   ∃t,PSs (cxOf CX P w K mg base N qual scope f ae A outer s H E) body t/\t {nx:=λ_ H'=>Q .non H',rt:=Q} (start N vs) H):
  FnOk P w K mg base CX (k+1) f (W.fnOf name qual params body scope dV kV doc pm an ae ct) ps sp:=by
 refine⟨len,λA outer s H args us vs Q E hr e0 hb r dQ=>?_⟩
 have hl:=len _ _ _ _ dQ;have KX:K.In s.heap:=e0.mod.kin.keeps λb o e=>(e0.bs b o e).1
 have lim:s.heap.NoLimit:=e0.mod.nolimit.keeps λb o e=>(e0.bs b o e).1
 have eN:∀y∈ps.zip us,scope.names.lookup y.1=vj .local\/(scope.names.lookup y.1=vj .cell/\((cellsFrom (s.heap.objs.size+1) scope.names []).lookup y.1).isSome=vm):=λ⟨n,v⟩ hy=>by
  rcases S.par n (oA hy).1 with q |q
  ·exact .inl q
  ·exact .inr ⟨q,sO _ _ _ (.inl q)⟩
 refine codeAny_call_function hr.depth (KX _ _ lk) rfl S.co S.gen rfl (W.codeRec_of KX aC) (hb _ _ _ _ ?_);refine wpAny_newFunctionEnv_cells S.kind eN λenv he s1 x=>?_
 subst he;refine⟨lim.keeps x.toInCall.keep,codeAny_func ?_⟩;obtain⟨t,ht,hq⟩:=e9 A outer s H vs Q E (hr.deeper _) dQ;have I:Inv (cxOf CX P w K mg base N qual scope f ae A outer s H E) [] (start N vs) H s1:=zhO_ S hr.hd e0 hl r x;refine m4 (ht [] s1 (start N vs) H _ I hq) (λfl s' hs=>?_) λe s' hs=>hs
 have fin:∀{ah:St}{H':Hp}{v:V}{u:aV},Inv (cxOf CX P w K mg base N qual scope f ae A outer s H E) [] ah H' s'->RelV v u->Q v H'->CE outer P w H s Q u s':=
  λ{ah H' v u} J rv q=>⟨v,H',J.os,J.bare,J.base,J.hok,rv,q⟩
 cases fl with
 |ret u=>
  obtain⟨v,ah,H',J,rv,q⟩:=hs;exact fin J rv q
 |next=>
  obtain⟨ah,H',J,q⟩:=hs;exact fin (v:=V.non) (u:=nz) J rfl q
 |brk=>
  obtain⟨_,_,_,q⟩:=hs;exact mi q
 |cont=>
  obtain⟨_,_,_,q⟩:=hs;exact mi q
section
variable {X:Cx}{x:Str}{p pos:Pos}{e:lP}{es:List lP}{t:TA}{id T:String}{r:List V->Hp->VK->Prop}
def tCB (r:List V->Hp->VK->Prop)(t:TA):TE:=λσ H Q=>t σ H λvs H1=>r vs H1 Q
theorem zkt_ (hc:CallR X (.builtin id) r)(hg:Gl X x)(hm:X.mg x=vk)(hv:nU x=vj (.builtin id))(ha:PA X (e::es) t)(hn:x ≠ "__name__":=by decide)(a_:(x==("__debug__":Str))=vn:=by decide)
  (he:me (e::es) X.env=(vn,eval e X.env)::me es X.env:=by rfl) (aN:(oM pos (me es X.env)).any (·.1)=vn:=by rfl):PE X (.Call (.Name x p) (e::es) [] pos) (tCB r t):=by
 intro pins s σ H Q I h;refine og (zc2_ I hg hm hv ?_ hn a_);exact sQ (thn (ha pos pins s σ H _ I h) λus s1 ⟨vs,H1,I1,r1,q1⟩=>hc pins s1 σ H1 vs us Q I1 r1 q1) he aN
theorem zid_ (hc:CallR X (.type T) r)(hg:Gl X x)(hm:X.mg x=vk)(hv:nU x=vj (.type T))(ha:PA X (e::es) t)(hn:x ≠ "__name__":=by decide)(a_:(x==("__debug__":Str))=vn:=by decide)
  (he:me (e::es) X.env=(vn,eval e X.env)::me es X.env:=by rfl) (aN:(oM pos (me es X.env)).any (·.1)=vn:=by rfl):PE X (.Call (.Name x p) (e::es) [] pos) (tCB r t):=by
 intro pins s σ H Q I h;refine og (zc2_ I hg hm hv ?_ hn a_);exact nv (thn (ha pos pins s σ H _ I h) λus s1 ⟨vs,H1,I1,r1,q1⟩=>hc pins s1 σ H1 vs us Q I1 r1 q1) he aN
end
end L2
namespace HT
open PySem PyProof.Rows
noncomputable def lexLt:List Int->List Int->Bool
 |[],[]=>vn
 |[],_::_=>vm
 |_::_,[]=>vn
 |x::xs,y::ys=>if x=y then lexLt xs ys else decide (x<y)
theorem lexLt_cons (x y:Int)(xs ys:List Int):lexLt (x::xs) (y::ys)=if x=y then lexLt xs ys else decide (x<y):=rfl
theorem eqAt_int (A:my)(s:lu)(a:Int)(t:Tok)(c:Int)(u:Tok):∃e,rS A s (.int a t) (.int c u) e/\(e=vm↔a=c):=
 ⟨(a == c),rT a t c u,by simp⟩
theorem rcLt_int (A:my)(s:lu)(a:Int)(t:Tok)(c:Int)(u:Tok)(prog:l5)(w:mx)(E:aV->lu->Prop)(Q:aV->lu->Prop)(h:Q (.bool (decide (a<c))) s):
  lX (model prog w) A (richCompare .Lt (.int a t) (.int c u)) Q E s:=
 (uZ h:lX (model prog w) A (l4 .Lt (.int a t) (.int c u)) Q E s)
section
open PySem.SeqAt
open PySem.AutoSeq1 (wpAny_loadPart')
open PySem.MeetsSeq PySem.MeetsSeq2 PySem.MeetsSeq3
end
section
variable {prog:l5}{w:mx}{A:my}{E:aV->lu->Prop}{s:lu}
theorem cat_tup {t b:lE}{vs ws:List aV}{Q:aV->lu->Prop}(ht:IsTup s.heap t vs.toArray)(hb:IsTup s.heap b ws.toArray)(hv:vs≠[])
  (h1:ws=[]->Q (.ref t) s) (h2:ws≠[]->Q (.ref s.heap.objs.size) {s with heap:=s.heap.push {cls:=.type "tuple",data:=.seq (vs++ws).toArray}})
  (hsz:vs.length+ws.length<=lL):lX (model prog w) A (nR .Add (.ref t) (.ref b)) Q E s:=by
 obtain⟨⟨cls,dd,data,sl⟩,ho,hc,n,hd⟩:=id ht;obtain⟨⟨ia,cK,data2,cA⟩,bG,bI,n2,hd2⟩:=id hb;simp only at hc hd bI hd2;subst hc hd bI hd2;have e:vs.toArray++ws.toArray=(vs++ws).toArray:=by simp
 by_cases hw:ws=[]
 ·exact concat_meets ⟨_,ho,rfl⟩ ⟨_,bG,rfl⟩ noFill_tuple_add seq_tuple_add qV qH (qC _ _)
   (tuple_addW1 t b vs.toArray ws.toArray n n2 dd cK sl cA (by simpa using hv) (by simp[hw])) ⟨ho,bG,h1 hw⟩
 ·refine concat_meets ⟨_,ho,rfl⟩ ⟨_,bG,rfl⟩ noFill_tuple_add seq_tuple_add qV qH (qC _ _)
   (tuple_addW2 t b vs.toArray ws.toArray n n2 dd cK sl cA (by simpa using hv) (by simpa using hw) (by rw[lD,lD];exact hsz)) ⟨ho,bG,?_⟩
  rw[e];exact h2 hw
noncomputable def sIx (n d:Nat):Option Int->Nat
 |none=>d
 |some v=>if v<0 then(v+(n:Int)).toNat else min v.toNat n
theorem sIx_le (n d:Nat)(hd:d<=n)(o:Option Int):sIx n d o<=n:=by
 cases o with
 |none=>exact hd
 |some v=>
  show(if v<0 then(v+(n:Int)).toNat else min v.toNat n)<=n
  by_cases hv:v<0
  ·rw[if_pos hv];lia
  ·rw[if_neg hv];exact Nat.min_le_right _ _
theorem ziL_ (v:Int)(n d:Nat):(if v<0 then max (v+(n:Int)) 0 else min v (n:Int))=((sIx n d (vj v):Nat):Int):=by
 show(if v<0 then max (v+(n:Int)) 0 else min v (n:Int))=(((if v<0 then(v+(n:Int)).toNat else min v.toNat n):Nat):Int)
 by_cases hv:v<0
 ·simp only[if_pos hv];lia
 ·simp only[if_neg hv];lia
theorem zgX_ (lo hi:Option Int)(n:Nat):pG lo hi 1 (n:Int)=(((sIx n 0 lo:Nat):Int),((sIx n n hi:Nat):Int)):=by
 have h1:¬((1:Int)<0):=by lia
 unfold pG;simp only[h1,if_false];refine Prod.ext ?_ ?_
 ·cases lo with
  |none=>rfl
  |some v=>exact ziL_ v n 0
 ·cases hi with
  |none=>rfl
  |some v=>exact ziL_ v n n
theorem zfV_ (i j:Nat):ot (i:Int) (j:Int) 1=j-i:=by
 unfold ot;have h1:(1:Int) > 0:=by lia
 simp only[h1,if_true,Int.ediv_one];split<;>lia
theorem zde_ {v:aV}{o:Option Int}{Q:Option Int->lu->Prop}(p:IsPart v o)(h:Q o s):lX (model prog w) A (tw v) Q E s:=by
 cases p with
 |none=>exact slicePart_none h
 |int i t=>exact slicePart_int h
theorem zbN_ {sl:lE}{vl vu:aV}{lo hi:Option Int}{n:Nat}{Q:Int×Int×Nat->lu->Prop}(hs:s.heap.IsSliceOf sl vl vu .none)(pl:IsPart vl lo)(pu:IsPart vu hi)
  (h:Q (((sIx n 0 lo:Nat):Int),1,sIx n n hi-sIx n 0 lo) s):lX (model prog w) A (qk (.ref sl) (pure (n:Int))) Q E s:=by
 obtain⟨os,hos,hcs,hds⟩:=id hs;unfold qk tS;refine ll (ll (nY hos hds (x:=vl) rfl (ll (nY hos hds (x:=vu) rfl (ll (nY hos hds (x:=.none) rfl (lM ?_)))))));refine ll (slicePart_none ?_);show lX _ _ (if((1:Int) == 0)=vm then _ else _) _ _ s
 rw[if_neg (by decide)]
 refine ll (zde_ pl (ll (zde_ pu (ll (lM ?_)))));show lX _ _ (match pG lo hi 1 (n:Int)with |(lo,hi)=>pure (lo,(1:Int),ot lo hi 1)) _ _ s
 rw[zgX_ lo hi n];show lX _ _ (pure (((sIx n 0 lo:Nat):Int),(1:Int),ot ((sIx n 0 lo:Nat):Int) ((sIx n n hi:Nat):Int) 1)) _ _ s
 rw[zfV_];exact lM h
theorem zjH_ (xs:Array aV)(i k:Nat):((mj k).filterMap λ(m:Nat)=>xs[((i:Int)+(m:Int)*1).toNat]?).toArray=((xs.toList.drop i).take k).toArray:=by
 have e:(λ(m:Nat)=>xs[((i:Int)+(m:Int)*1).toNat]?)=λm=>xs[i+m]?:=by
  funext m;have:((i:Int)+(m:Int)*1).toNat=i+m:=by lia
  rw[this]
 rw[e];have:=pick_run xs i k;rw[List.filterMap_map]at this;have e2:((λx=>xs[x]?)∘λx=>i+x)=λm=>xs[i+m]?:=rfl
 rw[e2]at this;rw[this]
theorem getItem_tuple_cut {t sl:lE}{items:Array aV}{vl vu:aV}{lo hi:Option Int}{Q:aV->lu->Prop}(ht:IsTup s.heap t items)(hs:s.heap.IsSliceOf sl vl vu .none)(pl:IsPart vl lo)(pu:IsPart vu hi)
  (hw:¬(sIx items.size 0 lo=0/\sIx items.size items.size hi=items.size))
  (h:Q (.ref s.heap.objs.size) {s with heap:=s.heap.push {cls:=.type "tuple",data:=.seq ((items.toList.drop (sIx items.size 0 lo)).take (sIx items.size items.size hi-sIx items.size 0 lo)).toArray}})
  (hsz:items.size<=lL):lX (model prog w) A (getItem (.ref t) (.ref sl)) Q E s:=by
 have bp:sizeOk (.seq ((items.toList.drop (sIx items.size 0 lo)).take (sIx items.size items.size hi-sIx items.size 0 lo)).toArray):=by
  show((items.toList.drop (sIx items.size 0 lo)).take (sIx items.size items.size hi-sIx items.size 0 lo)).toArray.size<=lL
  rw[lD,mS,mY,mQ];lia
 have hj:sIx items.size items.size hi<=items.size:=sIx_le _ _ (lC _) hi;obtain⟨os,hos,hcs,hds⟩:=id hs;have j5:s.TypeIs (.ref sl) "slice":=⟨os,hos,hcs⟩;unfold getItem
 try with_reducible refine wpAny_holding ?_
 first |refine ll (lM ?_)|skip
 refine ll (wpAny_sequenceKey ht.typeIs (by decide) ?_)
 refine ll (wpAny_callSpecial?_slot (name:=oG "__getitem__") ht.typeIs oP
  (wpAny_call_entry oP ht.typeIs entry_tuple_getitem ?_ (args_tuple_getitem _ _)))
 show lX _ _ (tK (.ref t)>>=_) _ _ s
 refine ll (tupleItemsOf_ ht ?_);refine ll (wpAny_typeOf j5 ?_);rw[if_pos (by decide)]
 refine ll (zbN_ hs pl pu ?_);have jM:¬((((sIx items.size 0 lo:Nat):Int) == 0 && (1:Int) == 1 && (sIx items.size items.size hi-sIx items.size 0 lo) == items.size)=vm):=by
  intro q;rw[lj,lj]at q;have q1:((sIx items.size 0 lo:Nat):Int)=0:=eq_of_beq q.1.1;have q2:sIx items.size items.size hi-sIx items.size 0 lo=items.size:=eq_of_beq q.2;exact hw ⟨by lia,by lia⟩
 show lX _ _ (if(((sIx items.size 0 lo:Nat):Int) == 0 && (1:Int) == 1 && (sIx items.size items.size hi-sIx items.size 0 lo) == items.size)=vm then _ else _) _ _ s
 rw[if_neg jM,zjH_]
 first
  |exact ll (m:=oN _) (wpAny_newObj_type (lM ⟨_,rfl,lM h⟩) bp)
  |exact ll (m:=oN _) (wpAny_newObj_type (ll (lM (lM ⟨_,rfl,lM h⟩))) bp)
  |exact ll (ll (m:=oN _) (wpAny_newObj_type (lM (lM ⟨_,rfl,lM h⟩)) bp))
  |exact ll (ll (m:=oN _) (wpAny_newObj_type (lM ⟨_,rfl,lM h⟩) bp))
end
end HT
namespace L2
open PySem PySem.Spec PyProof.Rows
abbrev TO:=St->Hp->(Option Int->Hp->Prop)->Prop
def PO (X:Cx)(e:Option lP)(t:TO):Prop:=
 ∀(pins:Pnn) (s:lu) (σ:St) (H:Hp) (Q:Option Int->Hp->Prop),Inv X pins σ H s->t σ H Q ->
  lX (model X.prog X.w) X.A (evalPart e X.env) (λu s'=>∃o H',Inv X pins σ H' s'/\IsPart u o/\Q o H') X.xe s
def tNoPart:TO:=λ_ H Q=>Q vk H
theorem zgO_ {ns:List Int}:∀{us:List aV},Vals (ns.map V.int) us->IntsAre us ns:=by
 induction ns with
 |nil=>intro us r;rw[nL]at r;cases r;exact .nil
 |cons n ns ih=>
  intro us r;rw[lB]at r;cases r with
  |cons r1 r2=>
   obtain⟨t,e⟩:=r1;subst e;exact .cons n t (ih r2)
section
variable {X:Cx}{e:lP}{te:TE}{lo hi:Option lP}{tl th:TO}{pos p2:Pos}
theorem zoc_:PO X vk tNoPart:=by
 intro pins s σ H Q I h;rw[evalPart_none];exact lM ⟨vk,H,I,.none,h⟩
def SlR (X:Cx)(r:V->Option Int->Option Int->Hp->VK->Prop):Prop:=
 ∀(pins:Pnn) (s:lu) (σ:St) (H:Hp) (x:V) (v vl vu:aV) (lo hi:Option Int) (sl:lE) (Q:VK),Inv X pins σ H s->RelV x v->s.heap.IsSliceOf sl vl vu .none->IsPart vl lo->IsPart vu hi->r x lo hi H Q ->
  ∃T id,typeLookup (.type T) "__getitem__"=pure (vj (.builtin id))/\s.TypeIs v T/\lX (model X.prog X.w) X.A (getItem v (.ref sl)) (EP X pins σ Q) X.xe s
theorem SlR.or {r r':V->Option Int->Option Int->Hp->VK->Prop}(h:SlR X r)(h':SlR X r'):SlR X (λx lo hi H Q=>r x lo hi H Q\/r' x lo hi H Q):=by
 intro pins s σ H x v vl vu lo hi sl Q I rx hs pl pu q;rcases q with q |q
 ·exact h pins s σ H x v vl vu lo hi sl Q I rx hs pl pu q
 ·exact h' pins s σ H x v vl vu lo hi sl Q I rx hs pl pu q
def tSl (r:V->Option Int->Option Int->Hp->VK->Prop)(te:TE)(tl th:TO):TE:=λσ H Q=>te σ H λx H1=>tl σ H1 λl H2=>th σ H2 λu H3=>r x l u H3 Q
theorem zjI_ {r:V->Option Int->Option Int->Hp->VK->Prop}(hr:SlR X r)(he:PE X e te)(hl:PO X lo tl)(hu:PO X hi th):PE X (.Subscript e (.Slice lo hi vk p2) pos) (tSl r te tl th):=by
 intro pins s σ H Q I h;refine Subscript_ (thn (he pins s σ H _ I h) λv s1 af=>?_)
 obtain⟨x,H1,I1,r1,q1⟩:=af;refine wpAny_Slice (thn (hl pins s1 σ H1 _ I1 q1) λvl s2 ⟨l,H2,I2,pl,q2⟩=>thn (hu pins s2 σ H2 _ I2 q2) λvu s3 af=>?_)
 obtain⟨u,H3,I3,pu,q3⟩:=af;rw[evalPart_none];refine lM ?_;have I4:Inv X pins σ H3 {s3 with heap:=s3.heap.push {cls:=.type "slice",data:=.fields #[vl,vu,.none]}}:=I3.kept (t':=s3.toks) λb ob q=>lp _ q
 obtain⟨T,id,hT,ht,hg⟩:=hr pins {s3 with heap:=s3.heap.push {cls:=.type "slice",data:=.fields #[vl,vu,.none]}} σ H3 x v vl vu l u s3.heap.objs.size Q I4 r1 (vd ..) pl pu q3;show lX (model X.prog X.w) X.A (subscriptTail e (.Slice lo hi vk p2) v (.ref s3.heap.objs.size)) (EP X pins σ Q) X.xe {s3 with heap:=s3.heap.push {cls:=.type "slice",data:=.fields #[vl,vu,.none]}}
 exact tail_any (ops:=[.ref s3.heap.objs.size,v]) ht hT hg (by with_unfolding_all rfl)
def cutV (xs:List V)(lo hi:Option Int):List V:=(xs.drop (HT.sIx xs.length 0 lo)).take (HT.sIx xs.length xs.length hi-HT.sIx xs.length 0 lo)
theorem zcq_ (xs:List V)(lo hi:Option Int):(cutV xs lo hi).length<=xs.length:=by
 unfold cutV;rw[mS,mY];lia
def rSlT (K:Fgg):V->Option Int->Option Int->Hp->VK->Prop:=λx lo hi H Q=>∃a xs,x=.ref a/\SqT K H a xs /\
 ¬(HT.sIx xs.length 0 lo=0/\HT.sIx xs.length xs.length hi=xs.length)/\∀p,H p=vk->Q (.ref p) (upd H p (.tup (cutV xs lo hi)))
theorem zp9_:SlR X (rSlT X.K):=by
 intro pins s σ H x v vl vu lo hi sl Q I rx hs pl pu h;obtain⟨a,xs,rfl,hx,hw,q⟩:=h;cases rx;obtain⟨aa,r,ht,hz⟩:=I.tuple hx;have hlen:aa.toArray.size=xs.length:=by rw[lD];exact r.length.symm
 refine⟨"tuple",_,oP.lookup,ht.typeIs,?_⟩;refine HT.getItem_tuple_cut ht hs pl pu (by rw[hlen];exact hw) ?_ (by rw[hlen];exact hz)
 rw[hlen];refine⟨.ref s.heap.objs.size,_,I.laid (t':=s.toks) (o:=.tup (cutV xs lo hi)) (λb ob q=>lp _ q) (lC _) ?_,rfl,q _ (I.hok.fresh (lC _))⟩
 exact⟨m5 (zcq_ xs lo hi) hz,_,(r.drop (HT.sIx xs.length 0 lo)).take (HT.sIx xs.length xs.length hi-HT.sIx xs.length 0 lo),IsTup.new _ _⟩
def rCatT (K:Fgg):R2:=λx y H Q=>∃a b xs ys,x=.ref a/\y=.ref b/\SqT K H a xs/\SqT K H b ys/\xs≠[]/\xs.length+ys.length<=lL /\
 (ys=[]->Q (.ref a) H)/\(ys≠[]->∀p,H p=vk->Q (.ref p) (upd H p (.tup (xs++ys))))
theorem Vals.nil_iff {xs:List V}{us:List aV}(r:Vals xs us):us=[]↔xs=[]:=by
 cases r with
 |nil=>simp
 |cons _ _=>simp
theorem znO_:OpR X (nR .Add) (rCatT X.K):=by
 intro pins s σ H x y v u Q I rx ry h;obtain⟨a,b,xs,ys,rfl,rfl,ha,hb,hx,hz,q1,q2⟩:=h;cases rx;cases ry;obtain⟨aa,r1,p1,_⟩:=I.tuple ha;obtain⟨ao,r2,p2,_⟩:=I.tuple hb;refine HT.cat_tup p1 p2 (λz=>hx (r1.nil_iff.mp z)) (λz=>⟨.ref a,H,I,rfl,q1 (r2.nil_iff.mp z)⟩) (λz=>?_) (by rw[<- r1.length,<- r2.length];exact hz)
 refine⟨.ref s.heap.objs.size,_,I.laid (t':=s.toks) (o:=.tup (xs++ys)) (λb ob q=>lp _ q) (lC _) ?_,rfl,q2 (λw=>z (r2.nil_iff.mpr w)) _ (I.hok.fresh (lC _))⟩
 exact⟨by rw[lF];exact hz,_,r1.append r2,IsTup.new _ _⟩
end
noncomputable def ixN (n:Nat)(i:Int):Option Nat:=if 0<=i then(if i<n then vj i.toNat else vk)else if -(n:Int)<=i then vj (i+n).toNat else vk
def atI {α:Type}(xs:List α)(i:Int):Option α:=(ixN xs.length i).bind λj=>xs[j]?
theorem zgx_ {n:Nat}{i:Int}{j:Nat}(h:ixN n i=vj j):seqIndex? i n=vj j/\j<n /\ -(n:Int)<=i/\i<n:=by
 unfold ixN at h;by_cases h0:0<=i
 ·rw[if_pos h0]at h
  by_cases h1:i<n
  ·rw[if_pos h1]at h
   have e:i.toNat=j:=l9 h;exact⟨by rw[seqIndex_of h0 h1,e],by lia,by lia,h1⟩
  ·rw[if_neg h1]at h;cases h
 ·rw[if_neg h0]at h
  by_cases h1 : -(n:Int)<=i
  ·rw[if_pos h1]at h
   have e:(i+n).toNat=j:=l9 h;exact⟨by rw[seqIndex_neg (by lia) h1,e],by lia,h1,by lia⟩
  ·rw[if_neg h1]at h;cases h
theorem zhk_ {α:Type}{xs:List α}{i:Int}{v:α}(h:atI xs i=vj v):∃j,seqIndex? i xs.length=vj j/\xs[j]?=vj v/\j<xs.length /\ -(xs.length:Int)<=i/\i<xs.length:=by
 unfold atI at h;cases e:ixN xs.length i with
 |none=>rw[e]at h;cases h
 |some j=>
  rw[e]at h;obtain⟨h1,h2,h3,h4⟩:=zgx_ e;exact⟨j,h1,h,h2,h3,h4⟩
def PlainIx (b:lP):Prop:=∀o i,subscripted b vn o i=operate [o,i] (getItem o i)
def IxR (X:Cx)(r:R2):Prop:=
 ∀(value slice:lP) (pins:Pnn) (s:lu) (σ:St) (H:Hp) (x y:V) (v u:aV) (Q:VK),Inv X pins σ H s->RelV x v->RelV y u->r x y H Q ->
  subscripted slice vn v u=operate [v,u] (getItem v u)->lX (model X.prog X.w) X.A (subscriptTail value slice v u) (EP X pins σ Q) X.xe s
def MtR (X:Cx)(id:String)(r:V->List V->Hp->VK->Prop):Prop:=
 ∀(pins:Pnn) (s:lu) (σ:St) (H:Hp) (x:V) (xs:List V) (v:aV) (us:List aV) (Q:VK),Inv X pins σ H s->RelV x v->Vals xs us->r x xs H Q ->
  lX (model X.prog X.w) X.A (call (.builtin id) (v::us)) (EP X pins σ Q) X.xe s
section
variable {X:Cx}{a b:lP}{ta tb:TE}{pos:Pos}
theorem pe_ix {r:R2}(hr:IxR X r)(ha:PE X a ta)(hb:PE X b tb)(hs:PlainIx b):PE X (.Subscript a b pos) (tOp r ta tb):=by
 intro pins s σ H Q I h;exact Subscript_ (binT ha hb I h λv u s2 x y H2 I2 rx ry q=>hr a b pins s2 σ H2 x y v u Q I2 rx ry q (hs _ _))
def rIxL (K:Fgg):R2:=λx y H Q=>∃p xs i v,x=.ref p/\y=.int i/\SqL K H p xs/\atI xs i=vj v/\Q v H
def rIxT (K:Fgg):R2:=λx y H Q=>∃p xs i v,x=.ref p/\y=.int i/\SqT K H p xs/\atI xs i=vj v/\Q v H
def rIxS:R2:=λx y H Q=>∃z i c,x=.str z/\y=.int i/\z.length<=lL/\atI z.cps.toList i=vj c/\Q (.str ⟨#[c]⟩) H
theorem zlF_:IxR X (rIxL X.K):=by
 intro value slice pins s σ H x y v u Q I rx ry h hs;obtain⟨p,xs,i,z,rfl,rfl,hq,he,q⟩:=h;cases rx;obtain⟨t,rfl⟩:=ry;obtain⟨aa,r,pl,hz⟩:=I.list hq;obtain⟨j,h1,h2,h3,h4,h5⟩:=zhk_ he;obtain⟨w,ew,bN⟩:=r.get h2;have hl:=r.length;have hn:=line63;have fin:EP X pins σ Q w s:=⟨z,H,I,bN,q⟩;by_cases h0:0<=i
 ·have hj:i.toNat=j:=by
   rw[seqIndex_of h0 h5]at h1;exact l9 h1
  exact item_listR pl.isList h0 (by lia) (by rw[hj];simpa using ew) fin hs
 ·have hj:(i+(aa.toArray.size:Int)).toNat=j:=by
   rw[seqIndex_neg (by lia) h4]at h1
   rw[lD,<- hl];exact l9 h1
  exact subscriptTail_builtinR (x:=w) pl.isList.typeIs slot_list_getitem.lookup
   (wpAny_getItem_list_neg (Q:=λr s'=>r=w/\EP X pins σ Q r s') pl.isList (by lia) (by rw[lD]<;>lia) (by lia) (by rw[hj];simpa using ew) ⟨rfl,fin⟩) hs
theorem zpf_:IxR X (rIxT X.K):=by
 intro value slice pins s σ H x y v u Q I rx ry h hs;obtain⟨p,xs,i,z,rfl,rfl,hq,he,q⟩:=h;cases rx;obtain⟨t,rfl⟩:=ry;obtain⟨aa,r,pl,hz⟩:=I.tuple hq;obtain⟨j,h1,h2,h3,h4,h5⟩:=zhk_ he;obtain⟨w,ew,bN⟩:=r.get h2;have hl:=r.length;have hn:=line63;have fin:EP X pins σ Q w s:=⟨z,H,I,bN,q⟩
 exact subscriptTail_builtinR (x:=w) pl.typeIs slot_tuple_getitem.lookup
  (getItem_tuple (j:=j) (Q:=λr s'=>r=w/\EP X pins σ Q r s') pl (by lia) (by lia) (by rw[lD,<- hl];exact h1) (by simpa using ew) ⟨rfl,fin⟩) hs
theorem zqj_:IxR X rIxS:=by
 intro value slice pins s σ H x y v u Q I rx ry h hs;obtain⟨z,i,c,rfl,rfl,hz,he,q⟩:=h;obtain⟨t,rfl⟩:=rx;obtain⟨t',rfl⟩:=ry;obtain⟨j,h1,h2,h3,h4,h5⟩:=zhk_ he;have hl:z.cps.toList.length=z.length:=by simp[nJ]
 rw[hl]at h1 h4 h5;have hn:=line63;exact tail_any (typeIs_str s z t) slot_str_getitem.lookup (getItem_str (c:=c) (by
  have e1:decide (i < -(2 ^ 63:Int))=vn:=decide_eq_false (by lia)
  have e2:decide (i ≥ 2 ^ 63)=vn:=decide_eq_false (by lia)
  rw[e1,e2,Bool.or_false]) (by rw[h1];simpa using h2) ⟨.str ⟨#[c]⟩,H,I.tok _,⟨_,rfl⟩,q⟩) hs
theorem zfU_ (aa:List aV)(n j:Nat)(u:aV):l8 (·.setIfInBounds j u) {cls:=.type "list",data:=.seq aa.toArray n}={cls:=.type "list",data:=.seq (aa.set j u).toArray n}:=by
 simp[l8]
theorem Inv.lst {pins:Pnn}{σ:St}{H:Hp}{s:lu}{p:lE}{xs:List V}(I:Inv X pins σ H s)(h:H p=vj (.lst xs)):
  ∃(aa:List aV) (n:Nat),Vals xs aa/\s.heap.get? p=vj {cls:=.type "list",data:=.seq aa.toArray n}/\xs.length<=lL:=by
 obtain⟨z,aa,n,r,e⟩:=I.hok p _ h;exact⟨aa,n,r,e,z⟩
theorem Inv.lstUpd {pins:Pnn}{σ:St}{H:Hp}{s:lu}{p:lE}{xs ys:List V}{aa its':List aV}{n n':Nat}{f:tT->tT}(I:Inv X pins σ H s)(h:H p=vj (.lst xs))
  (ho:s.heap.get? p=vj {cls:=.type "list",data:=.seq aa.toArray n}) (hf:f {cls:=.type "list",data:=.seq aa.toArray n}={cls:=.type "list",data:=.seq its'.toArray n'}) (r:Vals ys its') (hz:ys.length<=lL) (t:Nat):
  Inv X pins σ (upd H p (.lst ys)) {s with heap:=s.heap.update p f,toks:=t}:=by
 have e:(s.heap.update p f).get? p=vj {cls:=.type "list",data:=.seq its'.toArray n'}:=by
  rw[Heap.get?_update_self f ho (by rw[hf]<;>rfl),hf]
 refine I.write (x:=p) (e:=p) (by rw[h];trivial) (.inl rfl) (λb u hb q=>(qW _ _ (pN hb)).trans q) ⟨_,e⟩ ?_
 exact⟨hz,its',n',r,e⟩
def rSetL:V->V->V->Hp->(Hp->Prop)->Prop:=λo i v H Q=>∃p xs k j,o=.ref p/\i=.int k/\H p=vj (.lst xs)/\ixN xs.length k=vj j/\Q (upd H p (.lst (xs.set j v)))
theorem zlb_:PSet X rSetL:=by
 intro pins s σ H o i v ov iv u Q I ro ri rv h;obtain⟨p,xs,k,j,rfl,rfl,hp,hj,q⟩:=h;cases ro;obtain⟨t,rfl⟩:=ri;obtain⟨aa,n,r,ho,hz⟩:=I.lst hp;obtain⟨h1,h2,h3,h4⟩:=zgx_ hj;have hl:=r.length;have hn:=line63;have I':Inv X pins σ (upd H p (.lst (xs.set j v))) {s with heap:=s.heap.update p (l8 (·.setIfInBounds j u))}:=
  I.lstUpd hp ho (zfU_ aa n j u) (r.set rv j) (by rw[nj];exact hz) s.toks
 by_cases h0:0<=k
 ·have hk:k.toNat=j:=by
   rw[seqIndex_of h0 h4]at h1;exact l9 h1
  exact W.ki_setAt ho h0 (by lia) (by rw[lD,<- hl];exact h4) (by rw[hk];exact⟨_,I',q⟩)
 ·have hk:(k+(aa.toArray.size:Int)).toNat=j:=by
   rw[seqIndex_neg (by lia) h3]at h1
   rw[lD,<- hl];exact l9 h1
  exact W.ki_setBack ho (by lia) (by rw[lD,<- hl];exact h3) (by lia) (by rw[hk];exact⟨_,I',q⟩)
theorem zd8_ (lo hi:Option Int)(n:Nat):(sliceBounds lo hi vk n).1=((HT.sIx n 0 lo:Nat):Int)/\(sliceBounds lo hi vk n).2.1=((HT.sIx n n hi:Nat):Int)/\(sliceBounds lo hi vk n).2.2=1:=by
 refine⟨?_,?_,rfl⟩
 ·cases lo with
  |none=>simp[sliceBounds,HT.sIx]
  |some i=>
   simp only[sliceBounds,HT.sIx,sS,show(1:Int) > 0 by decide,if_true]
   by_cases h:i<0
   ·simp only[h,if_true]<;>lia
   ·simp only[h,if_false]<;>lia
 ·cases hi with
  |none=>simp[sliceBounds,HT.sIx]
  |some i=>
   simp only[sliceBounds,HT.sIx,sS,show(1:Int) > 0 by decide,if_true]
   by_cases h:i<0
   ·simp only[h,if_true]<;>lia
   ·simp only[h,if_false]<;>lia
theorem zcX_ (aa:List aV)(lo hi:Option Int):slicePick aa.toArray lo hi vk=((aa.drop (HT.sIx aa.length 0 lo)).take (HT.sIx aa.length aa.length hi-HT.sIx aa.length 0 lo)).toArray:=by
 obtain⟨h1,h2,h3⟩:=zd8_ lo hi aa.toArray.size;unfold slicePick;rw[h1,h2,h3];simp only[sliceRange_one,pick_run,lD]<;>rfl
def rSlL (K:Fgg):V->Option Int->Option Int->Hp->VK->Prop:=λx lo hi H Q=>∃a xs,x=.ref a/\SqL K H a xs/\∀p,H p=vk->Q (.ref p) (upd H p (.lst (cutV xs lo hi)))
theorem zlK_:SlR X (rSlL X.K):=by
 intro pins s σ H x v vl vu lo hi sl Q I rx hs pl pu h;obtain⟨a,xs,rfl,hx,q⟩:=h;cases rx;obtain⟨aa,r,ht,hz⟩:=I.list hx;have hlen:=r.length;refine⟨"list",_,slot_list_getitem.lookup,ht.isList.typeIs,?_⟩;refine wpAny_getItem_list_slice ht.isList hs pl pu .none (by simp) ?_ (by rw[lD]<;>lia)
 rw[zcX_,<- hlen];refine⟨.ref s.heap.objs.size,_,I.laid (t':=s.toks) (o:=.lst (cutV xs lo hi)) (λb ob q=>lp _ q) (lC _) ?_,rfl,q _ (I.hok.fresh (lC _))⟩
 exact⟨m5 (zcq_ xs lo hi) hz,_,0,(r.drop (HT.sIx xs.length 0 lo)).take (HT.sIx xs.length xs.length hi-HT.sIx xs.length 0 lo),lN _ rfl⟩
noncomputable def flatV:V->Bool
 |.non=>vm
 |.bl _=>vm
 |.int _=>vm
 |.str _=>vm
 |_=>vn
noncomputable def eqV:V->V->Bool
 |.non,.non=>vm
 |.bl a,.bl b=>a == b
 |.bl a,.int b=>(if a then 1 else 0) == b
 |.int a,.bl b=>a == (if b then 1 else 0)
 |.int a,.int b=>a == b
 |.str a,.str b=>a == b
 |_,_=>vn
theorem znN_ {A:my}{s:lu}{y x:V}{u v:aV}(ry:RelV y u)(rx:RelV x v)(fy:flatV y=vm)(fx:flatV x=vm):rS A s u v (eqV y x):=by
 cases y with
 |non=>
  cases ry;cases x with
  |non=>cases rx;exact rg _
  |bl b=>cases rx;exact SeqAt.EqAt.none_bool b
  |int b=>obtain⟨t,rfl⟩:=rx;exact SeqAt.EqAt.none_int b t
  |str b=>obtain⟨t,rfl⟩:=rx;exact SeqAt.EqAt.none_str b t
  |_=>exact absurd (show vn=vm from fx) mN
 |bl a=>
  cases ry;cases x with
  |non=>cases rx;exact SeqAt.EqAt.bool_none a
  |bl b=>cases rx;exact SeqAt.EqAt.bool_bool a b
  |int b=>obtain⟨t,rfl⟩:=rx;exact SeqAt.EqAt.bool_int a b t
  |str b=>obtain⟨t,rfl⟩:=rx;exact SeqAt.EqAt.bool_str a b t
  |_=>exact absurd (show vn=vm from fx) mN
 |int a=>
  obtain⟨t',rfl⟩:=ry;cases x with
  |non=>cases rx;exact SeqAt.EqAt.int_none a t'
  |bl b=>cases rx;exact SeqAt.EqAt.int_bool a t' b
  |int b=>obtain⟨t,rfl⟩:=rx;exact rT a t' b t
  |str b=>obtain⟨t,rfl⟩:=rx;exact rO a t' b t
  |_=>exact absurd (show vn=vm from fx) mN
 |str a=>
  obtain⟨t',rfl⟩:=ry;cases x with
  |non=>cases rx;exact SeqAt.EqAt.str_none a t'
  |bl b=>cases rx;exact SeqAt.EqAt.str_bool a t' b
  |int b=>obtain⟨t,rfl⟩:=rx;exact rP a t' b t
  |str b=>obtain⟨t,rfl⟩:=rx;exact SeqAt.EqAt.str_str a t' b t
  |_=>exact absurd (show vn=vm from fx) mN
 |_=>exact absurd (show vn=vm from fy) mN
def eqU (x:V)(u:aV):Bool:=match u with
 |.none=>eqV .non x
 |.bool b=>eqV (.bl b) x
 |.int i _=>eqV (.int i) x
 |.str z _=>eqV (.str z) x
 |_=>vn
theorem znz_ {x y:V}{u:aV}(r:RelV y u)(f:flatV y=vm):eqU x u=eqV y x:=by
 cases y with
 |non=>cases r;rfl
 |bl b=>cases r;rfl
 |int i=>obtain⟨t,rfl⟩:=r;rfl
 |str z=>obtain⟨t,rfl⟩:=r;rfl
 |_=>exact absurd (show vn=vm from f) mN
theorem zdn_ {x:V}:∀{xs:List V}{us:List aV},Vals xs us->xs.all flatV=vm->us.any (eqU x)=xs.any λy=>eqV y x
 |_,_,.nil,_=>rfl
 |y::xs,u::us,.cons r t,f=>by
  rw[mO,lj]at f;rw[pd,pd,znz_ r f.1,zdn_ t f.2]
theorem zb7_ {A:my}{s:lu}{x:V}{v:aV}(rx:RelV x v)(fx:flatV x=vm):∀{xs:List V}{us:List aV},Vals xs us->xs.all flatV=vm->∀u∈us,rS A s u v (eqU x u)
 |_,_,.nil,_=>λu hu=>by cases hu
 |y::xs,u::us,.cons r t,f=>λu' hu=>by
  rw[mO,lj]at f;rcases lQ.mp hu with rfl |hu
  ·rw[znz_ r f.1];exact znN_ r rx f.1 fx
  ·exact zb7_ rx fx t f.2 u' hu
def inV (x:V)(xs:List V):Bool:=xs.any λy=>eqV y x
def rIn (K:Fgg)(neg:Bool):R2:=λx y H Q=>∃p xs,y=.ref p/\(SqL K H p xs\/SqT K H p xs)/\flatV x=vm/\xs.all flatV=vm/\Q (.bl (if neg then !inV x xs else inV x xs)) H
theorem zhD_:OpR X (l4 .In) (rIn X.K vn):=by
 intro pins s σ H x y v u Q I rx ry h;obtain⟨p,xs,rfl,hq,fx,fs,q⟩:=h;cases ry;rcases hq with hq |hq
 ·obtain⟨aa,r,pl,hz⟩:=I.list hq
  refine SeqAt.in_listAt (eqU x) pl.isList (λw hw=>zb7_ rx fx r fs w (by simpa using hw)) ⟨.bl _,H,I,rfl,?_⟩
  rw[show aa.toArray.any (eqU x)=aa.any (eqU x) by simp,zdn_ r fs]
  exact q
 ·obtain⟨aa,r,pl,hz⟩:=I.tuple hq
  refine SeqAt.in_tupleAt (eqU x) pl (λw hw=>zb7_ rx fx r fs w (by simpa using hw)) ⟨.bl _,H,I,rfl,?_⟩
  rw[show aa.toArray.any (eqU x)=aa.any (eqU x) by simp,zdn_ r fs]
  exact q
theorem zeb_:OpR X (l4 .NotIn) (rIn X.K vm):=by
 intro pins s σ H x y v u Q I rx ry h;obtain⟨p,xs,rfl,hq,fx,fs,q⟩:=h;cases ry;rcases hq with hq |hq
 ·obtain⟨aa,r,pl,hz⟩:=I.list hq
  refine SeqAt.notIn_listAt (eqU x) pl.isList (λw hw=>zb7_ rx fx r fs w (by simpa using hw)) ⟨.bl _,H,I,rfl,?_⟩
  rw[show aa.toArray.any (eqU x)=aa.any (eqU x) by simp,zdn_ r fs]
  exact q
 ·obtain⟨aa,r,pl,hz⟩:=I.tuple hq
  refine SeqAt.notIn_tupleAt (eqU x) pl (λw hw=>zb7_ rx fx r fs w (by simpa using hw)) ⟨.bl _,H,I,rfl,?_⟩
  rw[show aa.toArray.any (eqU x)=aa.any (eqU x) by simp,zdn_ r fs]
  exact q
theorem zdC_:CallR X (.builtin "len") (λxs H Q=>∃p ys,xs=[.ref p]/\(SqL X.K H p ys\/SqT X.K H p ys)/\Q (.int ys.length) H):=by
 intro pins s σ H xs us Q I r h;obtain⟨p,ys,rfl,hq,q⟩:=h;obtain⟨u,rfl,rx⟩:=vals1 r;cases rx;have hn:=line63;rcases hq with hq |hq
 ·obtain⟨aa,r',pl,hz⟩:=I.list hq
  have hlen:=r'.length;exact Calls.call_len_list pl.isList (by simp only[lD]<;>lia) ⟨.int ys.length,H,I.tok _,⟨s.toks+1,by rw[lD,hlen]⟩,q⟩
 ·obtain⟨aa,r',pl,hz⟩:=I.tuple hq
  have hlen:=r'.length;exact len_tuple pl (by simp only[lD]<;>lia) ⟨.int ys.length,H,I.tok _,⟨s.toks+1,by rw[lD,hlen]⟩,q⟩
theorem zdL_:CallR X (.builtin "len") (λxs H Q=>∃z,xs=[.str z]/\z.length<=lL/\Q (.int z.length) H):=by
 intro pins s σ H xs us Q I r h;obtain⟨z,rfl,hz,q⟩:=h;obtain⟨u,rfl,t,rfl⟩:=vals1 r;have hn:=line63;exact len_str (by lia) ⟨.int z.length,H,I.tok _,⟨_,rfl⟩,q⟩
theorem zd0_:CallR X (.type "list") (λxs H Q=>∃p ys,xs=[.ref p]/\(SqL X.K H p ys\/SqT X.K H p ys)/\∀l,H l=vk->Q (.ref l) (upd H l (.lst ys))):=by
 intro pins s σ H xs us Q I r h;obtain⟨p,ys,rfl,hq,q⟩:=h;obtain⟨u,rfl,rx⟩:=vals1 r;cases rx
 have fin:∀(aa:List aV),Vals ys aa->ys.length<=lL->∀(h':Heap) (c':Nat),(∀b o',s.heap.get? b=vj o'->h'.get? b=vj o') ->
   h'.get? s.heap.objs.size=vj {cls:=.type "list",dict:=vk,data:=.seq aa.toArray c',slots:=#[]}->EP X pins σ Q (.ref s.heap.objs.size) {s with heap:=h'}:=λaa r' hz h' c' kp e=>
  ⟨.ref s.heap.objs.size,_,I.laid (t':=s.toks) kp (lC _) (show ObjOk X.prog X.w _ h' _ (.lst ys)from⟨hz,aa,c',r',e⟩),rfl,q _ (I.hok.fresh (lC _))⟩
 rcases hq with hq |hq
 ·obtain⟨aa,r',pl,hz⟩:=I.list hq
  have hlen:=r'.length;obtain⟨o,ho,hc,n,hd⟩:=pl.isList;exact call_list_seq p (.inl rfl) ho hc hd (λh' c' kp e=>fin aa r' hz h' c' kp e) (by simp only[lD]<;>lia)
 ·obtain⟨aa,r',pl,hz⟩:=I.tuple hq
  have hlen:=r'.length;obtain⟨o,ho,hc,n,hd⟩:=pl;exact call_list_seq p (.inr rfl) ho hc hd (λh' c' kp e=>fin aa r' hz h' c' kp e) (by simp only[lD]<;>lia)
def tyV (K:Fgg)(T:String)(x:V)(H:Hp):Prop:=match x with
 |.str _=>T="str"
 |.int _=>T="int"
 | .ref p=>(T="list" /\ ∃xs,SqL K H p xs)\/(T="tuple" /\ ∃o,K.lookup p=vj o/\o.cls=.type "tuple" /\ o.dict=vk) \/
   (T="dict" /\ ((∃kvs,H p=vj (.dK kvs))\/∃kvs,H p=vj (.dT kvs)))\/(T="set" /\ ∃S n,H p=vj (.set S n))
 |_=>False
theorem zny_ {pins:Pnn}{σ:St}{H:Hp}{s:lu}{T:String}{x:V}{v:aV}(I:Inv X pins σ H s)(r:RelV x v)(ty:tyV X.K T x H):
  s.TypeIs v T/\∀a,v=.ref a->∃ob,s.heap.get? a=vj ob/\ob.dict=vk:=by
 cases x with
 |str z=>
  obtain⟨t,rfl⟩:=r;cases(show T="str" from ty)
  exact⟨typeIs_str s z t,λ_ e=>nomatch e⟩
 |int i=>
  obtain⟨t,rfl⟩:=r;cases(show T="int" from ty)
  exact⟨typeIs_int s i t,λ_ e=>nomatch e⟩
 |ref p=>
  cases r;rcases ty with⟨rfl,xs,hq⟩|⟨rfl,o,hk,hc,hd⟩|⟨rfl,hk⟩|⟨rfl,S,n,hk⟩
  ·obtain⟨aa,_,pl,_⟩:=I.list hq
   refine⟨pl.isList.typeIs,λa e=>?_⟩
   cases e;obtain⟨o,n,e,c,hd,_⟩:=pl;exact⟨o,e,hd⟩
  ·refine⟨⟨o,I.kIn p o hk,hc⟩,λa e=>?_⟩
   cases e;exact⟨o,I.kIn _ o hk,hd⟩
  ·have z:∃o,s.heap.get? p=vj o/\o.ExactDict:=by
    rcases hk with⟨kvs,hk⟩|⟨kvs,hk⟩
    ·obtain⟨_,_,_,_,o,_,_,e,ex,_⟩:=I.hok p _ hk
     exact⟨o,e,ex⟩
    ·obtain⟨_,_,_,_,o,_,_,e,ex,_⟩:=I.hok p _ hk
     exact⟨o,e,ex⟩
   obtain⟨o,e,ex⟩:=z;refine⟨⟨o,e,ex.1⟩,λa e2=>?_⟩
   cases e2;exact⟨o,e,ex.2.1⟩
  ·obtain⟨o,_,_,_,e,ex,_⟩:=I.hok p _ hk
   refine⟨⟨o,e,ex.1⟩,λa e2=>?_⟩
   cases e2;exact⟨o,e,ex.2.1⟩
 |_=>exact mi ty
def tBM0 (K:Fgg)(T:String)(r:V->List V->Hp->VK->Prop)(to:TE):TE:=λσ H Q=>to σ H λx H1=>tyV K T x H1/\r x [] H1 Q
def tBM (K:Fgg)(T:String)(r:V->List V->Hp->VK->Prop)(to:TE)(t:TA):TE:=λσ H Q=>to σ H λx H1=>tyV K T x H1/\t σ H1 λxs H2=>r x xs H2 Q
variable {o e:lP}{es:List lP}{to:TE}{t:TA}{name:Str}{apos ak:Pos}{T id:String}{r:V->List V->Hp->VK->Prop}
theorem zmg_ (pa:PlainAttrs T)(slot:Slot T name id)(eE:typeOf (.builtin id)=pure (.type "method_descriptor"))(hm:MtR X id r)(ho:PE X o to)
  (b8:attributeBase o name X.env (eval o X.env)=eval o X.env:=by rfl) (bY:(apos.endLine == ak.line)=vm:=by rfl):PE X (.Call (.Attribute o name apos) [] [] ak) (tBM0 X.K T r to):=by
 intro pins s σ H Q I h;refine wpAny_Call_method0_late b8 bY (thn (ho pins s σ H _ I h) λv s1 af=>?_)
 obtain⟨x,H1,I1,r1,ty,q1⟩:=af;obtain⟨h1,h2⟩:=zny_ I1 r1 ty;exact⟨T,id,pa,slot,eE,h1,h2,Calls.callWith_builtin rfl (PySem.evalArgs_none (hm pins s1 σ H1 x [] v [] Q I1 r1 .nil q1))⟩
theorem zqA_ (pa:PlainAttrs T)(slot:Slot T name id)(eE:typeOf (.builtin id)=pure (.type "method_descriptor"))(hm:MtR X id r)(ho:PE X o to)(ha:PA X (e::es) t)
  (b8:attributeBase o name X.env (eval o X.env)=eval o X.env:=by rfl)
  (gP:((oM ak (me (e::es) X.env)).all (λx=>!x.1) && (rD ak (p8 [] X.env)).all (λx=>x.1.isSome)
   && decide ((e::es).length+([]:List Keyword).length+(if([]:List Keyword).isEmpty then 0 else 1)<30))=vm:=by rfl)
  (bY:(apos.endLine == ak.line)=vm:=by rfl) (hs:me (e::es) X.env=(vn,eval e X.env)::me es X.env:=by rfl) (de:(oM ak (me es X.env)).any (·.1)=vn:=by rfl):
  PE X (.Call (.Attribute o name apos) (e::es) [] ak) (tBM X.K T r to t):=by
 intro pins s σ H Q I h;refine wpAny_Call_method_late b8 gP bY rfl (thn (ho pins s σ H _ I h) λv s1 af=>?_)
 obtain⟨x,H1,I1,r1,ty,q1⟩:=af;obtain⟨h1,h2⟩:=zny_ I1 r1 ty;refine⟨T,id,pa,slot,eE,h1,h2,?_⟩;have hA:=ha ak pins s1 σ H1 _ I1 q1;rw[hs]at hA ⊢;refine Calls.callWith_builtin (by show(vn ||(oM ak (me es X.env)).any (·.1))=vn;rw[de]<;>rfl) (Calls.evalArgs_plain ?_)
 exact thn hA λus s2 ⟨vs,H2,I2,r2,q2⟩=>hm pins s2 σ H2 x vs v us Q I2 r1 r2 q2
end
def MtM (X:Cx)(id:String)(r:V->List V->Hp->VK->Prop):Prop:=
 ∀(pins:Pnn) (s:lu) (σ:St) (H:Hp) (x:V) (xs:List V) (v:aV) (us:List aV) (Q:VK),Inv X pins σ H s->RelV x v->Vals xs us->r x xs H Q ->
  lX (model X.prog X.w) X.A (call (.builtin id) (v::us)) (EP X pins σ Q) X.xe s
theorem Vals.one:∀{x:V}{us:List aV},Vals [x] us->∃u,us=[u]/\RelV x u
 |_,_,.cons r .nil=>⟨_,rfl,r⟩
theorem Vals.dropLast {xs:List V}{us:List aV}(h:Vals xs us):Vals xs.dropLast us.dropLast:=by
 induction h with
 |nil=>exact .nil
 |cons r t ih=>
  cases t with
  |nil=>exact .nil
  |cons q t'=>exact .cons r ih
theorem Vals.rep {xs:List V}{us:List aV}(h:Vals xs us):∀k:Nat,Vals (lR k xs).flatten (lR k us).flatten
 |0=>.nil
 |k+1=>by
  rw[mZ,mZ,oH,oH];exact Vals.append h (Vals.rep h k)
theorem zmC_ {α:Type}(l:List α):l.eraseIdx (l.length-1)=l.dropLast:=by
 induction l with
 |nil=>rfl
 |cons a r ih=>
  cases r with
  |nil=>rfl
  |cons b r=>
   have e:(a::b::r).length-1=((b::r).length-1)+1:=by
    have h1:(a::b::r).length=r.length+2:=rfl;have h2:(b::r).length=r.length+1:=rfl;lia
   rw[e,List.eraseIdx_cons_succ,ih]
   all_goals rfl
theorem zep_ (aa:List aV):∀(k:Nat) (acc:List aV),
  qX (λx1 x2=>x1++x2) acc.toArray (lR k aa.toArray)=(acc++(lR k aa).flatten).toArray
 |0,acc=>by simp
 |k+1,acc=>by
  have e:acc.toArray++aa.toArray=(acc++aa).toArray:=by simp
  have e2:(acc++aa)++(lR k aa).flatten=acc++(lR (k+1) aa).flatten:=by
   rw[mZ,oH,nC]
  rw[<- e2,<- zep_ aa k (acc++aa),<- e,mZ,pP]
section
variable {X:Cx}{pins:Pnn}{σ:St}{H:Hp}{s:lu}{l:lE}{xs ys:List V}
theorem Inv.lset {aa its':List aV}{n:Nat}{f:Array aV->Array aV}{t':Nat}(I:Inv X pins σ H s)(hH:H l=vj (.lst xs))
  (e:s.heap.get? l=vj {cls:=.type "list",data:=.seq aa.toArray n}) (hf:f aa.toArray=its'.toArray) (hv:Vals ys its') (hz:ys.length<=lL):
  Inv X pins σ (upd H l (.lst ys)) {s with heap:=s.heap.update l (l8 f),toks:=t'}:=by
 have q:=PySem.IsL.update e f;rw[hf]at q;refine I.write (x:=l) (e:=l) (by rw[hH];exact trivial) (.inl rfl) (λb' u hb hu=>(qW s.heap (l8 f) (pN hb)).trans hu) ⟨_,q⟩ ?_
 exact⟨hz,its',_,hv,q⟩
theorem Inv.lnew {aa:List aV}{t':Nat}(I:Inv X pins σ H s)(hv:Vals ys aa)(hz:ys.length<=lL):
  Inv X pins σ (upd H s.heap.objs.size (.lst ys)) {s with heap:=s.heap.push {cls:=.type "list",data:=.seq aa.toArray},toks:=t'}:=
 I.laid (λ_ _ q=>lp _ q) (lC _) ⟨hz,aa,0,hv,lN _ rfl⟩
theorem Inv.fresh (I:Inv X pins σ H s):H s.heap.objs.size=vk:=I.hok.fresh (lC _)
theorem Inv.lstM (I:Inv X pins σ H s)(hH:H l=vj (.lst xs)):xs.length<=lL/\∃(aa:List aV) (n:Nat),Vals xs aa/\xs.length=aa.length/\s.heap.get? l=vj {cls:=.type "list",data:=.seq aa.toArray n}:=by
 obtain⟨z,aa,n,r,e⟩:=I.hok l _ hH;exact⟨z,aa,n,r,r.length,e⟩
theorem notLongL {n:Nat}(h:n<=lL):oO n=vn:=by
 unfold oO;exact decide_eq_false (by lia)
end
section
variable {X:Cx}
def rAppend:V->List V->Hp->VK->Prop:=λx vs H Q=>∃l xs y,x=.ref l/\vs=[y]/\H l=vj (.lst xs)/\xs.length<lL/\Q .non (upd H l (.lst (xs++[y])))
theorem zcB_:MtM X "list.append" rAppend:=by
 intro pins s σ H x vs v us Q I rx rv h;obtain⟨l,xs,y,rfl,rfl,hH,hz,q⟩:=h;cases rx;obtain⟨u,rfl,ru⟩:=rv.one;obtain⟨z,aa,n,r,hl,e⟩:=I.lstM hH;refine call_meets F.slot_list_append ⟨_,e,rfl⟩ F.entry_list_append (F.args_list_append_2 _ _) (PySem.list_append l aa.toArray n u (by rw[lD];lia)) ⟨e,?_⟩
 refine⟨.non,_,I.lset (its':=aa++[u]) hH e (by simp) (r.append (.cons ru .nil)) ?_,rfl,q⟩
 rw[lF,pV];lia
def rExtend:V->List V->Hp->VK->Prop:=λx vs H Q=>∃l b xs zs,x=.ref l/\vs=[.ref b]/\H l=vj (.lst xs)/\H b=vj (.lst zs)/\xs.length+zs.length<=lL/\Q .non (upd H l (.lst (xs++zs)))
theorem zez_:MtM X "list.extend" rExtend:=by
 intro pins s σ H x vs v us Q I rx rv h;obtain⟨l,b,xs,zs,rfl,rfl,hH,hB,hz,q⟩:=h;cases rx;obtain⟨u,rfl,ru⟩:=rv.one;cases ru;obtain⟨z,aa,n,r,hl,e⟩:=I.lstM hH;obtain⟨z2,ao,n2,r2,dq,e2⟩:=I.lstM hB;have hsz:aa.toArray.size+ao.toArray.size<=lL:=by rw[lD,lD];lia
 have bX:¬(!aa.toArray.isEmpty && oO (aa.toArray.size+ao.toArray.size))=vm:=by
  rw[notLongL hsz,Bool.and_false];exact mN
 refine call_meets F.slot_list_extend ⟨_,e,rfl⟩ F.entry_list_extend (F.args_list_extend_2 _ _)
  (AutoSeq1.list_extend_list_list_0 l aa.toArray n b ao.toArray n2 bX (by rw[lD];lia) (by lia)) ⟨e,e2,?_⟩
 refine⟨.non,_,I.lset (its':=aa++ao) hH e (by simp) (r.append r2) ?_,rfl,q⟩
 rw[lF];lia
def rCat:R2:=λx y H Q=>∃l b xs zs,x=.ref l/\y=.ref b/\H l=vj (.lst xs)/\H b=vj (.lst zs)/\xs.length+zs.length<=lL/\∀p,H p=vk->Q (.ref p) (upd H p (.lst (xs++zs)))
theorem zpC_:OpR X (nR .Add) rCat:=by
 intro pins s σ H x y v u Q I rx ry h;obtain⟨l,b,xs,zs,rfl,rfl,hH,hB,hz,q⟩:=h;cases rx;cases ry;obtain⟨z,aa,n,r,hl,e⟩:=I.lstM hH;obtain⟨z2,ao,n2,r2,dq,e2⟩:=I.lstM hB;refine PySem.P.add_list e e2 ?_ (by rw[lD,lD];lia)
 have ea:aa.toArray++ao.toArray=(aa++ao).toArray:=by simp
 rw[ea];exact⟨.ref _,_,I.lnew (t':=s.toks) (r.append r2) (by rw[lF];lia),rfl,q _ I.fresh⟩
def rRep:R2:=λx y H Q=>∃l k xs,x=.ref l/\y=.int k/\H l=vj (.lst xs) /\ -(2 ^ 63)<=k/\k<2 ^ 63/\xs.length*k.toNat<=lL /\
 ∀p,H p=vk->Q (.ref p) (upd H p (.lst (lR k.toNat xs).flatten))
theorem ziS_ {α:Type}(xs:List α)(k:Nat):(lR k xs).flatten.length=k*xs.length:=by
 induction k with
 |zero=>simp
 |succ k ih=>rw[mZ,oH,lF,ih,Nat.succ_mul,Nat.add_comm]
theorem zp8_:OpR X (nR .Mult) rRep:=by
 intro pins s σ H x y v u Q I rx ry h;obtain⟨l,k,xs,rfl,rfl,hH,h1,h2,hz,q⟩:=h;cases rx;obtain⟨t,rfl⟩:=ry;obtain⟨z,aa,n,r,hl,e⟩:=I.lstM hH;have hlen:aa.toArray.size*k.toNat<=lL:=by rw[lD,<- hl];exact hz
 have gU:¬aa.toArray.size*k.toNat > (2 ^ 63-1) / 8:=by
  have:(lL:Nat)<=(2 ^ 63-1) / 8:=by decide
  lia
 have gO:¬(!Builtin.List.listFitsIndex k)=vm:=by
  rw[fitsIndex_both h1 h2];exact mN
 have bX:¬oO (aa.toArray.size*k.toNat)=vm:=by
  rw[notLongL hlen];exact mN
 have gH:qX (λx1 x2=>x1++x2) #[] (lR (if aa.toArray.isEmpty=vm then 0 else k.toNat) aa.toArray)=(lR k.toNat aa).flatten.toArray:=by
  have f0:∀m:Nat,qX (λx1 x2=>x1++x2) #[] (lR m aa.toArray)=(lR m aa).flatten.toArray:=λm=>by
   have:=zep_ aa m [];rw[nQ]at this;exact this
  rw[f0];cases aa with
  |nil=>simp
  |cons a r'=>rw[if_neg (by simp)]
 refine wpAny_binaryOp_repeat_ref (T:="list") (U:="int") (by decide) ⟨_,e,rfl⟩ (λs'=>typeIs_int s' k t) noFill_list_mul F.fills_int_mul tB repeat_list F.slot_int_index.lookup
  (call_meets tB (typeIs_int s k t) F.entry_int_rmul (F.args_int_rmul_2 _ _) (int___rmul___int_list k t l aa.toArray n)
   ⟨e,rfl,⟨_,e,rfl⟩,call_meets F.slot_list_mul ⟨_,e,rfl⟩ F.entry_list_mul (F.args_list_mul_2 _ _) (AutoListH.list___mul___list_int_3 l aa.toArray n k t gO gU bX) ⟨e,?_⟩⟩)
 rw[gH];exact⟨.ref _,_,I.lnew (t':=s.toks) (r.rep k.toNat) (by rw[ziS_,so];exact hz),rfl,q _ I.fresh⟩
end
end L2
namespace Att
open PySem PySem.W PySem.Calls PyProof.Rows
theorem zck_ {P:Params}{h:Heap}:∀(ns:List Int) (vs:List aV),WellAll P h vs (ns.map WData.int)->IntsAre vs ns:=by
 intro ns;induction ns with
 |nil=>
  intro vs w;rw[nL]at w;cases w;exact .nil
 |cons n ns ih=>
  intro vs w;rw[lB]at w;cases w with
  |cons a b=>
   cases a;exact .cons _ _ (ih _ b)
theorem zin_ {l:OpenLaw}{n:Nat}(hn:l.most=vj n){P:Params}{h:Heap}{args:List WData}{vals:List aV}
  (cG:l.row.toRowW.claim.pre args=vm) (gz:WellAll P h vals args):
  ∃a vs ns,vals=[mT a]/\args=[WData.list (ns.map WData.int)]/\h.get? a=vj {cls:=.type "list",data:=.seq vs.toArray}/\IntsAre vs ns/\ns.length<=n:=by
 have jD:WShape.hasAll [] args [.list .int]=vm:=(pre_splitW cG).1;have hc:l.pre.holds [] {args:=args}=vm:=(pre_splitW cG).2;obtain⟨d,r,rfl,h1,h2⟩:=hasAllW_cons jD;obtain rfl:=hasAllW_nil h2;obtain⟨xs,rfl,h3⟩:=hasW_list h1;obtain⟨ns,rfl⟩:=items_int h3;have hlen:ns.length<=n:=by
  unfold OpenLaw.pre at hc;have h4:(WTm.not (.lt (.lit (.int (n:Int))) (.len (.arg 0)))).holds [] {args:=[.list (ns.map .int)]}=vm:=by
   have h4:=(holds_andW hc).1;rw[hn]at h4;exact h4
  have h5:=condW_of h4 (w_not (w_lt w_lit (w_len_list (w_arg rfl))));rw[lq]at h5;refine pZ λq=>?_
  have q':(n:Int)<((ns.length:Nat):Int):=by lia
  first
   |(rw[decide_eq_true q']at h5;exact absurd h5 (by decide))
   |(simp at h5;lia)
 cases gz with
 |cons w1 w2=>
  cases w2;cases w1 with
  |list ho bB=>exact⟨_,_,ns,rfl,rfl,ho,zck_ ns _ bB,hlen⟩
theorem zh1_ (l:OpenLaw)(args:List WData):l.row.toRowW.claim.post args (.bool vm) args=vm:=
 postW_of (r:=l.row.toRowW) (X:=(vm == vm))
  (show WShape.has [] (.bool vm) .bool=vm by first |rfl |decide |simp[WShape.has,WShape.arms,WShape.armsAll])
  (show(WTm.eq .res (.lit (.bool vm))).value [] {args:=args,res:=vj (.bool vm),after:=args}=vj (.bool (vm == vm))from w_eq_bool (w_res rfl) w_lit) rfl
section
end
end Att
namespace L2
open PySem PySem.Spec PyProof.Rows
theorem zaK_:∀{vs:List aV}{ns:List Int},IntsAre vs ns->Vals (ns.map V.int) vs
 |_,_,.nil=>.nil
 |_,_,.cons n t h=>.cons ⟨t,rfl⟩ (zaK_ h)
def Only (H:Hp):Prop:=∀b,H b=vk\/(∃o xs,H b=vj (.frz o (.lst xs)))\/∃p q,H b=vj (.tbl p q)
theorem zjz_ {P:l5}{w:mx}{K:Fgg}{mg mb:Str->Option aV}{CX:CXT}{k:Nat}{fa a:lE}{fd:mW}{x:Str}{sp:Sp}{ab:lu}{vs:List aV}{ns:List Int}
  (KX:K.In ab.heap) (cR:ab.heap.Ns lU mg) (hb:ab.heap.Ns builtinsNs mb) (gW:∀x:Str,x ≠ "__name__" -> mb x=nU x) (gJ:ab.heap.NoLimit) (j3:∃bm ob,mg "__builtins__"=vj (.ref bm)/\bm≠builtinsNs/\ab.heap.get? bm=vj ob/\ob.cls=.type "module" /\ ob.dict=vj builtinsNs/\ob.data=.plain) (hg:ab.gens=#[])
  (ha:ab.heap.get? a=vj {cls:=.type "list",data:=.seq vs.toArray}) (hi:IntsAre vs ns) (hl:ns.length<=lL) (hr:Room k callerA)
  (F:∀base:Heap,K.In base->base.Ns lU mg->FnOk P w K mg base CX k fa fd [x] sp) (fb:∀(s:lu) (u:aV),BindsTo s fd ⟨[u],[]⟩ [(x,u)])
  (dQ:∀H:Hp,Only H->SqL K H a (ns.map V.int)->sp [.ref a] H (λv _=>v=.bl vm) λ_ _ _=>False)
  (gZ:∀H e s',CX [] H ab (λ_ _ _=>False) e s'->False)
  (hT:∀Pt pos q,lamK K=vj (Pt,pos,q)->K.lookup Pt=vk/\isCodeTable ab.heap Pt/\ab.heap.get? Pt=vj {cls:=.none,data:=.fields #[]}):
  codeAny (model P w) callerA (.call (.ref fa) ⟨[.ref a],[]⟩) (λr s'=>r=.ok (.ret (.bool vm))/\OldK ab.heap s'.heap/\s'.os=ab.os/\AllBare s'.gens) ab:=by
 have rv:=zaK_ hi;have gh:=hi.length
 have core:∀H:Hp,Only H->SqL K H a (ns.map V.int)->HOk P w H ab.heap->Tb K H->(∀b,H b≠vk->b=a\/∃p q,lamK K=vj (b,p,q))->(H a≠vk->K.lookup a=vk) ->
   codeAny (model P w) callerA (.call (.ref fa) ⟨[.ref a],[]⟩) (λr s'=>r=.ok (.ret (.bool vm))/\OldK ab.heap s'.heap/\s'.os=ab.os/\AllBare s'.gens) ab:=by
  intro H hO hS hok j6 hA hK;have aU:∀{b:lE}{o:tT},ab.heap.get? b=vj o->H b=vk->(hidT ab.heap H).get? b=vj o:=λe n=>zjY_ e n
  have cC:∀{b:lE}{o:tT}{es:Array DictEntry}{ep:Nat},ab.heap.get? b=vj o->o.data=.dict es ep->H b=vk:=λ{b o es ep} e d=>by
   cases q:H b with
   |none=>rfl
   |some u=>
    rcases hA b (by rw[q];simp)with e' |⟨p',q',e'⟩
    ·subst e'
     rw[ha]at e;cases e;have d':Data.seq vs.toArray _=Data.dict es ep:=d;cases d'
    ·have z:=(hT _ _ _ e').2.2
     rw[z]at e;cases e;cases d
  have fH:∀{b:lE}{m:Str->Option aV},ab.heap.Ns b m->(hidT ab.heap H).Ns b m:=λ{b m} ⟨o,es,ep,e,d,r⟩=>⟨o,es,ep,aU e (cC e d),d,r⟩
  have iU:K.In (hidT ab.heap H):=λb o e=>aU (KX b o e) (by
   cases q:H b with
   |none=>rfl
   |some u=>
    rcases hA b (by rw[q];simp)with e' |⟨p',q',e'⟩
    ·subst e'
     rw[hK (by rw[q];simp)]at e;cases e
    ·rw[(hT _ _ _ e').1]at e;cases e)
  have hM:Mod K mg (hidT ab.heap H):=⟨iU,fH cR,⟨mb,fH hb,gW⟩,let⟨mc,h1,h2⟩:=gJ;⟨mc,fH h1,h2⟩,by
   obtain⟨bm,ob,b1,b2,b3,b4,b5,b6⟩:=j3;refine⟨bm,ob,b1,b2,aU b3 ?_,b4,b5,b6⟩;cases q:H bm with
   |none=>rfl
   |some u=>
    rcases hA bm (by rw[q];simp)with e' |⟨p',q',e'⟩
    ·subst e'
     rw[ha]at b3;cases b3;have z:rQ "list"=rQ "module":=b4;injection z with z;exact absurd z (by decide)
    ·have z:=(hT _ _ _ e').2.2
     rw[z]at b3;cases b3;cases b4⟩
  have e0:Env0 P w K mg (hidT ab.heap H) callerA [] ab H:=⟨rfl,hM,λb o e=>zmb_ e,qU (ziw_ _ _),trivial,λb hb=>absurd (show b∈([]:List lE)from hb) (by simp),hok,.of_eq hg,j6⟩
  refine codeAny_mono ((F _ iU (fH cR)).run callerA [] ab H ⟨[.ref a],[]⟩ [.ref a] [.ref a] _ _ hr e0 (fb ab (.ref a)) (.cons rfl .nil) (dQ H hO hS)) λr s' h=>?_
  cases r with
  |error e=>exact(gZ H e s' h).elim
  |ok fl=>
   cases fl with
   |next=>exact mi h
   |brk=>exact mi h
   |cont=>exact mi h
   |ret u=>
    obtain⟨v,H',os,bare,un,hok',r',q⟩:=h;have q':v=.bl vm:=q;subst q';obtain rfl:u=pq vm:=r';have both:∀b o,ab.heap.get? b=vj o->asItWas ab.heap s'.heap b o/\∃o',s'.heap.get? b=vj o':=λb o e=>by
     cases q:H b with
     |none=>
      have z:=un.keep b o e q (by intro z;exact absurd (show b∈([]:List lE)from z) (by simp)) (by simp)
      exact⟨.inl z,_,z⟩
     |some u=>
      rcases hO b with z |⟨ob,xs,z⟩|⟨p',q',z⟩
      ·rw[q]at z;cases z
      ·have z2:=un.frzs b ob _ z
       obtain⟨e1,_⟩:=hok b _ z;obtain⟨e2,_⟩:=hok' b _ z2;rw[e]at e1;cases e1;exact⟨.inl e2,_,e2⟩
      ·obtain⟨ps,e2,_⟩:=hok' b _ (un.tbls b p' q' z)
       rcases hA b (by rw[q];simp)with e' |⟨p1,q1,e'⟩
       ·subst e'
        obtain⟨kP,e3,_⟩:=hok b _ z;rw[ha]at e3;cases e3
       ·obtain⟨_,ht,e3⟩:=hT _ _ _ e'
        rw[e]at e3;cases e3;exact⟨.inr (.inl ⟨ht,rfl,#[],ps,rfl,by rw[Array.empty_append];exact e2⟩),_,e2⟩
    exact⟨rfl,⟨λb o e=>(both b o e).1,λb o e=>(both b o e).2⟩,os,bare⟩
 obtain⟨T,t1,t2,t3⟩:∃T:Hp,Tb K T/\(∀b u,T b=vj u->∃p q,lamK K=vj (b,p,q)/\u=.tbl p q)/\T a=vk:=by
  cases hq:lamK K with
  |none=>exact⟨λ_=>vk,λ_ _ _ e=>(by rw[hq]at e;cases e),λ_ _ e=>(by cases e),rfl⟩
  |some z=>
   obtain⟨Pt,pos,q⟩:=z;have na:a≠Pt:=λz=>by
    have e:=(hT _ _ _ hq).2.2;rw[<- z,ha]at e;cases e
   refine⟨λb=>if b=Pt then vj (.tbl pos q)else vk,λ_ _ _ e=>(by rw[hq]at e;cases e;exact if_pos rfl),λb u e=>?_,if_neg na⟩
   by_cases hb:b=Pt
   ·have e':=(if_pos hb).symm.trans e
    cases e';exact⟨pos,q,by rw[hb],rfl⟩
   ·have e':=(if_neg hb).symm.trans e
    cases e'
 have eJ:∀(H:Hp) b p q,lamK K=vj (b,p,q)->ObjOk P w H ab.heap b (.tbl p q):=λH b p q e=>
  ⟨#[],(hT _ _ _ e).2.2,m7,λcv z=>by cases z⟩
 cases hk:K.lookup a with
 |some o=>
  have e:=KX a o hk;rw[ha]at e;cases e;refine core T (λb=>?_) (.inr ⟨_,vs.toArray,_,hk,rfl,rfl,rfl,by rw[lD,gh];exact hl,by simpa using rv⟩) (λb u z=>?_) t1 (λb z=>?_) λz=>absurd t3 z
  ·cases q:T b with
   |none=>exact .inl rfl
   |some u=>obtain⟨p',q',_,rfl⟩:=t2 b u q;exact .inr (.inr ⟨p',q',rfl⟩)
  ·obtain⟨p',q',e1,rfl⟩:=t2 b u z;exact eJ _ _ _ _ e1
  ·cases q:T b with
   |none=>exact absurd q z
   |some u=>obtain⟨p',q',e1,rfl⟩:=t2 b u q;exact .inr ⟨p',q',e1⟩
 |none=>
  refine core (upd T a (.frz {cls:=.type "list",data:=.seq vs.toArray} (.lst (ns.map V.int)))) (λb=>?_) (.inl (.inr ⟨{cls:=.type "list",data:=.seq vs.toArray},zh_⟩)) (λb u z=>?_) (λp' pos q e=>?_) (λb z=>?_) λ_=>hk
  ·by_cases hb:b=a
   ·rw[hb];exact .inr (.inl ⟨_,_,zh_⟩)
   ·rw[zd_ hb]
    cases q:T b with
    |none=>exact .inl rfl
    |some u=>obtain⟨p',q',_,rfl⟩:=t2 b u q;exact .inr (.inr ⟨p',q',rfl⟩)
  ·by_cases hb:b=a
   ·subst hb
    rw[zh_]at z;cases z;exact⟨ha,by rw[lq];exact hl,vs,_,rv,ha⟩
   ·rw[zd_ hb]at z
    obtain⟨p',q',e1,rfl⟩:=t2 b u z;exact eJ _ _ _ _ e1
  ·have z:=t1 p' pos q e
   rw[zd_ (λw=>by rw[w,t3]at z;cases z)];exact z
  ·by_cases hb:b=a
   ·exact .inl hb
   ·rw[zd_ hb]at z
    cases q:T b with
    |none=>exact absurd q z
    |some u=>obtain⟨p',q',e1,rfl⟩:=t2 b u q;exact .inr ⟨p',q',e1⟩
def lamOk (q:l5)(K:Fgg):Bool:=match lamK K with
 |none=>vm
 |some (P,_,_)=>(K.lookup P).isNone && ((recsOf q).find? λe=>e.name==(oG "put_in_order")).isSome
theorem zmz_ {p:l5}{K:Fgg}{h:Heap}{loose:List Str}{gg:ExcName->Option aV}{mg mb:Str->Option aV}(T:Top p loose gg mg mb h)(X:K.In h)(hq:lamOk p K=vm):
  ∀Pt pos q,lamK K=vj (Pt,pos,q)->K.lookup Pt=vk/\isCodeTable h Pt/\h.get? Pt=vj {cls:=.none,data:=.fields #[]}:=λPt pos q e=>by
 unfold lamOk at hq;rw[e]at hq;obtain⟨h1,h2⟩:=ml.mp hq;obtain⟨d,hd⟩:=qB.mp h2;obtain⟨c,ht⟩:∃c,tI K "put_in_order"=vj (c,Pt):=by
  unfold lamK at e;split at e
  ·split at e
   ·split at e
    ·rename_i z;cases e;exact⟨_,z⟩
    ·cases e
   ·cases e
  ·cases e
 obtain⟨a,b⟩:=W.tab_of T X hd ht;exact⟨ou.mp h1,(a.tab b).isCodeTable,b⟩
noncomputable def inClass (s:mC)(j:Nat):mC:=match s with
 |.ClassDef _ _ _ body _ _ _ _ _ _ _=>body.getD j (.Pass ⟨0,0,0,0⟩)
 |_=>.Pass ⟨0,0,0,0⟩
noncomputable def defArgs (s:mC):Arguments:=match s with
 |.FunctionDef _ a _ _ _ _ _ _ _ _=>a
 |_=>{posonlyargs:=[],args:=[],vararg:=vk,kwonlyargs:=[],kw_defaults:=[],kwarg:=vk,defaults:=[]}
noncomputable def defBody (s:mC):List mC:=match s with
 |.FunctionDef _ _ b _ _ _ _ _ _ _=>b
 |_=>[]
noncomputable def defScope (s:mC):Scope:=match s with
 |.FunctionDef _ _ _ _ _ _ sc _ _ _=>sc
 |_=>{kind:=.function,names:=[],isGenerator:=vn,isCoroutine:=vn}
abbrev CX0:CXT:=λ_ _ _ _ _ _=>False
abbrev E0:XK:=λ_ _ _=>False
structure Fun (K:Fgg)(x qual:Str)(st:mC)(f:lE)(fd:mW):Prop where
 ex:∃(oc:aV) (od:Option lE) (kV doc pm:aV) (an:Option lE) (ae ct:aV) (aq:Array (Option aV)),
  fd=W.fnOf x qual (defArgs st) (defBody st) (defScope st) .none kV doc pm an ae ct/\K.lookup f=vj ⟨oc,od,.func fd,aq⟩/\p7 K ae qual=vm
 kp:oQ K (.ref f)=vm
section
variable {K:Fgg}
theorem Fun.binds {x qual:Str}{st:mC}{f:lE}{fd:mW}{ps:List Str}(F:Fun K x qual st f fd)
  (h:∀(kV doc pm:aV) (an:Option lE) (ae ct:aV) (us:List aV),us.length=ps.length->bindArgs (W.fnOf x qual (defArgs st) (defBody st) (defScope st) .none kV doc pm an ae ct) ⟨us,[]⟩=pure (ps.zip us)):Binds K fd ps []:=by
 obtain⟨oc,od,kV,doc,pm,an,ae,ct,aq,rfl,lk,aC⟩:=F.ex;exact .all (h kV doc pm an ae ct)
theorem zl4_ {x qual:Str}{st:mC}{f:lE}{oc:aV}{od an:Option lE}{aq:Array (Option aV)}{kV doc pm ae ct:aV}(l:K.lookup f=vj ⟨oc,od,.func (W.fnOf x qual (defArgs st) (defBody st) (defScope st) .none kV doc pm an ae ct),aq⟩)
  (c:p7 K ae qual=vm) (k:oQ K (.ref f)=vm):Fun K x qual st f (W.fnOf x qual (defArgs st) (defBody st) (defScope st) .none kV doc pm an ae ct):=⟨⟨oc,od,kV,doc,pm,an,ae,ct,aq,rfl,l,c⟩,k⟩
end
def Same (H H':Hp):Prop:=∀b o,H b=vj o->H' b=vj o
theorem Same.refl (H:Hp):Same H H:=λ_ _ h=>h
theorem Same.trans {H H1 H2:Hp}(a:Same H H1)(b:Same H1 H2):Same H H2:=λc o h=>b c o (a c o h)
theorem Same.free {H H':Hp}(e:Same H H'){l:lE}(h:H' l=uS):H l=uS:=by
 cases q:H l with
 |none=>rfl
 |some o=>
  rw[e l o q]at h;cases h
theorem Same.seq {K:Fgg}{H H':Hp}{a:lE}{xs:List V}(e:Same H H')(h:SqL K H a xs):SqL K H' a xs:=by
 rcases h with(h |⟨o,h⟩)|h
 ·exact .inl (.inl (e _ _ h))
 ·exact .inl (.inr ⟨o,e _ _ h⟩)
 ·exact .inr h
noncomputable def Itp (n:Nat)(f:Nat->V):It:=⟨λi _=>i<n,λi H x H'=>H'=H/\x=f i,λi _=>n<=i⟩
noncomputable def ownTups:List String:=["enumerate", "zip", "dict_itemiterator", "dict_reverseitemiterator", "odict_iterator", "itertools.zip_longest", "itertools.pairwise"]
theorem zif_ {P:l5}{w:mx}{K:Fgg}{tg:lP}{it:lE}{n:Nat}{f:Nat->V}{Pw:Nat->aV->Prop}{St:Nat->Heap->Prop}
  (W:∀A:my,A.handled=vk->Walks P w A it [it] [it] n Pw St) (hv:∀i v,i<n->Pw i v->RelV (f i) v)
  (ho:∀i h,St i h->∃o nm vs,h.get? it=vj o/\o.cls=.type nm/\o.data=.fields vs/\ownTups.contains nm=vn)
  (eF:∀(A:my) (i:Nat) (s:lu) (Q:aV->lu->Prop) (E:aV->lu->Prop),St i s.heap->Q (.ref it) s->lX (model P w) A (pyIter (.ref it)) Q E s)
  (eO:∀i h h',St i h->(∀b∈[it],∀o,h.get? b=vj o->h'.get? b=vj o)->St i h'):
  Turn P w K tg (Itp n f) [it] it (λi h=>i<=n/\St i h) where
 mem:=by simp
 obj:=λi h st b hb=>by
  have e:b=it:=by simpa using hb
  subst e;obtain⟨o,nm,vs,e,c,d,_⟩:=ho i h st.2;exact⟨o,e,λv z=>by rw[d]at z;cases z⟩
 keep:=λi h h' st k=>⟨st.1,eO i h h' st.2 k⟩
 item:=by
  intro X hP hw hK hc i pins s σ H E I hf st hg;subst hP hw hK;obtain⟨f0,f1,f2,f3,f4,f5⟩:=hf it (by simp)
  have hi:i<n:=hg;refine(W X.A (I.ok.hd hc)).item i s _ _ hi st.2 λv h' tk gC st' kk=>?_
  have I1:Inv X pins σ H {s with heap:=h',toks:=tk}:=I.turned (λb o hb e=>kk b o (by simpa using hb) e) f0 f1 f3 f4 f5
  obtain⟨o,nm,vs,e,c,d,hn⟩:=ho _ _ st';exact⟨_,rfl,zoG_ (s:={s with heap:=h',toks:=tk}) (n:=nm) e c d hn ⟨f i,H,I1,hv i v hi gC,⟨rfl,rfl⟩,⟨hi,st'⟩,λb hb=>(hf b hb).1⟩⟩
 done:=by
  intro X hP hw hK hc i pins s σ H E I hf st hg;subst hP hw hK;obtain⟨f0,f1,f2,f3,f4,f5⟩:=hf it (by simp)
  have hi:n<=i:=hg;have e:i=n:=tD st.1 hi;subst e;exact(W X.A (I.ok.hd hc)).done s _ _ st.2 λh' tk kk=>⟨rfl,I.turned (λb o hb e=>kk b o (by simpa using hb) e) f0 f1 f3 f4 f5⟩
 self:=λA i s Q E st h=>eF A i s Q E st.2 h
noncomputable def sgn (x:Str)(i:Nat):V:=.str ⟨#[x.cps.getD i 0]⟩
theorem zhE_ {P:l5}{w:mx}{it:lE}{x:Str}{t:Tok}(A:my)(hA:A.handled=vk):Walks P w A it [it] [it] x.cps.size (SignAt x) (λi h=>h.IsStrIter it (mw x) x t i):=by
 cases ha:x.cps.all (·<128)
 ·have e:mw x="str_iterator":=by simp[mw,ha]
  rw[e];exact Walks.strWide hA it x t
 ·have e:mw x="str_ascii_iterator":=by simp[mw,ha]
  rw[e];exact Walks.strAscii hA it x t
theorem zb8_ {x:Str}{i:Nat}{v:aV}(h:SignAt x i v):RelV (sgn x i) v:=by
 obtain⟨c,u,e,rfl⟩:=h;refine⟨u,?_⟩;have:x.cps.getD i 0=c:=by simp[m6,e]
 rw[this]
theorem zcF_ (x:Str):ownTups.contains (mw x)=vn:=by
 unfold mw;split<;>decide
theorem zj3_ {P:l5}{w:mx}{K:Fgg}{tg:lP}(it:lE)(x:Str)(t:Tok):Turn P w K tg (Itp x.cps.size (sgn x)) [it] it (λi h=>i<=x.cps.size/\h.IsStrIter it (mw x) x t i):=by
 refine zif_ (Pw:=SignAt x) (λA hA=>zhE_ A hA) (λi v _ h=>zb8_ h) (λi h st=>?_) (λA i s Q E st h=>?_) (λi h h' st k=>?_)
 ·obtain⟨o,e,c,d⟩:=st
  exact⟨o,_,_,e,c,d,zcF_ x⟩
 ·cases ha:x.cps.all (·<128)
  ·have e:mw x="str_iterator":=by simp[mw,ha]
   rw[e]at st;exact wpAny_pyIter_striter_wide st h
  ·have e:mw x="str_ascii_iterator":=by simp[mw,ha]
   rw[e]at st;exact wpAny_pyIter_striter_ascii st h
 ·obtain⟨o,e,r⟩:=st
  exact⟨o,k it (by simp) o e,r⟩
section
end
theorem Inv.turnedL {X:Cx}{pins:Pnn}{σ:St}{H:Hp}{s:lu}{h':Heap}{t':Nat}{ch:List lE}(I:Inv X pins σ H s)(k:∀b o,b∉ch->s.heap.get? b=vj o->h'.get? b=vj o)
  (hf:∀b∈ch,FpOk X pins H b):Inv X pins σ H {s with heap:=h',toks:=t'}:=by
 have d7:∀b u,H b=vj u->b∉ch:=λb u e z=>by rw[(hf b z).1]at e;cases e
 refine I.step (g':=s.gens) (d':=s.drawn) (ch:=ch) (λb hb=>?_) (λb o _ _ hc e _=>k b o hc e) (λb o _ _ hc e _=>⟨o.slots,k b o hc e⟩) (λ_ _ _ _ n=>n)
  (λb o hc e=>⟨o,k b o hc e⟩) (λ_ _ e=>e) (λ_ _ _ e=>e) (λ_ _ _ e=>e) (λm hm=>?_) (λb u e=>?_) I.bare
 ·obtain⟨f0,f1,f2,f3,f4,f5⟩:=hf b hb
  exact⟨f3,f1,f4,f5⟩
 ·obtain⟨o,es,ep,ho,r⟩:=hm
  exact⟨o,es,ep,k _ o (λz=>(hf _ z).2.1 rfl) ho,r⟩
 ·refine(I.hok b u e).stay (λc v hc q=>k c v ?_ q) (λ_ q=>q) λ_ _ q=>q
  rcases hc with z |z
  ·rw[z];exact d7 b u e
  ·exact d7 c _ z
theorem zel_ {X:Cx}{pins:Pnn}{σ:St}{H:Hp}{s:lu}{h1:Heap}{tk:Nat}{fD:Tok}{e it:lE}{i:Nat}{x:aV}{y:V}{St:Heap->Prop}{elts:List lP}{kk:Nat}{pos:Pos}{E:aV->lu->Prop}
  (I:Inv X pins σ H s) (hf:∀b∈[e,it],FpOk X pins H b) (he:e<s.heap.objs.size) (hit:it<s.heap.objs.size) (cJ:e≠it) (bH:IsEnumOut h1 e it ((i:Int)+1) x s.heap.objs.size) (ry:RelV y x)
  (ht:h1.get? s.heap.objs.size=vj {cls:=.type "tuple",data:=.seq #[.int i fD,x]}) (hz:h1.objs.size=s.heap.objs.size+1) (hk:∀b o,b≠e->b≠it->s.heap.get? b=vj o->h1.get? b=vj o)
  (j7:∀h2,pB e h1 h2->St h2):
  lX (model X.prog X.w) X.A (letOwnedTupleGo (.Tuple elts kk pos) (.ref e) (.ref s.heap.objs.size)) (λ_ s2=>∃z H',Inv X pins σ H' s2/\RelV z (.ref s.heap.objs.size) /\
   (∃p,H p=vk/\z=.ref p/\H'=upd H p (.tup [.int i,y]))/\(IsEnum s2.heap e it ((i+1:Nat):Int) x/\St s2.heap)/\∀b∈[e,it],H' b=vk) E {s with heap:=h1,toks:=tk}:=by
 refine wpAny_letOwnedTupleGo_enum bH λh2 eW aR=>?_
 replace aR:pB e h1 h2:=aR;have hp:H s.heap.objs.size=vk:=I.hok.fresh (lC _);have bW:s.heap.objs.size≠e:=oT he;have jN:s.heap.objs.size≠it:=oT hit;have I1:Inv X pins σ (upd H s.heap.objs.size (.tup [.int i,y])) {s with heap:=s.heap.push {cls:=.type "tuple",data:=.seq #[.int i fD,x]},toks:=tk}:=by
  refine I.laid (λb u q=>lp _ q) (lC _) ⟨?_,[.int i fD,x],.cons ⟨_,rfl⟩ (.cons ry .nil),⟨_,lN _ rfl,rfl,_,rfl⟩⟩
  show 2<=lL
  decide
 have eV:∀b∈[e,it],FpOk X pins (upd H s.heap.objs.size (.tup [.int i,y])) b:=λb hb=>by
  obtain⟨f0,r⟩:=hf b hb;refine⟨?_,r⟩;rw[zd_ (by rcases lQ.mp hb with rfl |hb;exact bW.symm;rcases lQ.mp hb with rfl |hb;exact jN.symm;cases hb)]
  exact f0
 have I2:Inv X pins σ (upd H s.heap.objs.size (.tup [.int i,y])) {s with heap:=h2,toks:=tk}:=by
  refine Inv.turnedL (s:={s with heap:=s.heap.push {cls:=.type "tuple",data:=.seq #[.int i fD,x]},toks:=tk}) (ch:=[e,it]) I1 (λb o hb q=>?_) eV
  have iD:b≠e:=λz=>hb (by simp[z])
  have jf:b≠it:=λz=>hb (by simp[z])
  refine(aR.2 b iD).trans ?_;rcases rE q with⟨rfl,rfl⟩|q'
  ·exact ht
  ·exact hk b o iD jf q'
 refine⟨.ref s.heap.objs.size,_,I2,rfl,⟨s.heap.objs.size,hp,rfl,rfl⟩,⟨?_,j7 h2 aR⟩,λb hb=>(eV b hb).1⟩
 have:((i+1:Nat):Int)=(i:Int)+1:=by push_cast;rfl
 rw[this];exact eW
def Ite (K:Fgg)(l:lE):It:=
 ⟨λi H=>∃xs x,SqL K H l xs/\xs[i]?=vj x,λi H y H'=>∃p x,(∀xs,SqL K H l xs->xs[i]?=vj x)/\H p=vk/\y=.ref p/\H'=upd H p (.tup [.int i,x]),λi H=>∃xs,SqL K H l xs/\xs.length<=i⟩
theorem zgV_ {P:l5}{w:mx}{K:Fgg}{elts:List lP}{kk:Nat}{pos:Pos}(e it l:lE)(cJ:e≠it):
  Turn P w K (.Tuple elts kk pos) (Ite K l) [e,it] e (λi h=>(∃old,IsEnum h e it (i:Nat) old)/\h.IsListIter it l i) where
 mem:=by simp
 obj:=λi h st b hb=>by
  obtain⟨⟨old,he⟩,o,ho,c,d⟩:=st;rcases lQ.mp hb with rfl |hb
  ·exact⟨_,he,λv z=>by cases z⟩
  ·have e:b=it:=by simpa using hb
   subst e;exact⟨o,ho,λv z=>by rw[d]at z;cases z⟩
 keep:=λi h h' st k=>by
  obtain⟨⟨old,he⟩,hit⟩:=st;exact⟨⟨old,k e (by simp) _ he⟩,hit.at λo q=>k it (by simp) o q⟩
 item:=by
  intro X hP hw hK hc i pins s σ H E I hf st hg;subst hP hw hK;obtain⟨xs,x,hq,hx⟩:=hg;obtain⟨aa,rv,p,hz⟩:=I.list hq;obtain⟨u,hu,ru⟩:=rv.get hx;obtain⟨⟨old,he⟩,hit⟩:=st;refine wpAny_pyNext_enum_item he hit p.isList (x:=u) (by simpa using hu) cJ λh1 bH du gD gy eQ=>?_
  refine⟨_,rfl,?_⟩;have gR:e<s.heap.objs.size:=lH he;have hil:it<s.heap.objs.size:=by obtain⟨o,ho,_⟩:=id hit;exact lH ho
  refine thn (zel_ (St:=λh2=>h2.IsListIter it l (i+1)) I hf gR hil cJ bH ru gD gy eQ λh2 hs=>du.extBut hs.extBut cJ.symm) λ_ s2 q=>?_
  obtain⟨z,H',I2,rz,⟨p,hp,rfl,rfl⟩,⟨eW,hit2⟩,fr⟩:=q;exact⟨.ref p,_,I2,rz,⟨p,x,λys hy=>by rw[I.list_inj hy hq];exact hx,hp,rfl,rfl⟩,⟨⟨u,eW⟩,hit2⟩,fr⟩
 done:=by
  intro X hP hw hK hc i pins s σ H E I hf st hg;subst hP hw hK;obtain⟨xs,hq,hx⟩:=hg;obtain⟨aa,rv,p,hz⟩:=I.list hq;obtain⟨⟨old,he⟩,hit⟩:=st;have hl:=rv.length;obtain⟨f0,f1,f2,f3,f4,f5⟩:=hf it (by simp)
  exact wpAny_pyNext_enum_end (I.ok.hd hc) he hit p.isList (by simp;lia) λh' eb=>⟨rfl,I.turned (t':=s.toks) (λb o hb e=>eb b o hb e) f0 f1 f3 f4 f5⟩
 self:=λ_ _ _ _ _ st h=>by
  obtain⟨⟨old,he⟩,_⟩:=st;exact wpAny_pyIter_enum he h
theorem zbF_ {P:l5}{w:mx}{it:lE}{x:Str}{t:Tok}(A:my)(hA:A.handled=vk):Draws P w A it [it] x.cps.size (λi v=>∃c u,x.cps[i]?=vj c/\v=.str ⟨#[c]⟩ u) (λi h=>h.IsStrIter it (mw x) x t i):=by
 cases ha:x.cps.all (·<128)
 ·have e:mw x="str_iterator":=by simp[mw,ha]
  rw[e];exact Draws.strWide hA it x t
 ·have e:mw x="str_ascii_iterator":=by simp[mw,ha]
  rw[e];exact Draws.strAscii hA it x t
def Ites (n:Nat)(f:Nat->V):It:=
 ⟨λi _=>i<n,λi H y H'=>∃p,H p=vk/\y=.ref p/\H'=upd H p (.tup [.int i,f i]),λi _=>n<=i⟩
theorem zfG_ {P:l5}{w:mx}{K:Fgg}{elts:List lP}{kk:Nat}{pos:Pos}(e it:lE)(x:Str)(t:Tok)(cJ:e≠it):
  Turn P w K (.Tuple elts kk pos) (Ites x.cps.size (sgn x)) [e,it] e (λi h=>(∃old,IsEnum h e it (i:Nat) old)/\i<=x.cps.size/\h.IsStrIter it (mw x) x t i) where
 mem:=by simp
 obj:=λi h st b hb=>by
  obtain⟨⟨old,he⟩,_,o,ho,c,d⟩:=st;rcases lQ.mp hb with rfl |hb
  ·exact⟨_,he,λv z=>by cases z⟩
  ·have e:b=it:=by simpa using hb
   subst e;exact⟨o,ho,λv z=>by rw[d]at z;cases z⟩
 keep:=λi h h' st k=>by
  obtain⟨⟨old,he⟩,hn,o,ho,r⟩:=st;exact⟨⟨old,k e (by simp) _ he⟩,hn,o,k it (by simp) o ho,r⟩
 item:=by
  intro X hP hw hK hc i pins s σ H E I hf st hg;subst hP hw hK;obtain⟨⟨old,he⟩,hn,hit⟩:=st;have hi:i<x.cps.size:=hg;refine wpAny_pyNext_enum_itemD (zbF_ X.A.in1 (I.ok.hd hc)) he hit hi cJ (by simpa using cJ) λu h1 tk hP bH du gD gy eQ=>?_
  refine⟨_,rfl,?_⟩;have gR:e<s.heap.objs.size:=lH he;have hil:it<s.heap.objs.size:=by obtain⟨o,ho,_⟩:=id hit;exact lH ho
  have ru:RelV (sgn x i) u:=zb8_ hP;refine thn (zel_ (St:=λh2=>h2.IsStrIter it (mw x) x t (i+1)) I hf gR hil cJ bH ru gD gy eQ λh2 hs=>?_) λ_ s2 q=>?_
  ·obtain⟨o,ho,r⟩:=du
   exact⟨o,(hs.2 it cJ.symm).trans ho,r⟩
  ·obtain⟨z,H',I2,rz,⟨p,hp,rfl,rfl⟩,⟨eW,hit2⟩,fr⟩:=q
   exact⟨.ref p,_,I2,rz,⟨p,hp,rfl,rfl⟩,⟨⟨u,eW⟩,hi,hit2⟩,fr⟩
 done:=by
  intro X hP hw hK hc i pins s σ H E I hf st hg;subst hP hw hK;obtain⟨⟨old,he⟩,hn,hit⟩:=st;have hi:x.cps.size<=i:=hg;have ei:i=x.cps.size:=tD hn hi;subst ei;obtain⟨f0,f1,f2,f3,f4,f5⟩:=hf it (by simp)
  exact wpAny_pyNext_enum_endD (zbF_ X.A.in1 (I.ok.hd hc)) he hit λh' eb=>⟨rfl,I.turned (t':=s.toks) (λb o hb e=>eb b o hb e) f0 f1 f3 f4 f5⟩
 self:=λ_ _ _ _ _ st h=>by
  obtain⟨⟨old,he⟩,_⟩:=st;exact wpAny_pyIter_enum he h
section
variable {prog:l5}{w:mx}{A:my}{R:Result->lu->Prop}{s:lu}
theorem zfa_ {elt target iter:lP}{ifs:List lP}{scope:Scope}{pos:Pos}{it acc:aV}{env:Env}(I:Nat->lu->Prop)
  (turn:∀n s,I n s->lX (model prog w) A (pyNext it) (λr ab=>match r with
   |none=>R (.ok .next) ab
   | some v=>lX (model prog w) A (letOwnedTupleGo target it v) (λ_ aP=>lX (model prog w) A (assign target env v) (λ_ ax=>
     lX (model prog w) A (forIn ifs vm λc r=>if r=vm then do let ok <- isTrue c env (eval c env);pure (ForInStep.yield ok)else pure (ForInStep.yield r)) (λok bM=>
      if ok=vm then lX (model prog w) A (eval elt env) (λx dX=>
       lX (model prog w) A (call (.builtin "list.append") [acc,x]) (λ_ dW=>∃m,m<n/\I m dW) (λ_ _=>False) dX) (λ_ _=>False) bM
      else∃m,m<n/\I m bM) (λ_ _=>False) ax) (λ_ _=>False) aP) (λ_ _=>False) ab) (λ_ _=>False) s)
  (n:Nat) (h:I n s):
  codeAny (model prog w) A (.compLoop (.ListComp elt [⟨target,iter,ifs,0⟩] scope pos) 0 it acc env) R s:=by
 refine codeAny_loop rfl I (λn s hI=>?_) n h
 show lX _ A ((compTurn (.ListComp elt [⟨target,iter,ifs,0⟩] scope pos) 0 it acc env).onRaise (λx=>do noteFrame x env;theTreesLotGoes x)) _ _ s
 refine wpAny_noted ?_;rw[compTurn_list];refine ll (wpAny_standAt (ll (m4 (turn n s hI) (λr ab az=>?_) λ_ _ h'=>h'.elim)))
 cases r with
 |none=>exact lM az
 |some v=>
  refine ll (m4 az (λ_ aP bU=>?_) λ_ _ h'=>h'.elim)
  refine ll (m4 bU (λ_ ax bT=>ll (m4 bT (λok bM eC=>?_) λ_ _ h'=>h'.elim)) λ_ _ h'=>h'.elim)
  cases ok with
  |false=>exact lM ⟨rfl,eC⟩
  |true=>
   exact ll (ll (m4 eC (λx dX gu=>ll (m4 gu (λ_ dW gr=>lM (lM ⟨rfl,gr⟩)) λ_ _ h'=>h'.elim)) λ_ _ h'=>h'.elim))
end
noncomputable def closeL (cells:List (Str×lE)):List (Str×oh)->List (Str×lE)->Option (List (Str×lE))
 |[],acc=>vj acc
 |(n,k)::r,acc=>if(k == .free)=vm then(match cells.lookup n with |some c=>closeL cells r ((n,c)::acc)|none=>vk)else closeL cells r acc
theorem zb4_ {env:Env}{f:Str×oh->List (Str×lE)->Sem (ForInStep (List (Str×lE)))}
  (hf:∀n k cs,f (n,k) cs=if(k == NameKind.free)=vm then(do let c <- cellOf env n;pure (ForInStep.yield ((n,c)::cs)))else pure (ForInStep.yield cs)):
  ∀(names:List (Str×oh)) (acc cl:List (Str×lE)),closeL env.cells names acc=vj cl->(forIn names acc f:Sem (List (Str×lE)))=pure cl
 |[],acc,cl,h=>by cases h;rfl
 |(n,k)::r,acc,cl,h=>by
  rw[rj,hf];unfold closeL at h;by_cases hk:(k == NameKind.free)=vm
  ·rw[if_pos hk]at h
   rw[if_pos hk];cases hc:env.cells.lookup n with
   |none=>rw[hc]at h;cases h
   |some c=>
    rw[hc]at h;have e:cellOf env n=pure c:=by unfold cellOf;rw[hc]
    rw[e];simp only[pure_bind];exact zb4_ hf r _ cl h
  ·rw[if_neg hk]at h
   rw[if_neg hk];simp only[pure_bind];exact zb4_ hf r _ cl h
theorem zbG_ {env:Env}{scope:Scope}{cl:List (Str×lE)}(h:closeL env.cells scope.names []=vj cl):closureFor scope env=pure cl:=by
 unfold closureFor;dsimp only;rw[zb4_ (env:=env) (λn k cs=>rfl) scope.names [] cl h]
 rfl
theorem zai_ {cells:List (Str×lE)}:∀(names:List (Str×oh)) (acc cl:List (Str×lE)),closeL cells names acc=vj cl->(∀x c,acc.lookup x=vj c->cells.lookup x=vj c) ->
  (∀x c,cl.lookup x=vj c->cells.lookup x=vj c)
 |[],acc,cl,h,ha=>by cases h;exact ha
 |(n,k)::r,acc,cl,h,ha=>by
  unfold closeL at h;by_cases hk:(k == NameKind.free)=vm
  ·rw[if_pos hk]at h
   cases hc:cells.lookup n with
   |none=>rw[hc]at h;cases h
   |some c=>
    rw[hc]at h;refine zai_ r _ cl h λx c' e=>?_
    rw[p4]at e;cases hx:x == n with
    |true=>rw[hx]at e;cases e;rw[eq_of_beq hx];exact hc
    |false=>rw[hx]at e;exact ha x c' e
  ·rw[if_neg hk]at h
   exact zai_ r _ cl h ha
theorem z4_ {cells:List (Str×lE)}:∀(names:List (Str×oh)) (acc cl:List (Str×lE)),closeL cells names acc=vj cl->∀x,((x,NameKind.free)∈names\/∃c,acc.lookup x=vj c)->∃c,cl.lookup x=vj c
 |[],acc,cl,h,x,hx=>by
  cases h;rcases hx with hx |hx
  ·cases hx
  ·exact hx
 |(n,k)::r,acc,cl,h,x,hx=>by
  unfold closeL at h;by_cases hk:(k == NameKind.free)=vm
  ·rw[if_pos hk]at h
   cases hc:cells.lookup n with
   |none=>rw[hc]at h;cases h
   |some c=>
    rw[hc]at h;refine z4_ r _ cl h x ?_;rcases hx with hx |⟨c',e⟩
    ·rcases lQ.mp hx with e |hx
     ·cases e;exact .inr ⟨c,by rw[p4,beq_self_eq_true]⟩
     ·exact .inl hx
    ·refine .inr ?_
     rw[p4];cases hxn:x == n with
     |true=>exact⟨c,rfl⟩
     |false=>exact⟨c',e⟩
  ·rw[if_neg hk]at h
   refine z4_ r _ cl h x ?_;rcases hx with hx |hx
   ·rcases lQ.mp hx with e |hx
    ·cases e;exact absurd rfl hk
    ·exact .inl hx
   ·exact .inr hx
theorem zaM_ {scope:Scope}{env:Env}{x:Str}{k:oh}(h:(relabel scope env).names.lookup x=vj k)(hk:k=.cell\/k=.free)(bw:∀y∈scope.names,y.2≠.cell):(x,NameKind.free)∈scope.names:=by
 have m:=mF h;obtain⟨⟨n,k0⟩,hm,e⟩:=nW.mp m;dsimp only at e;split at e
 ·rename_i hc
  cases e;have:k0=.free:=by
   simp only[lj,beq_iff_eq]at hc;exact hc.1.1
  subst this;exact hm
 ·cases e
  rcases hk with rfl |rfl
  ·exact absurd rfl (bw _ hm)
  ·exact hm
def cxComp (X:Cx)(scope:Scope)(cl:List (Str×lE))(C:lE)(N:List Str)(fp:List lE)(s2:lu)(H2:Hp):Cx where
 prog:=X.prog
 w:=X.w
 K:=X.K
 mg:=X.mg
 base:=X.base
 A:=X.A
 N:=N
 s₀:=s2
 H₀:=H2
 env:=compEnvC scope cl C X.env
 outer:=X.stack
 stack:=X.stack
 ex:=fp
 fn:=λ_=>vn
 calm:=X.calm
 pn:=[]
 xe:=λ_ _=>False
structure CScope (X:Cx)(scope:Scope)(cl:List (Str×lE))(lv:List Str)(fr:List (Str×Nat)):Prop where
 clos:closeL X.env.cells scope.names []=vj cl
 cell:∀y∈scope.names,y.2≠.cell
 kind:scope.kind=.function
 names:∀z∈scope.names,z.2=.local->scope.names.lookup z.1=vj .local
 fr:∀q∈fr,X.N[q.2]?=vj q.1/\(q.1,NameKind.free)∈scope.names/\(X.env.kindOf q.1=vj .cell\/X.env.kindOf q.1=vj .free) /\
  ((relabel scope X.env).names.lookup q.1=vj .cell\/(relabel scope X.env).names.lookup q.1=vj .free)
noncomputable def cN (lv:List Str)(fr:List (Str×Nat)):List Str:=lv++fr.map (·.1)
def cS (lv:List Str)(fr:List (Str×Nat))(σ:St):St:=lv.map (λ_=>vk)++fr.map λq=>(σ[q.2]?).join
theorem zkZ_ {X:Cx}{pins:Pnn}{σ:St}{H2:Hp}{s2:lu}{scope:Scope}{cl:List (Str×lE)}{lv:List Str}{fr:List (Str×Nat)}{fp:List lE}{h4:Heap}{tk:Nat}{m:Str->Option aV}{n:Nat}
  (I:Inv X pins σ H2 s2) (S:CScope X scope cl lv fr) (hf:∀b∈fp,FpOk X pins H2 b) (aB:∀b∈fp,b<s2.heap.objs.size) (hC:h4.Ns (s2.heap.objs.size+1) m) (hD:h4.get? s2.heap.objs.size=vj {cls:=.type "list",data:=.seq #[] n})
  (hk:∀b o,s2.heap.get? b=vj o->h4.get? b=vj o):
  Inv (cxComp X scope cl (s2.heap.objs.size+1) (cN lv fr) fp s2 H2) [] (cS lv fr σ) (upd H2 s2.heap.objs.size (.lst [])) {s2 with heap:=h4,toks:=tk}:=by
 have aT:=zai_ scope.names [] cl S.clos (λx c e=>by cases e)
 have aS:=z4_ scope.names [] cl S.clos;have fV:H2 s2.heap.objs.size=vk:=I.hok.fresh (lC _);have fX:H2 (s2.heap.objs.size+1)=vk:=I.hok.fresh (oF _);have ka:s2.heap.objs.size+1≠s2.heap.objs.size:=oT (pY _);have kf:∀b∈fp,(b∈X.ex\/X.s₀.heap.objs.size<=b):=λb hb=>(hf b hb).2.2.2.1
 have dG:∀x c,cl.lookup x=vj c->c<s2.heap.objs.size:=λx c e=>by
  obtain⟨v,o,ho,_⟩:=I.cell x c (aT x c e);exact lH ho
 refine⟨⟨I.ok.mod,S.kind,I.ok.glob,I.ok.blt,oF _,λx y c h1 h2=>I.ok.inj x y c (aT x c h1) (aT y c h2),λx hx=>?_,λx c dw=>(by cases dw),I.ok.hd,I.ok.frames,.inl rfl,λb hb=>?_,I.bs,m5 I.ok.bsz I.sz,λb o e hb=>?_,λb hb z=>?_,I.stack,I.stkFree,I.tb⟩,
  rfl,I.bare,?_,⟨m,hC,λi x v h1 h2 h3=>?_⟩,λx c e=>?_,?_,λx c e=>?_,λp hp=>absurd (show p∈([]:Pnn)from hp) (by simp),?_,?_⟩
 ·-- has
  have jr:(relabel scope X.env).names.lookup x=vj .cell\/(relabel scope X.env).names.lookup x=vj .free:=hx;have hm:(x,NameKind.free)∈scope.names:=jr.elim (λz=>zaM_ z (.inl rfl) S.cell) λz=>zaM_ z (.inr rfl) S.cell
  exact aS x (.inl hm)
 ·-- exf
  obtain⟨f0,f1,f2,f3,f4,f5⟩:=hf b hb;refine⟨λz=>?_,λx c e=>f4 x c (aT x c e)⟩
  have z':b=s2.heap.objs.size+1:=z;have:=aB b hb;rw[z']at this;exact absurd this (Nat.not_lt.mpr (oF _))
 ·rcases kf b hb with z |z
  ·exact I.ok.noex b o e z
  ·exact absurd (lY (lY (lH e) I.ok.bsz) z) (oY _)
 ·obtain⟨f0,f1,f2,_⟩:=hf b hb
  rcases lQ.mp (I.stkSub b z)with q |q
  ·exact f1 q
  ·exact f2 q
 ·exact Un.laid hk (lC _) fV
 ·-- loc
  have h1':(lv++fr.map (·.1))[i]?=vj x:=h1;have aK:(lv.map (λ_=>vk)++fr.map λq=>(σ[q.2]?).join:St)[i]?=vj (vj v):=h2
  by_cases hi:i<lv.length
  ·rw[mU (by simpa using hi),lK]at aK
   cases hq:lv[i]? with
   |none=>rw[hq]at aK;cases aK
   |some z=>rw[hq]at aK;cases aK
  ·rw [mH (by simpa using hi),lK]at aK
   rw[mH (by lia),lK]at h1'
   simp only[lq]at aK;cases hq:fr[i-lv.length]? with
   |none=>rw[hq]at h1';cases h1'
   |some q=>
    rw[hq]at h1' aK;have e1:q.1=x:=l9 h1';have e2:(σ[q.2]?).join=vj v:=l9 aK;have e3:σ[q.2]?=vj (vj v):=by
     cases hz:σ[q.2]? with
     |none=>rw[hz]at e2;cases e2
     |some z=>rw[hz]at e2;exact congrArg vj e2
    obtain⟨g1,g2,g3,g4⟩:=S.fr q (m8 hq);obtain⟨m0,hn0,dt⟩:=I.loc;have f6:Vis X.env.scope q.1:=by
     rcases g3 with g3 |g3
     ·exact .inr (.inl g3)
     ·exact .inr (.inr g3)
    obtain⟨u,r,l⟩:=dt q.2 q.1 v g1 e3 f6;refine⟨u,r,.inr ⟨?_,?_⟩⟩
    ·rw[<- e1];exact g4
    ·rcases l with⟨lk,_⟩|⟨_,c,ec,ic⟩
     ·rcases g3 with g3 |g3<;>(rw[lk]at g3;cases g3)
     ·obtain⟨c',ec'⟩:=aS q.1 (.inl g2)
      have:c'=c:=by
       have:=aT q.1 c' ec';rw[ec]at this;exact(l9 this).symm
      subst this;obtain⟨o,ho,hd⟩:=ic;exact⟨c',by rw[<- e1];exact ec',o,hk _ _ ho,hd⟩
 ·obtain⟨v,o,ho,hd⟩:=I.cell x c (aT x c e)
  exact⟨v,o,hk _ _ ho,hd⟩
 ·show upd H2 _ _ (s2.heap.objs.size+1)=vk
  rw[zd_ ka];exact fX
 ·have:=dG x c e
  rw[zd_ (l0 this)];exact I.freeC x c (aT x c e)
 ·exact I.hok.laid hk (lC _) ⟨mq _,[],n,.nil,hD⟩
 ·show(cS lv fr σ).length=(cN lv fr).length
  simp[cS,cN]
def PIf (X:Cx)(ifs:List lP)(t:TT):Prop:=
 ∀(pins:Pnn) (s:lu) (σ:St) (H:Hp) (Q:Bool->Hp->Prop),Inv X pins σ H s->t σ H Q ->
  lX (model X.prog X.w) X.A (forIn ifs vm λc r=>if r=vm then do let ok <- isTrue c X.env (eval c X.env);pure (ForInStep.yield ok)else pure (ForInStep.yield r)) (TP X pins σ Q) X.xe s
def tTrue:TT:=λ_ H Q=>Q vm H
theorem zl8_ {X:Cx}:PIf X [] tTrue:=λpins s σ H Q I h=>wpAny_tests_nil ⟨H,I,h⟩
theorem zl1_ {X:Cx}{c:lP}{t:TT}(h:PT X c t):PIf X [c] t:=λpins s σ H Q I hw=>wpAny_tests_one (h pins s σ H Q I hw)
def tCompR (J:It)(g:TG)(tt:TT)(te:TE)(i4:St)(H1:Hp)(Q:VK):Prop:=
 ∀ D,H1 D=vk->∃W:Nat->Nat->List V->St->Hp->Prop,(∃m,W 0 m [] i4 (upd H1 D (.lst [])))/\∀i m ys σ H,W i m ys σ H ->
  (J.stop i H/\Q (.ref D) H)\/(J.go i H/\∃N:List V->St->Hp->Prop,(∀cz ah H',N cz ah H'->∃m',m'<m/\W (i+1) m' cz ah H') /\
   ∀x H',J.yld i H x H'->g x σ H' λdH H2=>tt dH H2 λb H3=>if b=vm then te dH H3 λv H4=>H4 D=vj (.lst ys)/\ys.length<lL/\N (ys++[v]) dH (upd H4 D (.lst (ys++[v])))else N ys dH H3)
section
variable {X:Cx}{scope:Scope}{cl:List (Str×lE)}{lv:List Str}{fr:List (Str×Nat)}{elt tg iter:lP}{ifs:List lP}{pos:Pos}{g:TG}{tt:TT}{te:TE}
theorem zdz_ {pins:Pnn}{σ:St}{H2:Hp}{s2:lu}{it:lE}{fp:List lE}{tn:Nat->Heap->Prop}{J:It}{Q:VK}{E:aV->lu->Prop}{use:Option (aV->Sem Unit)}{Q':aV->lu->Prop}
  (I:Inv X pins σ H2 s2) (S:CScope X scope cl lv fr) (T:Turn X.prog X.w X.K tg J fp it tn) (st:tn 0 s2.heap) (hf:∀b∈fp,FpOk X pins H2 b) (hc:X.calm=vm)
  (hg:∀C fp s2 H2,PG (cxComp X scope cl C (cN lv fr) fp s2 H2) tg g) (ht:∀C fp s2 H2,PIf (cxComp X scope cl C (cN lv fr) fp s2 H2) ifs tt) (he:∀C fp s2 H2,PE (cxComp X scope cl C (cN lv fr) fp s2 H2) elt te)
  (hq:tCompR J g tt te (cS lv fr σ) H2 Q)
  (fin:∀D C oC H' s',Inv X (pins++[(C,oC)]) σ H' s'->(∀h:Heap,h.get? C=vj oC->∃m,h.Ns C m)->FpOk X pins H' C->Q (.ref D) H'->compPost (model X.prog X.w) X.A E use Q' (.ref D) C (.ok .next) s'):
  lX (model X.prog X.w) X.A (newList []) (λacc ax=>lX (model X.prog X.w) X.A (newFunctionEnv scope X.env.globals cl [] X.env.qual vk .none (vj X.env)) (λfu bM=>
   codeAny (model X.prog X.w) X.A (.compStart (.ListComp elt [⟨tg,iter,ifs,0⟩] scope pos) 0 (.ref it) acc {fu with scope:=relabel scope X.env}) (compPost (model X.prog X.w) X.A E use Q' acc fu.locals) bM) E ax) E s2:=by
 have aB:∀b∈fp,b<s2.heap.objs.size:=λb hb=>by
  obtain⟨o,ho,_⟩:=T.obj 0 _ st b hb;exact lH ho
 refine wpAny_newList (wpAny_newFunctionEnv S.cell (by intro y hy;simp at hy) (λaz aZ aQ=>?_) S.kind)
 dsimp only at aZ aQ ⊢;have hsz:(s2.heap.push {cls:=.type "list",data:=.seq ([]:List aV).toArray}).objs.size=s2.heap.objs.size+1:=n6 ..;rw[hsz]at aZ aQ ⊢;have old:∀b o,s2.heap.get? b=vj o->az.get? b=vj o:=λb o e=>aQ.extBut b o (l0 (pj (lH e))) (lp _ (lp _ e))
 have aA:az.get? s2.heap.objs.size=vj {cls:=.type "list",data:=.seq #[]}:=aQ.extBut _ _ (l0 (pY _)) (lp _ (lN _ rfl));have I4:Inv (cxComp X scope cl (s2.heap.objs.size+1) (cN lv fr) fp s2 H2) [] (cS lv fr σ) (upd H2 s2.heap.objs.size (.lst [])) {s2 with heap:=az,toks:=s2.toks+([]:List (Str×aV)).length}:=
  zkZ_ I S hf aB aZ aA old
 generalize aW:cxComp X scope cl (s2.heap.objs.size+1) (cN lv fr) fp s2 H2=X' at I4
 have eP:X'.prog=X.prog:=by rw[<- aW];rfl
 have ew:X'.w=X.w:=by rw[<- aW];rfl
 have eK:X'.K=X.K:=by rw[<- aW];rfl
 have eA:X'.A=X.A:=by rw[<- aW];rfl
 have ec:X'.calm=vm:=by rw[<- aW];exact hc
 have ex:X'.xe=λ_ _=>False:=by rw[<- aW];rfl
 have dC:X'.env=compEnvC scope cl (s2.heap.objs.size+1) X.env:=by rw[<- aW];rfl
 have jS:PG X' tg g:=aW ▸ hg _ _ _ _;have jy:PIf X' ifs tt:=aW ▸ ht _ _ _ _;have jW:PE X' elt te:=aW ▸ he _ _ _ _;obtain⟨W,⟨m0,w0⟩,turn⟩:=hq s2.heap.objs.size (I.hok.fresh (lC _));have cf:tn 0 az:=T.keep _ _ _ st λb _ o e=>old b o e
 have f4:∀b∈fp,FpOk X' [] (upd H2 s2.heap.objs.size (.lst [])) b:=λb hb=>by
  obtain⟨f0,f1,f2,f3,f4,f5⟩:=hf b hb;have:=aB b hb;refine⟨?_,?_,?_,.inl ?_,?_,?_⟩
  ·rw[zd_ (l0 this)];exact f0
  ·rw[dC];exact l0 (pj this)
  ·intro z
   have z':b∈frs X.stack:=by rw[<- aW]at z;exact z
   rcases lQ.mp (I.stkSub b z')with q |q
   ·exact f1 q
   ·exact f2 q
  ·rw[<- aW];exact hb
  ·intro x c e
   rw[dC]at e;exact f4 x c (zai_ scope.names [] cl S.clos (λx c e=>by cases e) x c e)
  ·intro p hp
   rw[<- aW]at hp;exact absurd (show p∈([]:Pnn)from hp) (by simp)
 have aX:∀{H':Hp},(∀b∈fp,H' b=vk)->∀b∈fp,FpOk X' [] H' b:=λhn b hb=>⟨hn b hb,(f4 b hb).2⟩
 have loop:∀ax:lu,ax={s2 with heap:=az,toks:=s2.toks+([]:List (Str×aV)).length} ->
   codeAny (model X.prog X.w) X.A (.compLoop (.ListComp elt [⟨tg,iter,ifs,0⟩] scope pos) 0 (.ref it) (.ref s2.heap.objs.size) (compEnvC scope cl (s2.heap.objs.size+1) X.env))
    (compPost (model X.prog X.w) X.A E use Q' (.ref s2.heap.objs.size) (s2.heap.objs.size+1)) ax:=by
  rintro ax rfl;refine zfa_ (λn s'=>∃i ys ah H',Inv X' [] ah H' s'/\tn i s'.heap/\(∀b∈fp,H' b=vk)/\W i n ys ah H') ?_ m0 ⟨0,[],_,_,I4,cf,λb hb=>(f4 b hb).1,w0⟩
  rintro n s3 ⟨i,ys,bE,H3,I3,st3,fr3,w3⟩;rcases turn i n ys bE H3 w3 with⟨stop,qn⟩|⟨go,N,hN,step⟩
  ·have a0:=T.done X' eP ew eK ec i [] s3 bE H3 (λ_ _=>False) I3 (aX fr3) st3 stop
   rw[eA]at a0;refine thn a0 λr s4 af=>?_
   obtain⟨hr,I4'⟩:=af;subst hr;have un:Un (frs X.stack) fp H2 H3 s2.heap s4.heap:=by
    have:=I4'.base;rw[<- aW]at this;exact this
   have os:s4.os=s2.os:=by
    have:=I4'.os;rw[<- aW]at this;exact this
   have hok:HOk X.prog X.w H3 s4.heap:=by
    have:=I4'.hok;rw[<- aW]at this;exact this
   have J1:Inv X pins σ H3 s4:=I.call' os un hok I4'.bare λb hb=>by
    obtain⟨f0,f1,f2,f3,f4,f5⟩:=hf b hb;exact⟨f3,f1,f4,f5⟩
   obtain⟨m,hn,_⟩:=I4'.loc;have gI:s4.heap.Ns (s2.heap.objs.size+1) m:=by rw[dC]at hn;exact hn
   have fX:H3 (s2.heap.objs.size+1)=vk:=by
    have:=I4'.free;rw[dC]at this;exact this
   have fC:FpOk X pins H3 (s2.heap.objs.size+1):=I.fpOk (oF _) fX;obtain⟨oC,es,ep,hoC,hdC,rC⟩:=id gI;have J2:Inv X (pins++[(s2.heap.objs.size+1,oC)]) σ H3 s4:=J1.pins_of λp hp=>by
    rcases m9.mp hp with hp |hp
    ·exact J1.pin p (l7 _ hp)
    ·have e:p=(s2.heap.objs.size+1,oC):=by simpa using hp
     subst e;exact⟨hoC,fX,fC.2.1,fC.2.2.1,λv z=>by rw[hdC]at z;cases z⟩
   exact fin _ _ oC H3 s4 J2 (λh e=>⟨m,oC,es,ep,e,hdC,rC⟩) fC qn
  ·have a0:=T.item X' eP ew eK ec i [] s3 bE H3 (λ_ _=>False) I3 (aX fr3) st3 go
   rw[eA]at a0;refine thn a0 λr s4 af=>?_
   obtain⟨u,hr,h4⟩:=af;subst hr;refine thn h4 λ_ s5 af=>?_
   obtain⟨x,H5,I5,r5,y5,st5,fr5⟩:=af;have ie:=I5.pinned (aX fr5) (T.obj _ _ st5);have a1:=jS _ s5 bE H5 x u _ ie r5 (step x H5 y5);rw[eP,ew,eA,dC,ex]at a1;refine thn a1 λ_ s6 af=>?_
   obtain⟨cb,H6,I6,q6⟩:=af;have a2:=jy _ s6 cb H6 _ I6 q6;rw[eP,ew,eA,dC,ex]at a2;refine thn a2 λok s7 af=>?_
   obtain⟨H7,I7,q7⟩:=af;have again:∀{fw:List V}{H7:Hp}{s7:lu},Inv X' ([]++pinsAt fp s5.heap) cb H7 s7->N fw cb H7->∃m,m<n/\∃i ys ah H',Inv X' [] ah H' s7/\tn i s7.heap/\(∀b∈fp,H' b=vk)/\W i m ys ah H':=λ{fw H7 s7} I7 n7=>by
    obtain⟨m',hm,w7⟩:=hN fw cb H7 n7;refine⟨m',hm,i+1,fw,cb,H7,I7.unpinned,T.keep _ _ _ st5 λb hb o e=>(I7.pin (b,o) (l7 _ (l7 _ (zbj_ hb e)))).1,λb hb=>?_,w7⟩
    obtain⟨o,e,d⟩:=T.obj _ _ st5 b hb;exact(I7.pin (b,o) (l7 _ (l7 _ (zbj_ hb e)))).2.1
   cases ok with
   |false=>exact again I7 q7
   |true=>
    have a3:=jW _ s7 cb H7 _ I7 q7;rw[eP,ew,eA,dC,ex]at a3;refine thn a3 λy s8 af=>?_
    obtain⟨v,H8,I8,r8,hD8,fO,n8⟩:=af;have a4:=zcB_ (X:=X') _ s8 cb H8 (.ref s2.heap.objs.size) [v] (.ref s2.heap.objs.size) [y] (λ_ H9=>N (ys++[v]) cb H9) I8 rfl (.cons r8 .nil) ⟨_,_,_,rfl,rfl,hD8,fO,n8⟩
    rw[eP,ew,eA,ex]at a4;refine thn a4 λ_ s9 af=>?_
    obtain⟨v9,H9,I9,_,n9⟩:=af;exact again I9 n9
 exact codeAny_compStart_list (loop _ rfl) (T.self _ 0 _ _ _ cf (loop _ rfl))
def tComp (lv:List Str)(fr:List (Str×Nat))(wi:TI)(g:TG)(tt:TT)(te:TE):TE:=λσ H Q=>wi σ H λJ H1=>tCompR J g tt te (cS lv fr σ) H1 Q
theorem znn_ {wi:TI}(hc:X.calm=vm)(S:CScope X scope cl lv fr)(hi:PI X tg iter wi)
  (hg:∀C fp s2 H2,PG (cxComp X scope cl C (cN lv fr) fp s2 H2) tg g) (ht:∀C fp s2 H2,PIf (cxComp X scope cl C (cN lv fr) fp s2 H2) ifs tt) (he:∀C fp s2 H2,PE (cxComp X scope cl C (cN lv fr) fp s2 H2) elt te)
  (hs:∀x,foldedSetIterable iter X.env x=pure x:=by intro _;rfl):PE X (.ListComp elt [⟨tg,iter,ifs,0⟩] scope pos) (tComp lv fr wi g tt te):=by
 intro pins s σ H Q I h;rw[eval_ListComp];refine wpAny_comprehension_free (use:=vk) rfl hs (zbG_ S.clos) S.kind S.names ?_;refine thn (hi pins s σ H _ I h) λv s1 h1=>thn h1 λfK s2 h2=>?_
 obtain⟨it,fp,tn,J,H2,e,I2,T,bx,f2,q⟩:=h2;subst e;refine zdz_ I2 S T bx f2 hc hg ht he q λD C oC H' s' J1 gY fC qD=>?_
 have hp:=J1.pin (C,oC) (l7 _ (l7 _ (mz.mpr rfl)));obtain⟨m,hm⟩:=gY s'.heap hp.1;refine⟨m,hm,λh' cP=>?_⟩
 exact⟨.ref D,H',J1.unpinned.turned (t':=s'.toks) (λb o hb e=>(cP.2 b hb).trans e) fC.1 fC.2.1 fC.2.2.2.1 fC.2.2.2.2.1 fC.2.2.2.2.2,rfl,qD⟩
theorem zhl_ {wi:TI}{j:Nat}{y:Str}{py dZ:Pos}(hc:X.calm=vm)(S:CScope X scope cl lv fr)(hi:PI X tg iter wi)
  (hg:∀C fp s2 H2,PG (cxComp X scope cl C (cN lv fr) fp s2 H2) tg g) (ht:∀C fp s2 H2,PIf (cxComp X scope cl C (cN lv fr) fp s2 H2) ifs tt) (he:∀C fp s2 H2,PE (cxComp X scope cl C (cN lv fr) fp s2 H2) elt te)
  (hy:PG X (.Name y py) (gName j))
  (jz:swapsWith (.ListComp elt [⟨tg,iter,ifs,0⟩] scope pos) (vj (.Name y py)) dZ.line X.env=pure vm:=by rfl)
  (hs:∀x,foldedSetIterable iter X.env x=pure x:=by intro _;rfl):PS X (.Assign [.Name y py] (.ListComp elt [⟨tg,iter,ifs,0⟩] scope pos) dZ) (tAsg (tComp lv fr wi g tt te) (gName j)):=by
 intro pins s σ H D I h;rw[exec_Assign_Name_used _ _ _ _ jz];refine ll (wpAny_standAt (ll ?_));show lX _ X.A (do let _ <- comprehension (.ListComp elt [⟨tg,iter,ifs,0⟩] scope pos) scope X.env _ (newList []) vn (eval iter X.env) (vj (assign (.Name y py) X.env))) _ _ s
 refine ll (m4 (wpAny_comprehension_free (use:=vj (assign (.Name y py) X.env)) (Q:=λ_ s'=>SP X pins D .next s') rfl hs (zbG_ S.clos) S.kind S.names ?_) (λ_ s' hq=>lM (lM hq)) λ_ _ e=>e)
 refine thn (hi pins s σ H _ I h) λv s1 h1=>thn h1 λfK s2 h2=>?_
 obtain⟨it,fp,tn,J,H2,e,I2,T,bx,f2,q⟩:=h2;subst e;refine zdz_ I2 S T bx f2 hc hg ht he q λD' C oC H' s' J1 gY fC qD=>?_
 show lX _ X.A (assign (.Name y py) X.env (.ref D')) _ _ _
 refine thn (hy _ s' σ H' (.ref D') (.ref D') _ J1 rfl qD) λ_ s3 af=>?_
 obtain⟨bE,H3,I3,q3⟩:=af;have hp:=I3.pin (C,oC) (l7 _ (l7 _ (mz.mpr rfl)));obtain⟨m,hm⟩:=gY s3.heap hp.1;refine⟨m,hm,λh' cP=>?_⟩
 have fq:FpOk X pins H3 C:=⟨hp.2.1,fC.2⟩;exact⟨bE,H3,I3.unpinned.turned (t':=s3.toks) (λb o hb e=>(cP.2 b hb).trans e) fq.1 fq.2.1 fq.2.2.2.1 fq.2.2.2.2.1 fq.2.2.2.2.2,q3⟩
end
noncomputable abbrev tx (l:List Nat):V:=.str ⟨l.toArray⟩
def br (b:Bool)(A B:Prop):Prop:=(b=vm->A)/\(b=vn->B)
theorem zoj_ (a b:Str):a++b=⟨(a.cps.toList++b.cps.toList).toArray⟩:=by
 cases a;cases b;show Str.mk (_++_)=_
 simp
theorem zat_ (a:Str):a=⟨a.cps.toList.toArray⟩:=by cases a;simp
def cutL (l:List Nat)(lo hi:Option Int):List Nat:=(l.drop (HT.sIx l.length 0 lo)).take (HT.sIx l.length l.length hi-HT.sIx l.length 0 lo)
theorem zb2_ (lo hi:Option Int)(n:Nat):ny lo hi 1 n=sliceRange ((HT.sIx n 0 lo:Nat):Int) ((HT.sIx n n hi:Nat):Int) 1:=by
 unfold ny;simp only[show(1:Int) > 0 by decide,if_true]
 congr 1
 ·cases lo with
  |none=>simp[HT.sIx]
  |some i=>
   simp only[HT.sIx];by_cases h:i<0
   ·simp only[h,if_true]<;>lia
   ·simp only[h,if_false]<;>lia
 ·cases hi with
  |none=>simp[HT.sIx]
  |some i=>
   simp only[HT.sIx];by_cases h:i<0
   ·simp only[h,if_true]<;>lia
   ·simp only[h,if_false]<;>lia
theorem zg2_ (x:Str)(lo hi:Option Int):(ny lo hi 1 x.length).filterMap (x.cps[·]?)=cutL x.cps.toList lo hi:=by
 rw[zb2_,sliceRange_one,pick_run];unfold cutL nJ;simp only[mQ]
theorem zct_ (l:List Nat)(lo hi:Option Int):(cutL l lo hi).length<=l.length:=by
 unfold cutL;rw[mS,mY];lia
theorem zib_ {l:List Nat}{lo hi:Option Int}(h:(cutL l lo hi).length=l.length):cutL l lo hi=l:=by
 unfold cutL at h ⊢;rw[mS,mY]at h;have h1:HT.sIx l.length l.length hi<=l.length:=HT.sIx_le _ _ (lC _) _;by_cases hl:l.length=0
 ·have:l=[]:=mJ.mp hl
  subst this;simp
 ·have h2:HT.sIx l.length 0 lo=0:=by lia
  rw[h2,tL,oU];lia
section
variable {X:Cx}
def rSlS:V->Option Int->Option Int->Hp->VK->Prop:=λx lo hi H Q=>match x with |.str z=>z.length<=lL/\Q (tx (cutL z.cps.toList lo hi)) H |_=>False
theorem zbQ_ {v:aV}{o:Option Int}(p:IsPart v o):∃l:Option (Int×Tok),v=partValue l/\l.map (·.1)=o:=by
 cases p with
 |none=>exact⟨vk,rfl,rfl⟩
 |int i t=>exact⟨vj (i,t),rfl,rfl⟩
theorem zhR_:SlR X rSlS:=by
 intro pins s σ H x v vl vu lo hi sl Q I rx hs pl pu h;cases x with
 |str z=>
  obtain⟨hz,q⟩:=h;obtain⟨t,rfl⟩:=rx;obtain⟨l,rfl,rfl⟩:=zbQ_ pl;obtain⟨u,rfl,rfl⟩:=zbQ_ pu;refine⟨"str",_,F.slot_str_getitem.lookup,typeIs_str _ _ _,?_⟩;refine wpAny_getItem_str_slice (l:=l) (u:=u) (st:=vk) hs rfl ?_;unfold sliceMade;have e:slicePicked z l u vk=ny (l.map (·.1)) (u.map (·.1)) 1 z.length:=rfl;rw[e];have hlen:(ny (l.map (·.1)) (u.map (·.1)) 1 z.length).length=(cutL z.cps.toList (l.map (·.1)) (u.map (·.1))).length:=by
   rw[zb2_,sliceRange_one,lq,mM];unfold cutL;rw[mS,mY];have h1:HT.sIx z.length z.length (u.map (·.1))<=z.length:=HT.sIx_le _ _ (lC _) _;have h2:z.cps.toList.length=z.length:=by simp[nJ]
   rw[h2];lia
  split
  ·rename_i hc
   have aI:(cutL z.cps.toList (l.map (·.1)) (u.map (·.1))).length=z.cps.toList.length:=by
    rw[<- hlen]
    simpa [nJ]using hc
   rw[zib_ aI]at q;have q':Q (.str z) H:=by rw[zat_ z];exact q
   exact⟨.str z,H,I,⟨_,rfl⟩,q'⟩
  ·rw[zg2_]
   have h3:=zct_ z.cps.toList (l.map (·.1)) (u.map (·.1));have h2:z.cps.toList.length=z.length:=by simp[nJ]
   refine⟨?_,tx (cutL z.cps.toList (l.map (·.1)) (u.map (·.1))),H,I.tok _,⟨_,rfl⟩,q⟩;show(cutL z.cps.toList (l.map (·.1)) (u.map (·.1))).toArray.size<=lL
   rw[lD];exact m5 h3 (by rw[h2];exact hz)
 |_=>exact h.elim
end
def mVar (i:Nat):TE:=λσ H Q=>match σ[i]? with |some (vj v)=>Q v H |_=>False
section
variable {X:Cx}{a b c:lP}{ta tb tc:TE}{pos:Pos}
theorem zop_ (i:Nat){x:Str}{pos:Pos}(hN:X.N[i]?=vj x:=by rfl)(hv:Vis X.env.scope x:=by first |exact Or.inl rfl |exact Or.inr (Or.inl rfl)|exact Or.inr (Or.inr rfl))(hd:(x==("__debug__":Str))=vn:=by decide)
  (aC:(x==("__classdict__":Str))=vn:=by decide):PE X (.Name x pos) (mVar i):=by
 intro pins s σ H Q I h;unfold mVar at h;cases e:σ[i]? with
 |none=>rw[e]at h;exact h.elim
 |some o=>
  rw[e]at h;cases o with
  |none=>exact h.elim
  |some v=>exact zpN_ hN hv hd aC pins s σ H Q I ⟨v,e,h⟩
theorem zqX_ {x:Str}{l:List Nat}{j pos}(h:x=⟨l.toArray⟩:=by rfl):PE X (.Constant (.str x) j pos) (tC (tx l)):=h ▸ zqn_
def mAdd:R2:=λx y H Q=>match x,y with
 |.int i,.int j=>Q (.int (i+j)) H
 |.str a,.str b=>a.cps.toList.length+b.cps.toList.length<=lL/\Q (tx (a.cps.toList++b.cps.toList)) H
 |.ref a,.ref b=>∃xs zs,H a=vj (.lst xs)/\H b=vj (.lst zs)/\xs.length+zs.length<=lL/\∀p,H p=vk->Q (.ref p) (upd H p (.lst (xs++zs)))
 |_,_=>False
theorem zlX_:OpR X (nR .Add) mAdd:=by
 intro pins s σ H x y v u Q I rx ry h
 cases x<;>cases y<;>first
  |exact h.elim
  |exact zq0_ pins s σ H _ _ v u Q I rx ry ⟨_,_,rfl,rfl,h⟩
  |exact zfv_ pins s σ H _ _ v u Q I rx ry ⟨_,_,rfl,rfl,by simpa [nJ]using h.1,by rw[zoj_];exact h.2⟩
  |(obtain⟨xs,zs,h1,h2,h3,h4⟩:=h;exact zpC_ pins s σ H _ _ v u Q I rx ry ⟨_,_,xs,zs,rfl,rfl,h1,h2,h3,h4⟩)
def mI (C:Int->Int->Prop)(g:Int->Int->V):R2:=λx y H Q=>match x,y with |.int i,.int j=>C i j/\Q (g i j) H |_,_=>False
def mI0 (g:Int->Int->V):R2:=λx y H Q=>match x,y with |.int i,.int j=>Q (g i j) H |_,_=>False
theorem opM {f:aV->aV->Sem aV}{C:Int->Int->Prop}{g:Int->Int->V}(h:OpR X f (rI C g)):OpR X f (mI C g):=by
 intro pins s σ H x y v u Q I rx ry q;cases x<;>cases y<;>first |exact q.elim |exact h pins s σ H _ _ v u Q I rx ry ⟨_,_,rfl,rfl,q.1,q.2⟩
theorem opM0 {f:aV->aV->Sem aV}{g:Int->Int->V}(h:OpR X f (rI0 g)):OpR X f (mI0 g):=by
 intro pins s σ H x y v u Q I rx ry q;cases x<;>cases y<;>first |exact q.elim |exact h pins s σ H _ _ v u Q I rx ry ⟨_,_,rfl,rfl,q⟩
abbrev mSub:R2:=mI0 λi j=>.int (i-j)
abbrev mMod:R2:=mI (λ_ j=>0<j) λi j=>.int (i % j)
theorem znm_:OpR X (nR .Sub) mSub:=opM0 zqP_
theorem zmX_:OpR X (nR .Mod) mMod:=opM zps_
abbrev mLt:R2:=mI0 λi j=>.bl (decide (i<j))
abbrev mLe:R2:=mI0 λi j=>.bl (decide (i<=j))
abbrev mGt:R2:=mI0 λi j=>.bl (decide (j<i))
abbrev mGe:R2:=mI0 λi j=>.bl (decide (j<=i))
theorem zoN_:OpR X (l4 .Lt) mLt:=opM0 op_lt
theorem zqH_:OpR X (l4 .LtE) mLe:=opM0 op_le
theorem zpH_:OpR X (l4 .Gt) mGt:=opM0 op_gt
theorem zqf_:OpR X (l4 .GtE) mGe:=opM0 op_ge
noncomputable def mIsB (x y:V):Option Bool:=match y with
 |.non=>vj (decide (x=.non))
 |.bl b=>(match x with |.bl a=>vj (decide (a=b))|_=>vk)
 |_=>vk
def mIs:R2:=λx y H Q=>match mIsB x y with |some b=>Q (.bl b) H |none=>False
def mIsNot:R2:=λx y H Q=>match mIsB x y with |some b=>Q (.bl (!b)) H |none=>False
theorem zjs_ {M:Model}{A:my}{E:aV->lu->Prop}{s:lu}{a b:Bool}{Q:aV->lu->Prop}(h:Q (.bool (decide (a=b))) s):lX M A (l4 .Is (.bool a) (.bool b)) Q E s:=by
 cases a<;>cases b<;>exact lM h
theorem ze4_ {M:Model}{A:my}{E:aV->lu->Prop}{s:lu}{a b:Bool}{Q:aV->lu->Prop}(h:Q (.bool (!decide (a=b))) s):lX M A (l4 .IsNot (.bool a) (.bool b)) Q E s:=by
 cases a<;>cases b<;>exact lM h
theorem zpO_:OpR X (l4 .Is) mIs:=by
 intro pins s σ H x y v u Q I rx ry h;unfold mIs mIsB at h;cases y with
 |non=>exact zqO_ pins s σ H x _ v u Q I rx ry ⟨rfl,h⟩
 |bl b=>
  cases x with
  |bl a=>cases rx;cases ry;exact zjs_ ⟨.bl _,H,I,rfl,h⟩
  |_=>exact h.elim
 |_=>exact h.elim
theorem ziB_:OpR X (l4 .IsNot) mIsNot:=by
 intro pins s σ H x y v u Q I rx ry h;unfold mIsNot mIsB at h;cases y with
 |non=>exact zlL_ pins s σ H x _ v u Q I rx ry ⟨rfl,h⟩
 |bl b=>
  cases x with
  |bl a=>cases rx;cases ry;exact ze4_ ⟨.bl _,H,I,rfl,h⟩
  |_=>exact h.elim
 |_=>exact h.elim
noncomputable def inS (l:List Nat)(t:List Nat):Bool:=match l with |[c]=>decide (c∈t)|_=>!(nM ⟨t.toArray⟩ ⟨l.toArray⟩ 0 t.length 1).isEmpty
theorem zjr_ (a b:Str):(!(nM b a 0 b.length 1).isEmpty)=inS a.cps.toList b.cps.toList:=by
 have e:b.length=b.cps.toList.length:=by simp[nJ]
 unfold inS;split
 ·rename_i c hc
  have ea:a=⟨#[c]⟩:=by rw[zat_ a,hc]
  rw[ea];exact StrLaws.found_one b c
 ·rw[<- zat_,<- zat_,e]
def mIn (K:Fgg)(neg:Bool):R2:=λx y H Q=>match y with
 |.str b=>(match x with |.str a=>Q (.bl (if neg then !inS a.cps.toList b.cps.toList else inS a.cps.toList b.cps.toList)) H |_=>False)
 |.ref p=>∃xs,(SqL K H p xs\/SqT K H p xs)/\flatV x=vm/\xs.all flatV=vm/\Q (.bl (if neg then !inV x xs else inV x xs)) H
 |_=>False
theorem zpR_:OpR X (l4 .In) (mIn X.K vn):=by
 intro pins s σ H x y v u Q I rx ry h;unfold mIn at h;cases y with
 |str b=>
  cases x with
  |str a=>exact zh0_ pins s σ H _ _ v u Q I rx ry ⟨_,_,rfl,rfl,by rw[zjr_];exact h⟩
  |_=>exact h.elim
 |ref p=>
  obtain⟨xs,h1,h2,h3,h4⟩:=h;exact zhD_ pins s σ H _ _ v u Q I rx ry ⟨_,xs,rfl,h1,h2,h3,h4⟩
 |_=>exact h.elim
theorem zhU_:OpR X (l4 .NotIn) (mIn X.K vm):=by
 intro pins s σ H x y v u Q I rx ry h;unfold mIn at h;cases y with
 |str b=>
  cases x with
  |str a=>exact zdS_ pins s σ H _ _ v u Q I rx ry ⟨_,_,rfl,rfl,by rw[zjr_];exact h⟩
  |_=>exact h.elim
 |ref p=>
  obtain⟨xs,h1,h2,h3,h4⟩:=h;exact zeb_ pins s σ H _ _ v u Q I rx ry ⟨_,xs,rfl,h1,h2,h3,h4⟩
 |_=>exact h.elim
def mTest (t:TE):TT:=λσ H Q=>t σ H λx H'=>match x with |.bl k=>Q k H' |_=>False
def mAndV (ta tb:TE):TE:=λσ H Q=>ta σ H λx H1=>match x with |.bl c=>br c (tb σ H1 Q) (Q (.bl vn) H1)|_=>False
def mOrV (ta tb:TE):TE:=λσ H Q=>ta σ H λx H1=>match x with |.bl c=>br c (Q (.bl vm) H1) (tb σ H1 Q)|_=>False
def mNotV (ta:TE):TE:=λσ H Q=>ta σ H λx H1=>match x with |.bl c=>Q (.bl (!c)) H1 |_=>False
def mAnd (t u:TT):TT:=λσ H Q=>t σ H λc H1=>br c (u σ H1 Q) (Q vn H1)
def mOr (t u:TT):TT:=λσ H Q=>t σ H λc H1=>br c (Q vm H1) (u σ H1 Q)
variable {rest:List lP}{tA fE:TT}
theorem ziN_ (ha:PE X a ta)(hb:PE X (.BoolOp .And (b::rest) pos) tb):PE X (.BoolOp .And (a::b::rest) pos) (mAndV ta tb):=by
 intro pins s σ H Q I h;refine BoolOp_and (thn (ha pins s σ H _ I h) λv s1 af=>?_)
 obtain⟨x,H1,I1,r1,q1⟩:=af;cases x with
 |bl c=>
  cases r1;refine mr ?_;cases c with
  |true=>exact hb pins s1 σ H1 Q I1 (q1.1 rfl)
  |false=>exact⟨.bl vn,H1,I1,rfl,q1.2 rfl⟩
 |_=>exact q1.elim
theorem zmK_ (ha:PE X a ta)(hb:PE X (.BoolOp .Or (b::rest) pos) tb):PE X (.BoolOp .Or (a::b::rest) pos) (mOrV ta tb):=by
 intro pins s σ H Q I h;refine BoolOp_or (thn (ha pins s σ H _ I h) λv s1 af=>?_)
 obtain⟨x,H1,I1,r1,q1⟩:=af;cases x with
 |bl c=>
  cases r1;refine mr ?_;cases c with
  |false=>exact hb pins s1 σ H1 Q I1 (q1.2 rfl)
  |true=>exact⟨.bl vm,H1,I1,rfl,q1.1 rfl⟩
 |_=>exact q1.elim
theorem zmF_ (ha:PE X a ta):PE X (.UnaryOp .Not a pos) (mNotV ta):=by
 intro pins s σ H Q I h;refine UnaryOp_ (thn (ha pins s σ H _ I h) λv s1 af=>?_)
 obtain⟨x,H1,I1,r1,q1⟩:=af;cases x with
 |bl c=>cases r1;exact not_of (mr ⟨.bl (!c),H1,I1,rfl,q1⟩)
 |_=>exact q1.elim
theorem zi5_ (ha:PT X a tA)(hb:PW X (.BoolOp .And (b::rest) pos) fE):PW X (.BoolOp .And (a::b::rest) pos) (mAnd tA fE):=by
 intro wh pins s σ H Q I h;refine isTrue_and (thn (ha pins s σ H _ I h) λc s1 af=>?_)
 obtain⟨H1,I1,q1⟩:=af;cases c with
 |true=>exact hb wh pins s1 σ H1 Q I1 (q1.1 rfl)
 |false=>exact⟨H1,I1,q1.2 rfl⟩
theorem zlE_ (ha:PT X a tA)(hb:PW X (.BoolOp .Or (b::rest) pos) fE):PW X (.BoolOp .Or (a::b::rest) pos) (mOr tA fE):=by
 intro wh pins s σ H Q I h;refine isTrue_or (thn (ha pins s σ H _ I h) λc s1 af=>?_)
 obtain⟨H1,I1,q1⟩:=af;cases c with
 |true=>exact⟨H1,I1,q1.1 rfl⟩
 |false=>exact hb wh pins s1 σ H1 Q I1 (q1.2 rfl)
theorem znT_ {e:lP}{t:TE}(h:PE X e t)(he:∀whole,isTrue e X.env whole=(do let v <- whole;standAt e.pos;holding [v] (truthy v)):=by intro _;rfl):PT X e (mTest t):=by
 intro pins s σ H Q I hw;refine isTrue_plain (thn (h pins s σ H _ I hw) λv s1 af=>?_) (he _)
 obtain⟨x,H1,I1,r1,q1⟩:=af;cases x with
 |bl c=>cases r1;exact mr ⟨H1,I1,q1⟩
 |_=>exact q1.elim
theorem zlj_ {op:CmpOp}{r:R2}(ho:OpR X (l4 op) r)(ha:PE X a ta)(hb:PE X b tb)(hm:behindInMarks op b=vn:=by first |exact nobehind _ (by decide) (by decide)|rfl):PT X (.Compare a [op] [b] pos) (mTest (tOp r ta tb)):=by
 intro pins s σ H Q I hw;refine wpAny_isTrue_Compare1 (binT ha hb I hw λv u s2 x y H2 I2 rx ry q=>?_) hm
 refine thn (ho pins s2 σ H2 x y v u _ I2 rx ry q) λc s3 af=>?_
 obtain⟨z,H3,I3,r3,q3⟩:=af;cases z with
 |bl k=>cases r3;exact mr ⟨H3,I3,q3⟩
 |_=>exact q3.elim
theorem zoo_ {op:CmpOp}{r:R2}(ho:OpR X (l4 op) r)(ha:PE X a ta)(hb:PE X b tb)(hm:behindInMarks op b=vn:=by first |exact nobehind _ (by decide) (by decide)|rfl):PE X (.Compare a [op] [b] pos) (tOp r ta tb):=zmT_ ho ha hb hm
def mIf (t:TT)(ta tb:TE):TE:=λσ H Q=>t σ H λc H1=>br c (ta σ H1 Q) (tb σ H1 Q)
theorem zqt_ {c:lP}(hc:PT X c tA)(ha:PE X a ta)(hb:PE X b tb):PE X (.IfExp c a b pos) (mIf tA ta tb):=by
 intro pins s σ H Q I h;refine wpAny_IfExp (thn (hc pins s σ H _ I h) λd s1 af=>?_)
 obtain⟨H1,I1,q1⟩:=af;cases d with
 |true=>exact ha pins s1 σ H1 Q I1 (q1.1 rfl)
 |false=>exact hb pins s1 σ H1 Q I1 (q1.2 rfl)
def mIfS (c:TT)(t u:TS):TS:=λD σ H=>c σ H λb H1=>br b (t D σ H1) (u D σ H1)
theorem zjG_ {c:lP}{a b:List mC}{tc:TT}{t u:TS}(hc:PT X c tc)(ha:PSs X a t)(hb:PSs X b u):PS X (.If c a b pos) (mIfS tc t u):=by
 intro pins s σ H D I h;refine wpAny_If (thn (hc pins s σ H _ I h) λd s1 af=>?_)
 obtain⟨H1,I1,q1⟩:=af;cases d with
 |true=>exact ha pins s1 σ H1 D I1 (q1.1 rfl)
 |false=>exact hb pins s1 σ H1 D I1 (q1.2 rfl)
def mChain (r r':R2)(ta tb tc:TE):TE:=λσ H Q=>ta σ H λx H1=>tb σ H1 λy H2=>r x y H2 λz H3=>match z with |.bl k=>br k (tc σ H3 λw H4=>r' y w H4 Q) (Q (.bl vn) H3)|_=>False
theorem zih_ {op aF:CmpOp}{r r':R2}(ho:OpR X (l4 op) r)(aH:OpR X (l4 aF) r')(ha:PE X a ta)(hb:PE X b tb)(hc:PE X c tc)
  (hm:lastMarks [op,aF] [b,c]=vn:=by with_unfolding_all rfl):PE X (.Compare a [op,aF] [b,c] pos) (mChain r r' ta tb tc):=by
 intro pins s σ H Q I h;refine Compare_chain (thn (ha pins s σ H _ I h) λv s1 ⟨x,H1,I1,r1,q1⟩=>chain_link (thn (hb pins s1 σ H1 _ I1 q1) λu s2 ⟨y,H2,I2,r2,q2⟩=>
  thn (ho pins s2 σ H2 x y v u _ I2 r1 r2 q2) λd s3 ⟨z,H3,I3,r3,q3⟩=>?_)) hm
 cases z with
 |bl k=>
  cases r3;refine mr ?_;cases k with
  |false=>exact ite_ff ⟨.bl vn,H3,I3,rfl,q3.2 rfl⟩
  |true=>exact ite_tt (chain_last (thn (hc pins s3 σ H3 _ I3 (q3.1 rfl)) λw' s4 ⟨z',H4,I4,r4,q4⟩=>aH pins s4 σ H4 y z' u w' Q I4 r2 r4 q4))
 |_=>exact q3.elim
theorem zhv_ {op aF:CmpOp}{r r':R2}(ho:OpR X (l4 op) r)(aH:OpR X (l4 aF) r')(ha:PE X a ta)(hb:PE X b tb)(hc:PE X c tc)
  (hm:lastMarks [op,aF] [b,c]=vn:=by with_unfolding_all rfl):PT X (.Compare a [op,aF] [b,c] pos) (mTest (mChain r r' ta tb tc)):=by
 intro pins s σ H Q I h;refine isTrue_chain (thn (ha pins s σ H _ I h) λv s1 ⟨x,H1,I1,r1,q1⟩=>test_link (thn (hb pins s1 σ H1 _ I1 q1) λu s2 ⟨y,H2,I2,r2,q2⟩=>
  thn (ho pins s2 σ H2 x y v u _ I2 r1 r2 q2) λd s3 ⟨z,H3,I3,r3,q3⟩=>?_)) hm
 cases z with
 |bl k=>
  cases r3;refine mr ?_;cases k with
  |false=>exact ite_ff ⟨H3,I3,q3.2 rfl⟩
  |true=>
   refine ite_tt (test_last (thn (hc pins s3 σ H3 _ I3 (q3.1 rfl)) λw' s4 ⟨z',H4,I4,r4,q4⟩=>thn (aH pins s4 σ H4 y z' u w' _ I4 r2 r4 q4) λd' s5 af=>?_))
   obtain⟨z2,H5,I5,r5,q5⟩:=af;cases z2 with
   |bl k2=>cases r5;exact mr ⟨H5,I5,q5⟩
   |_=>exact q5.elim
 |_=>exact q3.elim
end
section
variable {X:Cx}{a b c e:lP}{ta:TE}{t:TA}
def mIx (K:Fgg):R2:=λx y H Q=>match y with
 |.int i=>(match x with
  |.ref p=>∃xs,(SqL K H p xs\/SqT K H p xs)/\(match atI xs i with |some v=>Q v H |none=>False)
  |.str z=>z.cps.toList.length<=lL/\(match atI z.cps.toList i with |some c=>Q (tx [c]) H |none=>False)
  |_=>False)
 |_=>False
theorem ix_M:IxR X (mIx X.K):=by
 intro value slice pins s σ H x y v u Q I rx ry h gF;unfold mIx at h;cases y with
 |int i=>
  cases x with
  |ref p=>
   obtain⟨xs,hs,h⟩:=h;cases ev:atI xs i with
   |none=>rw[ev]at h;exact h.elim
   |some w'=>
    rw[ev]at h;rcases hs with hs |hs
    ·exact zlF_ value slice pins s σ H _ _ v u Q I rx ry ⟨p,xs,i,w',rfl,rfl,hs,ev,h⟩ gF
    ·exact zpf_ value slice pins s σ H _ _ v u Q I rx ry ⟨p,xs,i,w',rfl,rfl,hs,ev,h⟩ gF
  |str z=>
   obtain⟨hz,h⟩:=h;cases ev:atI z.cps.toList i with
   |none=>rw[ev]at h;exact h.elim
   |some w'=>
    rw[ev]at h;exact zqj_ value slice pins s σ H _ _ v u Q I rx ry ⟨z,i,w',rfl,rfl,by simpa [nJ]using hz,ev,h⟩ gF
  |_=>exact h.elim
 |_=>exact h.elim
def mSl (K:Fgg):V->Option Int->Option Int->Hp->VK->Prop:=λx lo hi H Q=>match x with
 |.str z=>z.cps.toList.length<=lL/\Q (tx (cutL z.cps.toList lo hi)) H
 |.ref a=>∃xs,SqL K H a xs/\∀p,H p=vk->Q (.ref p) (upd H p (.lst (cutV xs lo hi)))
 |_=>False
theorem sl_M:SlR X (mSl X.K):=by
 intro pins s σ H x v vl vu lo hi sl Q I rx hs pl pu h;unfold mSl at h;cases x with
 |str z=>exact zhR_ pins s σ H _ v vl vu lo hi sl Q I rx hs pl pu ⟨by simpa [nJ]using h.1,h.2⟩
 |ref p=>
  obtain⟨xs,h1,h2⟩:=h;exact zlK_ pins s σ H _ v vl vu lo hi sl Q I rx hs pl pu ⟨p,xs,rfl,h1,h2⟩
 |_=>exact h.elim
def mPart (t:TE):TO:=λσ H Q=>t σ H λx H1=>match x with |.int i=>Q (vj i) H1 |_=>False
theorem po_M (h:PE X e ta):PO X (vj e) (mPart ta):=by
 intro pins s σ H Q I hw;rw[evalPart_some];refine thn (h pins s σ H _ I hw) λu s1 af=>?_
 obtain⟨x,H1,I1,r1,q1⟩:=af;cases x with
 |int i=>obtain⟨t,rfl⟩:=r1;exact⟨vj i,H1,I1,.int i t,q1⟩
 |_=>exact q1.elim
def mLen (K:Fgg):List V->Hp->VK->Prop:=λxs H Q=>match xs with
 |[.str z]=>z.cps.toList.length<=lL/\Q (.int z.cps.toList.length) H
 |[.ref p]=>∃ys,(SqL K H p ys\/SqT K H p ys)/\Q (.int ys.length) H
 |_=>False
theorem zkn_ {K:Fgg}{xs:List V}{H:Hp}{Q:VK}(h:mLen K xs H Q):(∃z,xs=[.str z]/\z.cps.toList.length<=lL/\Q (.int z.cps.toList.length) H)\/∃p ys,xs=[.ref p]/\(SqL K H p ys\/SqT K H p ys)/\Q (.int ys.length) H:=by
 rcases xs with _ |⟨x,_ |⟨y,t⟩⟩
 ·exact mi h
 ·cases x with
  |str z=>exact .inl ⟨z,rfl,h⟩
  |ref p=>obtain⟨ys,h⟩:=h;exact .inr ⟨p,ys,rfl,h⟩
  |_=>exact mi h
 ·cases x<;>exact mi h
theorem zii_:CallR X (.builtin "len") (mLen X.K):=by
 intro pins s σ H xs us Q I r h;rcases zkn_ h with⟨z,rfl,h⟩|⟨p,ys,rfl,h1,h2⟩
 ·exact zdL_ pins s σ H _ us Q I r ⟨_,rfl,by simpa [nJ]using h.1,by simpa [nJ]using h.2⟩
 ·exact zdC_ pins s σ H _ us Q I r ⟨_,ys,rfl,h1,h2⟩
def mTwo (g:Int->Int->Int):List V->Hp->VK->Prop:=λxs H Q=>match xs with |[.int i,.int j]=>Q (.int (g i j)) H |_=>False
theorem zj1_ {g:Int->Int->Int}{xs:List V}{H:Hp}{Q:VK}(h:mTwo g xs H Q):∃i j,xs=[.int i,.int j]/\Q (.int (g i j)) H:=by
 rcases xs with _ |⟨x,_ |⟨y,_ |⟨w,t⟩⟩⟩
 ·exact mi h
 ·cases x<;>exact mi h
 ·cases x with
  |int i=>cases y with
   |int j=>exact⟨i,j,rfl,h⟩
   |_=>exact mi h
  |_=>exact mi h
 ·cases x with
  |int i=>cases y<;>exact mi h
  |_=>exact mi h
theorem ziC_ (hc:X.calm=vm):CallR X (.builtin "min") (mTwo min):=by
 intro pins s σ H xs us Q I r h;obtain⟨i,j,rfl,h⟩:=zj1_ h;refine ziu_ hc pins s σ H _ us Q I r ⟨i,j,rfl,?_⟩;have e:(if j<i then j else i)=min i j:=by split<;>lia
 rw[e];exact h
def tyS (K:Fgg)(H:Hp):V->String->Prop:=λx T=>match x with
 |.non=>T="NoneType" |.bl _=>T="bool" |.int _=>T="int" |.str _=>T="str"
 |.ref p=>(T="list" /\ ∃xs,H p=vj (.lst xs))\/(T="tuple" /\ ∃xs,H p=vj (.tup xs))
 |_=>False
theorem zrh_ {K:Fgg}{H:Hp}{x:V}{T:String}(h:tyS K H x T):TyOf K H x (.type T):=by
 unfold tyS at h;cases x with
 |non=>subst h;exact .non
 |bl b=>subst h;exact .bl b
 |int i=>subst h;exact .int i
 |str z=>subst h;exact .str z
 |ref p=>
  rcases h with⟨rfl,xs,h⟩|⟨rfl,xs,h⟩
  ·exact .lst h
  ·exact .tup h
 |_=>exact h.elim
noncomputable def isaB (T c:String):Option Bool:=
 if T=c then vj vm else if T="bool" /\ c="int" then vj vm
 else if(T="bool" \/ T="int" \/ T="str" \/ T="list" \/ T="tuple" \/ T="NoneType")/\(c="bool" \/ c="int" \/ c="str" \/ c="list" \/ c="tuple" \/ c="dict")then vj vn else vk
theorem zl9_ {K:Fgg}{T c:String}{b:Bool}(h:isaB T c=vj b):uR K (.type T) (.type c)=vj b:=by
 unfold isaB at h;split at h
 ·rename_i e;subst e;cases h
  unfold uR;rw[if_pos (by simp)]
 ·split at h
  ·rename_i e;obtain⟨rfl,rfl⟩:=e;cases h;rfl
  ·split at h
   ·rename_i h1 h2 e
    cases h;obtain⟨e1,e2⟩:=e;rcases e1 with rfl |rfl |rfl |rfl |rfl |rfl<;>rcases e2 with rfl |rfl |rfl |rfl |rfl |rfl<;>first |rfl |exact absurd rfl h1 |exact absurd ⟨rfl,rfl⟩ h2
   ·cases h
noncomputable def findS (l:List Nat)(t:List Nat):Int:=Txt.find ⟨l.toArray⟩ ⟨t.toArray⟩
def mIndex:V->List V->Hp->VK->Prop:=λx xs H Q=>match x,xs with |.str l,[.str t]=>findS l.cps.toList t.cps.toList ≠ -1/\Q (.int (findS l.cps.toList t.cps.toList)) H |_,_=>False
theorem zks_:MtR X "str.index" mIndex:=by
 intro pins s σ H x xs v us Q I rx rv h;unfold mIndex at h;split at h
 ·rename_i l t
  obtain⟨k,rfl⟩:=rx;obtain⟨u,rfl,ru⟩:=rv.one;obtain⟨k',rfl⟩:=ru;have e:Txt.find l t=findS l.cps.toList t.cps.toList:=by unfold findS;rw[<- zat_,<- zat_]
  rw[<- e]at h;unfold Txt.find at h;cases ho:nM l t 0 l.length 1 with
  |nil=>rw[ho]at h;exact absurd rfl h.1
  |cons i rest=>
   rw[ho]at h;exact SC.index ho ⟨.int _,H,I.tok _,⟨_,rfl⟩,h.2⟩
 ·exact h.elim
noncomputable def strsOf:List V->Option (List Str)
 |[]=>vj []
 |.str z::r=>(strsOf r).map (z::·)
 |_::_=>vk
theorem zf7_ {vs:List V}{zs:List Str}:strsOf vs=vj zs->vs=zs.map V.str:=by
 induction vs generalizing zs with
 |nil=>intro h;cases h;rfl
 |cons v r ih=>
  intro h;cases v with
  |str z=>
   unfold strsOf at h;cases e:strsOf r with
   |none=>rw[e]at h;cases h
   |some y=>rw[e]at h;cases h;rw[ih e];rfl
  |_=>cases h
noncomputable def joinS (sep:List Nat)(zs:List Str):List Nat:=(Txt.join ⟨sep.toArray⟩ zs).cps.toList
def mJoin (K:Fgg):V->List V->Hp->VK->Prop:=λx xs H Q=>match x,xs with
 |.str l,[.ref D]=>∃vs,(SqL K H D vs)/\(match strsOf vs with |some zs=>JoinOk l zs=vm/\Q (tx (joinS l.cps.toList zs)) H |none=>False)
 |_,_=>False
theorem zeB_:∀{zs:List Str}{us:List aV},Vals (zs.map V.str) us->∃l:List (Str×Tok),us=strValues l/\l.map (·.1)=zs
 |[],us,r=>by cases r;exact⟨[],rfl,rfl⟩
 |z::zs,us,r=>by
  cases r with
  |cons r rr=>
   obtain⟨t,rfl⟩:=r;obtain⟨l,rfl,hl⟩:=zeB_ rr;exact⟨(z,t)::l,rfl,by rw[lB,hl]⟩
theorem zhV_ {K:Fgg}{x:V}{xs:List V}{H:Hp}{Q:VK}(h:mJoin K x xs H Q):∃l D,x=.str l/\xs=[.ref D]/\∃vs,(SqL K H D vs)/\(match strsOf vs with |some zs=>JoinOk l zs=vm/\Q (tx (joinS l.cps.toList zs)) H |none=>False):=by
 cases x with
 |str l=>
  rcases xs with _ |⟨y,_ |⟨z,t⟩⟩
  ·exact mi h
  ·cases y with
   |ref t=>exact⟨l,t,rfl,rfl,h⟩
   |_=>exact mi h
  ·cases y<;>exact mi h
 |_=>exact mi h
theorem znu_:MtR X "str.join" (mJoin X.K):=by
 intro pins s σ H x xs v us Q I rx rv h;obtain⟨l,D,rfl,rfl,h⟩:=zhV_ h
 ·obtain⟨k,rfl⟩:=rx
  obtain⟨u,rfl,ru⟩:=rv.one;cases ru;obtain⟨vs,hs,h⟩:=h;cases ez:strsOf vs with
  |none=>rw[ez]at h;exact h.elim
  |some zs=>
   rw[ez]at h;have ev:=zf7_ ez;subst ev;obtain⟨aa,r,p,hz⟩:=I.list hs;obtain⟨lz,e1,e2⟩:=zeB_ r;subst e1;refine SC.join p.isList e2 h.1 λt' k'=>⟨tx (joinS l.cps.toList zs),H,I.tok _,⟨t',?_⟩,h.2⟩
   unfold joinS;rw[<- zat_,<- zat_]
end
theorem zk8_ (zs:List Str):joinS [] zs=(zs.map λz=>z.cps.toList).flatten:=by
 unfold joinS Txt.join vh;cases zs with
 |nil=>rfl
 |cons z r=>
  show((r.foldl (λacc p=>acc++#[]++p.cps) z.cps)).toList=_
  have:∀(acc:Array Nat),(r.foldl (λacc p=>acc++#[]++p.cps) acc).toList=acc.toList++(r.map λz=>z.cps.toList).flatten:=by
   induction r with
   |nil=>intro acc;simp
   |cons y r ih=>intro acc;rw[pP,ih];simp
  rw[this];simp
def Gd (P:l5)(w:mx)(K:Fgg)(mg:Str->Option aV)(base:Heap)(CX:CXT)(k:Nat)(x:Str)(ps:List Str)(sp:Sp):Prop:=
 ∃f fd,FnOk P w K mg base CX k f fd ps sp/\mg x=vj (.ref f)/\oQ K (.ref f)=vm/\Binds K fd ps []
def Gc (mg:Str->Option aV)(x:Str)(v:V):Prop:=∃u,mg x=vj u/\RelV v u
abbrev Gb (mg:Str->Option aV)(x:Str):Prop:=mg x=vk
section
variable {X:Cx}{x:Str}{p pos:Pos}{e:lP}{es:List lP}{t:TA}{tg:lP}
theorem pe_gc {v:V}(h:Gc X.mg x v)(hg:Gl X x:=by rfl)(hd:(x==("__debug__":Str))=vn:=by decide):PE X (.Name x pos) (tC v):=by
 obtain⟨u,hm,r⟩:=h;exact znD_ hg hm r hd
theorem pe_ty (T:String)(hm:Gb X.mg x)(hg:Gl X x:=by rfl)(hv:nU x=vj (.type T):=by rfl)(hn:x ≠ "__name__":=by decide)(hd:(x==("__debug__":Str))=vn:=by decide):PE X (.Name x pos) (tC (.ty T)):=
 zmZ_ hg hm hv rfl hn hd
theorem zn7_ {id:String}{r:List V->Hp->VK->Prop}(hc:CallR X (.builtin id) r)(hm:Gb X.mg x)(ha:PA X (e::es) t)(hg:Gl X x:=by rfl)(hv:nU x=vj (.builtin id):=by rfl)(hn:x ≠ "__name__":=by decide)(a_:(x==("__debug__":Str))=vn:=by decide)
  (hs:me (e::es) X.env=(vn,eval e X.env)::me es X.env:=by rfl) (aN:(oM pos (me es X.env)).any (·.1)=vn:=by rfl):PE X (.Call (.Name x p) (e::es) [] pos) (tCB r t):=
 zkt_ hc hg hm hv ha hn a_ hs aN
theorem zqg_ {o:lP}{to:TE}{name:Str}{id:String}{r:V->List V->Hp->VK->Prop}{apos ak:Pos}(slot:Slot "str" name id)(eE:typeOf (.builtin id)=pure (.type "method_descriptor"))(hm:MtR X id r)(ho:PE X o to)(ha:PA X (e::es) t)
  (h1:attributeBase o name X.env (eval o X.env)=eval o X.env:=by rfl) (h2:((((oM ak (me (e::es) X.env)).all λx=>!x.fst) && (rD ak (p8 [] X.env)).all λx=>x.fst.isSome) && decide (((e::es).length+([]:List Keyword).length+if([]:List Keyword).isEmpty=vm then 0 else 1)<30))=vm:=by rfl)
  (h3:(apos.endLine == ak.line)=vm:=by rfl) (h4:me (e::es) X.env=(vn,eval e X.env)::me es X.env:=by rfl) (h5:((oM ak (me es X.env)).any λx=>x.fst)=vn:=by rfl):
  PE X (.Call (.Attribute o name apos) (e::es) [] ak) (tBM X.K "str" r to t):=zqA_ PySem.F.plainAttrs_str slot eE hm ho ha h1 h2 h3 h4 h5
def iAny (K:Fgg)(tl:TE):TI:=λσ H R=>tl σ H λx H1=>match x with
 |.str z=>R (Itp z.cps.toList.length (λi=>tx [z.cps.toList.getD i 0])) H1
 |.ref a=>((∃xs,SqL K H1 a xs)/\R (Itl K a) H1)\/((∃xs,SqT K H1 a xs)/\R (Itt K a) H1)
 |_=>False
theorem zlp_ (z:Str):sgn z=λi=>tx [z.cps.toList.getD i 0]:=by
 funext i;unfold sgn;simp[m6,lZ]
theorem zoU_ {l:lP}{tl:TE}(hl:PE X l tl):PI X tg l (iAny X.K tl):=by
 intro pins s σ H R I h;refine thn (hl pins s σ H _ I h) λv s1 af=>?_
 obtain⟨x,H1,I1,r1,q1⟩:=af;have pt:∀(v:V),PE X l (tC v)->PE X l (tC v):=λ_ h=>h
 cases x with
 |str z=>
  obtain⟨t,rfl⟩:=r1;refine wpAny_pyIter_strU ?_;have q:R (Itp z.cps.size (sgn z)) H1:=by
   have e:z.cps.toList.length=z.cps.size:=by simp
   rw[zlp_,<- e];exact q1
  refine⟨s1.heap.objs.size,[s1.heap.objs.size],_,_,H1,rfl,I1.kept (t':=s1.toks) λb o e=>lp _ e,zj3_ _ z t,⟨mq _,⟨_,lN _ rfl,rfl,rfl⟩⟩,λb hb=>?_,q⟩
  have e:b=s1.heap.objs.size:=by simpa using hb
  subst e;exact I1.fpOk (lC _) (I1.hok.fresh (lC _))
 |ref a=>
  cases r1;rcases q1 with⟨⟨xs,hq⟩,q⟩|⟨⟨xs,hq⟩,q⟩
  ·obtain⟨aa,rv,p,hz⟩:=I1.list hq
   refine wpAny_pyIter_list p.isList ?_;refine⟨s1.heap.objs.size,[s1.heap.objs.size],_,_,H1,rfl,I1.kept (t':=s1.toks) λb o e=>lp _ e,ziD_ a _,⟨_,lN _ rfl,rfl,rfl⟩,λb hb=>?_,q⟩
   have e:b=s1.heap.objs.size:=by simpa using hb
   subst e;exact I1.fpOk (lC _) (I1.hok.fresh (lC _))
  ·obtain⟨aa,rv,p,hz⟩:=I1.tuple hq
   refine wpAny_pyIter_tuple (show s1.heap.IsTuple a aa.toArray from p) ?_
   refine⟨s1.heap.objs.size,[s1.heap.objs.size],_,_,H1,rfl,I1.kept (t':=s1.toks) λb o e=>lp _ e,zgv_ a _,⟨_,lN _ rfl,rfl,rfl⟩,λb hb=>?_,q⟩
   have e:b=s1.heap.objs.size:=by simpa using hb
   subst e;exact I1.fpOk (lC _) (I1.hok.fresh (lC _))
 |_=>exact q1.elim
def mRng1 (ta:TA):TI:=λσ H R=>ta σ H λvs H1=>match vs with |[.int j] => -(2 ^ 62)<=j/\j<2 ^ 62/\R (Itr 0 j.toNat) H1 |_=>False
def mRng2 (ta:TA):TI:=λσ H R=>ta σ H λvs H1=>match vs with |[.int i,.int j]=>(-(2 ^ 62)<=i/\i<2 ^ 62 /\ -(2 ^ 62)<=j/\j<2 ^ 62)/\R (Itr i (j-i).toNat) H1 |_=>False
end
section
variable {X:Cx}{tg:lP}
theorem zkr_ {a:lP}{ta:TA}{p pos:Pos}(hm:Gb X.mg "range")(ha:PA X [a] ta)(hg:Gl X "range":=by rfl)(hs:me [a] X.env=[(vn,eval a X.env)]:=by rfl):PI X tg (.Call (.Name "range" p) [a] [] pos) (mRng1 ta):=by
 intro pins s σ H R I h;refine Call_ (zc2_ I hg hm boot_range (nv (thn (ha pos pins s σ H _ I h) λus s1 af=>?_) hs rfl))
 obtain⟨vs,H1,I1,r1,q1⟩:=af
 try dsimp only at q1
 split at q1
 ·obtain⟨q2,q3,q⟩:=q1
  cases r1 with
  |cons r rr=>
   cases rr;obtain⟨t,rfl⟩:=r;exact call_range_1 (zfJ_ I1 (by lia) (by lia) q2 q3 (by simpa using q))
 ·exact q1.elim
theorem zjt_ {a b:lP}{ta:TA}{p pos:Pos}(hm:Gb X.mg "range")(ha:PA X [a,b] ta)(hg:Gl X "range":=by rfl)(hs:me [a,b] X.env=[(vn,eval a X.env),(vn,eval b X.env)]:=by rfl)(aR:me [b] X.env=[(vn,eval b X.env)]:=by rfl):
  PI X tg (.Call (.Name "range" p) [a,b] [] pos) (mRng2 ta):=by
 intro pins s σ H R I h;refine Call_ (zc2_ I hg hm boot_range (nv (thn (ha pos pins s σ H _ I h) λus s1 af=>?_) (by rw[hs,aR]) (by rw[aR];rfl)))
 obtain⟨vs,H1,I1,r1,q1⟩:=af
 try dsimp only at q1
 split at q1
 ·obtain⟨⟨q1,q2,q3,q4⟩,q⟩:=q1
  cases r1 with
  |cons r rr=>
   cases rr with
   |cons r' rr=>
    cases rr;obtain⟨t,rfl⟩:=r;obtain⟨t',rfl⟩:=r';exact call_range_2 (zfJ_ I1 q1 q2 q3 q4 q)
 ·exact q1.elim
variable {elts:List lP}{kk:Nat}{cY:Pos}
def iEnum (K:Fgg)(ta:TA):TI:=λσ H R=>ta σ H λvs H1=>match vs with
 |[.str z]=>R (Ites z.cps.toList.length (λi=>tx [z.cps.toList.getD i 0])) H1
 |[.ref a]=>(∃xs,SqL K H1 a xs)/\R (Ite K a) H1
 |_=>False
theorem zoy_ {a:lP}{ta:TA}{p pos:Pos}(hm:Gb X.mg "enumerate")(ha:PA X [a] ta)(hg:Gl X "enumerate":=by rfl)(hs:me [a] X.env=[(vn,eval a X.env)]:=by rfl):
  PI X (.Tuple elts kk cY) (.Call (.Name "enumerate" p) [a] [] pos) (iEnum X.K ta):=by
 intro pins s σ H R I h;refine Call_ (zc2_ I hg hm (u:=.type "enumerate") (by rfl) (nv (thn (ha pos pins s σ H _ I h) λus s1 af=>?_) hs rfl))
 obtain⟨vs,H1,I1,r1,q1⟩:=af
 try dsimp only at q1
 split at q1
 ·rename_i z
  cases r1 with
  |cons r rr=>
   cases rr;obtain⟨t,rfl⟩:=r;refine call_enumerate_str λh' he hit hsz hk=>?_
   refine wpAny_pyIter_enum (s:={s1 with heap:=h'}) he ?_;have I2:Inv X pins σ H1 {s1 with heap:=h'}:=I1.kept (t':=s1.toks) hk;have q:R (Ites z.cps.size (sgn z)) H1:=by
    have e:z.cps.toList.length=z.cps.size:=by simp
    rw[zlp_,<- e];exact q1
   refine⟨s1.heap.objs.size+1,[s1.heap.objs.size+1,s1.heap.objs.size],_,_,H1,rfl,I2,zfG_ _ _ z t (by simp),⟨⟨_,he⟩,mq _,hit⟩,λb hb=>?_,q⟩
   have dy:s1.heap.objs.size<=b:=by
    rcases lQ.mp hb with rfl |hb
    ·exact oF _
    ·have e:b=s1.heap.objs.size:=by simpa using hb
     subst e;exact lC _
   exact I1.fpOk dy (I1.hok.fresh dy)
 ·rename_i l
  obtain⟨⟨xs,hq⟩,q⟩:=q1;cases r1 with
  |cons r rr=>
   cases rr;cases r;obtain⟨aa,rv,p,hz⟩:=I1.list hq;refine call_enumerate_list p.isList λh' he hit hsz hk=>?_
   refine wpAny_pyIter_enum (s:={s1 with heap:=h'}) he ?_;have I2:Inv X pins σ H1 {s1 with heap:=h'}:=I1.kept (t':=s1.toks) hk;refine⟨s1.heap.objs.size+1,[s1.heap.objs.size+1,s1.heap.objs.size],_,_,H1,rfl,I2,zgV_ _ _ l (by simp),⟨⟨_,he⟩,hit⟩,λb hb=>?_,q⟩
   have dy:s1.heap.objs.size<=b:=by
    rcases lQ.mp hb with rfl |hb
    ·exact oF _
    ·have e:b=s1.heap.objs.size:=by simpa using hb
     subst e;exact lC _
   exact I1.fpOk dy (I1.hok.fresh dy)
 ·exact q1.elim
def gNilM:TGs:=λvs σ H Q=>match vs with |[]=>Q σ H |_=>False
def gConsM (t:TG)(u:TGs):TGs:=λvs σ H Q=>match vs with |v::r=>t v σ H λah H'=>u r ah H' Q |[]=>False
theorem zka_:PGs X [] gNilM:=by
 intro pins s σ H vs us Q I r h;cases vs with
 |nil=>exact znA_ pins s σ H [] us Q I r ⟨rfl,h⟩
 |cons _ _=>exact h.elim
theorem zio_ {e:lP}{es:List lP}{t:TG}{u:TGs}(h1:PG X e t)(h2:PGs X es u)
  (hs:(nI (e::es) X.env).map (·.2)=assign e X.env::(nI es X.env).map (·.2):=by rfl):PGs X (e::es) (gConsM t u):=by
 intro pins s σ H vs us Q I r h;cases vs with
 |nil=>exact h.elim
 |cons v vr=>exact zke_ h1 h2 hs pins s σ H _ us Q I r ⟨v,vr,rfl,h⟩
def gTupM (K:Fgg)(n:Nat)(t:TGs):TG:=λv σ H Q=>match v with |.ref a=>∃xs,SqT K H a xs/\xs.length=n/\t xs σ H Q |_=>False
theorem znR_ {es:List lP}{k:Nat}{t:TGs}{n:Nat}{pos:Pos}(hc:X.calm=vm)(h:PGs X es t)
  (hn:(nI es X.env).length=n:=by rfl) (gE:(nI es X.env).findIdx? (·.1)=vk:=by rfl):PG X (.Tuple es k pos) (gTupM X.K n t):=by
 intro pins s σ H v u Q I r hw;cases v with
 |ref a=>
  obtain⟨xs,h1,h2,h3⟩:=hw;exact zp2_ hc h hn gE pins s σ H _ u Q I r ⟨a,xs,rfl,h1,h2,h3⟩
 |_=>exact hw.elim
def mNeg (ta:TE):TE:=λσ H Q=>ta σ H λx H1=>match x with |.int i=>Q (.int (-i)) H1 |_=>False
theorem zrj_ {a:lP}{ta:TE}{pos:Pos}(ha:PE X a ta):PE X (.UnaryOp .USub a pos) (mNeg ta):=by
 intro pins s σ H Q I h;refine UnaryOp_ (thn (ha pins s σ H _ I h) λv s1 af=>?_)
 obtain⟨x,H1,I1,r1,q1⟩:=af;cases x with
 |int i=>exact zoX_ pins s1 σ H1 _ v Q I1 r1 ⟨i,rfl,q1⟩
 |_=>exact q1.elim
end
theorem zU_ {H:Hp}{p:lE}(h:H p=vk)(o:HO):Same H (upd H p o):=λb u q=>by rw[zd_ (ze_ q h)];exact q
theorem zaT_ {n:Nat}(h:n<=100000):n<=lL:=by rw[sizeLine_eq];lia
theorem zdF_ {zs:List Str}{sep:Str}(h:zs.length*(sep.length+1)<=100000)(h1:∀z∈zs,z.length<=1):JoinOk sep zs=vm:=by
 unfold JoinOk;have key:∀(l:List Str) (acc:Nat),(∀z∈l,z.length<=1)->l.foldl (λx1 x2=>x1+x2.length+sep.length) acc<=acc+l.length*(sep.length+1):=by
  intro l;induction l with
  |nil=>intro acc _;simp
  |cons z r ih=>
   intro acc hz;rw[pP];have h2:=ih (acc+z.length+sep.length) λy hy=>hz y (lV _ hy)
   have h3:=hz z lW;rw[lG,Nat.add_mul];omega
 have q:=key zs 0 h1;rw[List.foldl_toArray];unfold qg;simp only[qv,decide_eq_false_iff_not];have:zs.foldl (λx1 x2=>x1+x2.length+sep.length) 0<=100000:=by omega
 have hl:(100000:Nat)<=lL:=by rw[sizeLine_eq];omega
 omega
section
variable {X:Cx}
def mSet:TSet:=λo i v H Q=>match i with
 |.int k=>(match o with
  |.ref p=>∃xs,H p=vj (.lst xs)/\(match ixN xs.length k with |some j=>Q (upd H p (.lst (xs.set j v)))|none=>False)
  |_=>False)
 |_=>False
theorem set_M:PSet X mSet:=by
 intro pins s σ H o i v ov iv u Q I ro ri rv h;unfold mSet at h;cases i with
 |int k=>
  cases o with
  |ref p=>
   obtain⟨xs,h1,h⟩:=h;cases e:ixN xs.length k with
   |none=>rw[e]at h;exact h.elim
   |some j=>
    rw[e]at h;exact zlb_ pins s σ H _ _ v ov iv u Q I ro ri rv ⟨p,xs,k,j,rfl,rfl,h1,e,h⟩
  |_=>exact h.elim
 |_=>exact h.elim
noncomputable def strI (i:Int):List Nat:=(oG (toString i)).cps.toList
def mStr:List V->Hp->VK->Prop:=λxs H Q=>match xs with |[.int i]=>i.natAbs.log2<1920/\Q (tx (strI i)) H |_=>False
theorem zim_:CallR X (.type "str") mStr:=by
 intro pins s σ H xs us Q I r h;unfold mStr at h;split at h
 ·rename_i i
  refine zd4_ pins s σ H _ us Q I r ⟨i,rfl,h.1,?_⟩;have e:tx (strI i)=V.str (oG (toString i)):=by unfold strI tx;rw[<- zat_]
  rw[<- e];exact h.2
 ·exact h.elim
def mZfill:V->List V->Hp->VK->Prop:=λx xs H Q=>match x,xs with |.str l,[.int i]=>PadOk i=vm/\Q (tx (Txt.zfill l i).cps.toList) H |_,_=>False
theorem zk4_:MtR X "str.zfill" mZfill:=by
 intro pins s σ H x xs v us Q I rx rv h;have hi:∃l i,x=.str l/\xs=[.int i]/\PadOk i=vm/\Q (tx (Txt.zfill l i).cps.toList) H:=by
  cases x with
  |str l=>
   rcases xs with _ |⟨y,_ |⟨z,t⟩⟩
   ·exact mi h
   ·cases y with
    |int t=>exact⟨l,t,rfl,rfl,h⟩
    |_=>exact mi h
   ·cases y<;>exact mi h
  |_=>exact mi h
 obtain⟨l,i,rfl,rfl,h⟩:=hi;obtain⟨k,rfl⟩:=rx;obtain⟨u,rfl,ru⟩:=rv.one;obtain⟨k',rfl⟩:=ru;exact SC.zfill h.1 λt' k=>⟨tx (Txt.zfill l i).cps.toList,H,I.tok _,⟨t',by rw[<- zat_]⟩,h.2⟩
variable {x:Str}{p pos:Pos}{e:lP}{es:List lP}{t:TA}
theorem zoH_ (T:String){r:List V->Hp->VK->Prop}(hc:CallR X (.type T) r)(hm:Gb X.mg x)(ha:PA X (e::es) t)(hg:Gl X x:=by rfl)(hv:nU x=vj (.type T):=by rfl)(hn:x ≠ "__name__":=by decide)(a_:(x==("__debug__":Str))=vn:=by decide)
  (hs:me (e::es) X.env=(vn,eval e X.env)::me es X.env:=by rfl) (aN:(oM pos (me es X.env)).any (·.1)=vn:=by rfl):PE X (.Call (.Name x p) (e::es) [] pos) (tCB r t):=
 zid_ hc hg hm hv ha hn a_ hs aN
end
theorem zeZ_ {i:Int}(h0 : -1000<=i)(h1:i<=1000):PadOk i=vm:=by
 unfold PadOk fitsSsize qg;have h3:(100000:Nat)<=lL:=by rw[sizeLine_eq];lia
 simp only[lj,qv,decide_eq_true_eq,decide_eq_false_iff_not,Bool.or_eq_false_iff];lia
noncomputable def digs:Nat->Nat->List Nat
 |0,_=>[]
 |w+1,n=>digs w (n / 10)++[48+n % 10]
theorem zcp_:∀(w n:Nat),(digs w n).length=w
 |0,_=>rfl
 |w+1,n=>by rw[digs,lF,zcp_ w];rfl
theorem zeC_:∀(w:Nat),digs w 0=lR w 48
 |0=>rfl
 |w+1=>by rw[digs,zeC_ w,List.replicate_succ']
theorem zd9_:∀(w n:Nat),digs w (n % 10 ^ w)=digs w n
 |0,_=>rfl
 |w+1,n=>by
  rw[digs,digs];have e1:n % 10 ^ (w+1) % 10=n % 10:=by
   rw[pS,Nat.mod_mul_left_mod]
  have e2:n % 10 ^ (w+1) / 10=n / 10 % 10 ^ w:=by
   rw[pS,Nat.mod_mul_left_div_self]
  rw[e1,e2,zd9_ w]
def dg (m:Nat):List Nat:=(qY 10 m).map Char.toNat
theorem zec_ (m:Nat):strI (m:Int)=dg m:=W.KIN.signs_num m
theorem zc8_:∀d:Nat,d<10->(rL d).toNat=48+d:=by decide
theorem dg_lt {m:Nat}(h:m<10):dg m=[48+m]:=by
 unfold dg;rw[qI h];show[(rL m).toNat]=_
 rw[zc8_ m h]
theorem dg_ge {m:Nat}(h:¬m<10):dg m=dg (m / 10)++[48+m % 10]:=by
 unfold dg;have hm:m % 10<10:=tM m (by decide)
 have t:qY 10 (m / 10)++qY 10 (m % 10)=qY 10 (10*(m / 10)+m % 10):=Nat.toDigits_append_toDigits (by decide) (by lia) hm
 rw[rm]at t;rw[<- t,ng,qI hm];show _++[(rL (m % 10)).toNat]=_
 rw[zc8_ _ hm]
theorem zlB_:∀(w m:Nat),m<10 ^ (w+1)->(dg m).length<=w+1/\lR (w+1-(dg m).length) 48++dg m=digs (w+1) m
 |w,m,h=>by
  by_cases hm:m<10
  ·rw[dg_lt hm]
   refine⟨by show 1<=w+1;lia,?_⟩
   rw[digs,show m / 10=0 by lia,zeC_,show m % 10=m by lia]
   rfl
  ·cases w with
   |zero=>exact absurd h (by simpa using hm)
   |succ w=>
    have hd:m / 10<10 ^ (w+1):=by
     rw[pW (by decide)]
     rw[pS]at h;exact h
    obtain⟨h1,h2⟩:=zlB_ w (m / 10) hd;rw[dg_ge hm];refine⟨by rw[lF];show _+1<=_;lia,?_⟩
    have e:digs (w+1+1) m=digs (w+1) (m / 10)++[48+m % 10]:=rfl;rw[e,<- h2,nC,lF];have e2:w+1+1-((dg (m / 10)).length+[48+m % 10].length)=w+1-(dg (m / 10)).length:=by
     show w+1+1-((dg (m / 10)).length+1)=_
     lia
    rw[e2]
theorem znc_ (m:Nat):∃c r,dg m=c::r/\48<=c:=by
 induction m using Nat.strongRecOn with
 |_ m ih=>
  by_cases h:m<10
  ·exact⟨48+m,[],dg_lt h,by lia⟩
  ·obtain⟨c,r,e,hc⟩:=ih (m / 10) (by lia)
   exact⟨c,r++[48+m % 10],by rw[dg_ge h,e];rfl,hc⟩
theorem zb5_ {w m:Nat}(hw:1<=w)(h:m<10 ^ w):(Txt.zfill ⟨(dg m).toArray⟩ (w:Int)).cps.toList=digs w m:=by
 obtain⟨w',rfl⟩:∃w',w=w'+1:=⟨w-1,by lia⟩
 obtain⟨h1,h2⟩:=zlB_ w' m h;have hl:(⟨(dg m).toArray⟩:Str).length=(dg m).length:=by simp[nJ]
 unfold Txt.zfill;rw[hl];by_cases he:((w'+1:Nat):Int)<=((dg m).length:Int)
 ·rw[if_pos he]
  have e:(dg m).length=w'+1:=by lia
  rw[<- h2,e,qZ];simp
 ·rw[if_neg he]
  obtain⟨c,r,ec,hc⟩:=znc_ m;have e:zfilled ⟨(dg m).toArray⟩ ((((w'+1:Nat):Int)).toNat-(dg m).length)=rV ⟨(dg m).toArray⟩ ((((w'+1:Nat):Int)).toNat-(dg m).length) 0 48:=by
   unfold zfilled;have e0:((⟨(dg m).toArray⟩:Str).cps)[0]?=vj c:=by rw[ec];simp
   rw[e0];split
   ·rename_i h';cases h';lia
   ·rename_i h';cases h';lia
   ·rfl
  rw[e];unfold rV;rw[<- h2];simp
theorem zbM_:∀(j n:Nat),digs (j+1) n=(48+n / 10 ^ j % 10)::digs j n
 |0,n=>by simp[digs]
 |j+1,n=>by
  have e:digs (j+1+1) n=digs (j+1) (n / 10)++[48+n % 10]:=rfl;rw[e,zbM_ j (n / 10),Nat.div_div_eq_div_mul];have e2:10*10 ^ j=10 ^ (j+1):=by rw[pS,so]
  rw[e2];rfl
section
end
def DAt (dx:lE)(fs:List (Str×V))(h:Heap):Prop:=∃mA,h.Ns1 dx mA/\(∀f,RelO (fs.lookup f) (mA f))/\qR mA (fs.map (·.1))
abbrev XDO (dx:lE)(fs:List (Str×V)):HO:=.ext (DAt dx fs)
section
end
def gA (K:Fgg)(x:Str):lE:=match nH K lU x with |some (vj (.ref c))=>c |_=>0
theorem zmf_ {K:Fgg}{x:Str}{c:lE}(h:nH K lU x=vj (vj (.ref c))):gA K x=c:=by unfold gA;rw[h]
section
end
end L2
namespace LX
open PySem PySem.W PySem.Calls PyProof.Rows Builtin Builtin.ObjectAttr Builtin.Getset_descriptor
section
end
end LX
namespace L2
open PySem PySem.Spec PyProof.Rows
section
variable {X:Cx}
def mAll (K:Fgg):List V->Hp->VK->Prop:=λxs H Q=>match xs with |[.ref p]=>∃bs:List Bool,SqL K H p (bs.map V.bl)/\Q (.bl (bs.all id)) H |_=>False
theorem zdf_:∀{bs:List Bool}{us:List aV},Vals (bs.map V.bl) us->us=bs.map pq
 |[],_,.nil=>rfl
 |b::bs,_,.cons r t=>by rw[zdf_ t];cases r;rfl
theorem ze6_ {P:l5}{w:mx}{A:my}{bs:List Bool}:TruthOf P w A (λi v=>(bs.map pq).toArray[i]?=vj v) (λi=>bs.getD i vn):=by
 intro i v s Q E h q;have h':(bs.map pq)[i]?=vj v:=by simpa using h
 rw[lK]at h';cases e:bs[i]? with
 |none=>rw[e]at h';cases h'
 |some b=>
  rw[e]at h';cases h';have:bs.getD i vn=b:=by rw[lZ,e];rfl
  have q:Q (bs.getD i vn) s:=q;rw[this]at q;exact mr q
theorem zcw_ (bs:List Bool):(mj bs.length).all (λi=>bs.getD i vn)=bs.all id:=by
 rw[Bool.eq_iff_iff,mG,mG];constructor
 ·intro h b hb
  obtain⟨i,hi,e⟩:=qh hb;have:=h i (mV.mpr hi);rw[lZ,lA hi]at this;rw[<- e];exact this
 ·intro h i hi
  have hi:=mV.mp hi;rw[lZ,lA hi];exact h _ (pC hi)
theorem zia_ (hc:X.calm=vm):CallR X (.builtin "all") (mAll X.K):=by
 intro pins s σ H xs us Q I r h;unfold mAll at h;split at h
 ·rename_i p
  obtain⟨bs,hS,q⟩:=h;obtain⟨u,rfl,rx⟩:=vals1 r;cases rx;obtain⟨aa,rv,pl,hz⟩:=I.list hS;rw[zdf_ rv]at pl;have hp:=lH pl.isList.choose_spec.1;have bW:p≠s.heap.objs.size:=l0 hp;refine call_all_walk (wpAny_pyIter_list pl.isList ⟨_,_,_,_,_,_,_,rfl,Walks.list (A:=X.A.in1) (I.ok.hd hc) _ p bW (bs.map pq).toArray,⟨⟨_,lN _ rfl,rfl,rfl⟩,pl.isList.at λo e=>lp _ e⟩,ze6_,λh' tk kk=>?_⟩)
  refine⟨.bl (bs.all id),H,I.kept (t':=tk) λb o e=>kk b o (by simpa using l0 (lH e)) (lp _ e),?_,q⟩
  show pq _=_
  rw[lD,lq,zcw_]
 ·exact h.elim
def mRange:List V->Hp->VK->Prop:=λxs H Q=>match xs with
 |[.int j]=>∀p,H p=vk->Q (.ref p) (upd H p (.rng 0 j))
 |[.int i,.int j]=>∀p,H p=vk->Q (.ref p) (upd H p (.rng i j))
 |_=>False
theorem zfe_:CallR X (.type "range") mRange:=by
 intro pins s σ H xs us Q I r h;unfold mRange at h;split at h
 ·rename_i j
  obtain⟨u,rfl,t,rfl⟩:=vals1 r;refine call_range_1 ⟨.ref s.heap.objs.size,_,I.laid (o:=.rng 0 j) (λb ob q=>lp _ q) (lC _) ?_,rfl,h _ (I.hok.fresh (lC _))⟩
  exact⟨_,_,_,lN _ rfl⟩
 ·rename_i i j
  obtain⟨u,u',rfl,⟨t,rfl⟩,⟨t',rfl⟩⟩:=vals2 r;refine call_range_2 ⟨.ref s.heap.objs.size,_,I.laid (o:=.rng i j) (λb ob q=>lp _ q) (lC _) ?_,rfl,h _ (I.hok.fresh (lC _))⟩
  exact⟨_,_,_,lN _ rfl⟩
 ·exact h.elim
noncomputable def intsV (lo hi:Int):List V:=(mj (hi-lo).toNat).map λ(i:Nat)=>V.int (lo+i)
def mList (K:Fgg):List V->Hp->VK->Prop:=λxs H Q=>match xs with
 | [.ref p]=>(∃ys,(SqL K H p ys\/SqT K H p ys)/\∀l,H l=vk->Q (.ref l) (upd H l (.lst ys))) \/
   (∃lo hi,H p=vj (.rng lo hi)/\(-50000<=lo/\lo<=50000 /\ -50000<=hi/\hi<=50000)/\∀l,H l=vk->Q (.ref l) (upd H l (.lst (intsV lo hi))))
 |_=>False
theorem zjB_ {lo:Int}:∀{n:Nat}{us:List aV},us.length=n->(∀(j:Nat) (v:aV),us[j]?=vj v->∃t,v=qF (lo+j) t)->Vals ((mj n).map λ(i:Nat)=>V.int (lo+i)) us
 |n,us,hl,h=>by
  refine paired_of (by rw[lq,mM,hl]) λj x u hx hu=>?_
  rw[lK]at hx;cases e:(mj n)[j]? with
  |none=>rw[e]at hx;cases hx
  |some i=>
   rw[e]at hx;cases hx;have:=lO.mp e;obtain⟨hj,ej⟩:=this;rw[rW]at ej;subst ej;exact h j u hu
 where paired_of:∀{xs:List V}{us:List aV},xs.length=us.length->(∀(j:Nat) x u,xs[j]?=vj x->us[j]?=vj u->RelV x u)->Vals xs us
 |[],[],_,_=>.nil
 |x::xs,u::us,hl,h=>.cons (h 0 x u rfl rfl) (paired_of (nh hl) λj x u a b=>h (j+1) x u a b)
theorem zdi_ (hc:X.calm=vm):CallR X (.type "list") (mList X.K):=by
 intro pins s σ H xs us Q I r h;have hv:∃p,xs=[.ref p]:=by
  rcases xs with _ |⟨y,_ |⟨z,t⟩⟩
  ·exact mi h
  ·cases y with
   |ref p=>exact⟨p,rfl⟩
   |_=>exact mi h
  ·cases y<;>exact mi h
 obtain⟨p,rfl⟩:=hv
 ·rcases h with⟨ys,hq,q⟩|⟨lo,hi,hp,⟨h1,h2,h3,h4⟩,q⟩
  ·exact zd0_ pins s σ H _ us Q I r ⟨p,ys,rfl,hq,q⟩
  ·obtain⟨u,rfl,rx⟩:=vals1 r
   cases rx;obtain⟨t,u,v,e⟩:=I.hok p _ hp;have hn:qG lo hi 1=(((hi-lo).toNat:Nat):Int):=by rw[rangeSize_one];split<;>lia
   refine call_list_range (I.ok.hd hc) e (small_one (by lia) (by lia) (by lia) (by lia)) hn (by lia) λh' tk acc c' kp e' af=>?_
   obtain⟨hs,eU⟩:=af;refine⟨.ref s.heap.objs.size,_,I.laid (o:=.lst (intsV lo hi)) (t':=tk) kp (lC _) ?_,rfl,q _ (I.hok.fresh (lC _))⟩;refine⟨?_,acc.toList,c',zjB_ (by simpa using hs) (λj v hv=>?_),by simpa using e'⟩
   ·unfold intsV;rw[lq,mM];exact zaT_ (by lia)
   ·obtain⟨t,ht⟩:=eU j v (by simpa using hv)
    exact⟨t,by rw[ht];simp⟩
end
inductive EqD (K:Fgg) (H:Hp):Nat->V->V->Bool->Prop
 |flat {x y:V}(hx:flatV x=vm) (hy:flatV y=vm):EqD K H 0 x y (eqV x y)
 |lst {n:Nat}{p q:lE}{xs ys:List V}(e:Nat->Bool) (hp:SqL K H p xs) (hq:SqL K H q ys) (hl:xs.length=ys.length) (h:∀(i:Nat) x y,xs[i]?=vj x->ys[i]?=vj y->EqD K H n x y (e i)):EqD K H (n+1) (.ref p) (.ref q) ((mj xs.length).all e)
 |lstN {n:Nat}{p q:lE}{xs ys:List V}(hp:SqL K H p xs) (hq:SqL K H q ys) (hl:xs.length≠ys.length):EqD K H n (.ref p) (.ref q) vn
 |tup {n:Nat}{p q:lE}{xs ys:List V}(e:Nat->Bool) (hp:SqT K H p xs) (hq:SqT K H q ys) (h:∀(i:Nat) x y,xs[i]?=vj x->ys[i]?=vj y->EqD K H n x y (e i)):EqD K H (n+1) (.ref p) (.ref q) ((mj (min xs.length ys.length)).all e && xs.length == ys.length)
 |lt {n:Nat}{p q:lE}{xs ys:List V}(hp:SqL K H p xs) (hq:SqT K H q ys):EqD K H n (.ref p) (.ref q) vn
 |tl {n:Nat}{p q:lE}{xs ys:List V}(hp:SqT K H p xs) (hq:SqL K H q ys):EqD K H n (.ref p) (.ref q) vn
 |lf {n:Nat}{p:lE}{xs:List V}{y:V}(hp:SqL K H p xs) (hy:flatV y=vm):EqD K H n (.ref p) y vn
 |fl {n:Nat}{p:lE}{xs:List V}{y:V}(hp:SqL K H p xs) (hy:flatV y=vm):EqD K H n y (.ref p) vn
 |tf {n:Nat}{p:lE}{xs:List V}{y:V}(hp:SqT K H p xs) (hy:flatV y=vm):EqD K H n (.ref p) y vn
 |ft {n:Nat}{p:lE}{xs:List V}{y:V}(hp:SqT K H p xs) (hy:flatV y=vm):EqD K H n y (.ref p) vn
 |up {n:Nat}{x y:V}{b:Bool}(h:EqD K H n x y b):EqD K H (n+1) x y b
section
variable {X:Cx}{pins:Pnn}{σ:St}{H:Hp}{s:lu}
theorem zbB_ {xs:List V}{us:List aV}(r:Vals xs us){i:Nat}(h:i<us.toArray.size):∃x,xs[i]?=vj x/\RelV x us.toArray[i]:=by
 have hi:i<us.length:=by simpa using h
 have hl:=r.length;obtain⟨u,hu,ru⟩:=r.get (lA (show i<xs.length by lia))
 refine⟨_,lA (by lia),?_⟩
 rw[lA hi]at hu;cases hu
 simpa using ru
theorem zgL_ (I:Inv X pins σ H s){n:Nat}{x y:V}{b:Bool}(h:EqD X.K H n x y b):x=y->b=vm:=by
 induction h with
 |flat hx hy=>
  rename_i x y
  rintro rfl;cases x<;>first |(cases hx;done)|(simp[eqV];done)|rfl
 |lst e hp hq hl h ih=>
  rename_i n p q xs ys
  intro e0;cases e0;have dB:=I.list_inj hp hq;subst dB;rw[mG];intro i hi;have hi:=mV.mp hi;exact ih i _ _ (lA hi) (lA hi) rfl
 |lstN hp hq hl=>
  intro e0;cases e0;exact absurd (by rw[I.list_inj hp hq]) hl
 |tup e hp hq h ih=>
  rename_i n p q xs ys
  intro e0;cases e0;have dB:=I.tuple_inj hp hq;subst dB;rw[lj,mG];refine⟨?_,by simp⟩
  intro i hi;have hi:=mV.mp hi;have hi:i<xs.length:=by lia
  exact ih i _ _ (lA hi) (lA hi) rfl
 |lt hp hq=>
  intro e0;cases e0;obtain⟨aa,r1,p1,z1⟩:=I.list hp;obtain⟨ao,r2,p2,z2⟩:=I.tuple hq;exact absurd rfl (q9 p1.isList p2)
 |tl hp hq=>
  intro e0;cases e0;obtain⟨aa,r1,p1,z1⟩:=I.tuple hp;obtain⟨ao,r2,p2,z2⟩:=I.list hq;exact absurd rfl (q9 p2.isList p1)
 |lf hp hy=>rintro rfl;cases hy
 |fl hp hy=>rintro rfl;cases hy
 |tf hp hy=>rintro rfl;cases hy
 |ft hp hy=>rintro rfl;cases hy
 |up h ih=>exact ih
theorem zc4_ (I:Inv X pins σ H s){n:Nat}{x y:V}{b:Bool}(h:EqD X.K H n x y b):∀(A:my) (v u:aV),A.units+n<cLine->RelV x v->RelV y u ->
  rS A s v u b/\(∀p q,x=.ref p->y=.ref q->oV A s v u b):=by
 induction h with
 |flat hx hy=>
  intro A v u _ rx ry;refine⟨znN_ rx ry hx hy,λp q e _=>?_⟩
  subst e;cases hx
 |lst e hp hq hl h ih=>
  rename_i n p q xs ys
  intro A v u hu rx ry;cases rx;cases ry;obtain⟨aa,r1,p1,z1⟩:=I.list hp;obtain⟨ao,r2,p2,z2⟩:=I.list hq;have l1:=r1.length;have l2:=r2.length;have rc:oV A s (.ref p) (.ref q) ((mj xs.length).all e):=by
   have:=SeqAt.RcAt.lists (A:=A) (e:=e) p1.isList p2.isList (by simp only[lD];lia) (by lia) (λj h1 h2=>by
    obtain⟨x,ex,rx⟩:=zbB_ r1 h1;obtain⟨y,ey,ry⟩:=zbB_ r2 h2;exact(ih j x y ex ey A.in1 _ _ (by show A.units+1+n<_;lia) rx ry).1)
   rw[lD,<- l1]at this;exact this
  refine⟨?_,λ_ _ _ _=>rc⟩
  by_cases hpq:p=q
  ·subst hpq
   have dB:=I.list_inj hp hq;subst dB;have:(mj xs.length).all e=vm:=by
    rw[mG];intro i hi;have hi:=mV.mp hi;exact zgL_ I (h i _ _ (lA hi) (lA hi)) rfl
   rw[this];exact rg _
  ·exact .of_refs hpq rc
 |lstN hp hq hl=>
  rename_i n p q xs ys
  intro A v u hu rx ry;cases rx;cases ry;obtain⟨aa,r1,p1,z1⟩:=I.list hp;obtain⟨ao,r2,p2,z2⟩:=I.list hq;have l1:=r1.length;have l2:=r2.length;have rc:oV A s (.ref p) (.ref q) vn:=SeqAt.RcAt.lists_lengths p1.isList p2.isList (by simp only[lD,bne_iff_ne,ne_eq];lia) (by lia)
  refine⟨.of_refs (λe=>?_) rc,λ_ _ _ _=>rc⟩
  subst e;exact hl (by rw[I.list_inj hp hq])
 |tup e hp hq h ih=>
  rename_i n p q xs ys
  intro A v u hu rx ry;cases rx;cases ry;obtain⟨aa,r1,p1,z1⟩:=I.tuple hp;obtain⟨ao,r2,p2,z2⟩:=I.tuple hq;have l1:=r1.length;have l2:=r2.length;have rc:oV A s (.ref p) (.ref q) ((mj (min xs.length ys.length)).all e && xs.length == ys.length):=by
   have:=SeqAt.RcAt.tuples (A:=A) (e:=e) (show s.heap.IsTuple p aa.toArray from p1) (show s.heap.IsTuple q ao.toArray from p2) (by lia) (λj h1 h2=>by
    obtain⟨x,ex,rx⟩:=zbB_ r1 h1;obtain⟨y,ey,ry⟩:=zbB_ r2 h2;exact(ih j x y ex ey A.in1 _ _ (by show A.units+1+n<_;lia) rx ry).1)
   rw[lD,lD,<- l1,<- l2]at this;exact this
  refine⟨?_,λ_ _ _ _=>rc⟩
  by_cases hpq:p=q
  ·subst hpq
   have dB:=I.tuple_inj hp hq;subst dB;have:((mj (min xs.length xs.length)).all e && xs.length == xs.length)=vm:=by
    rw[lj,mG];refine⟨?_,by simp⟩
    intro i hi;have hi:=mV.mp hi;have hi:i<xs.length:=by lia
    exact zgL_ I (h i _ _ (lA hi) (lA hi)) rfl
   rw[this];exact rg _
  ·exact .of_refs hpq rc
 |lt hp hq=>
  intro A v u hu rx ry;cases rx;cases ry;obtain⟨aa,r1,p1,z1⟩:=I.list hp;obtain⟨ao,r2,p2,z2⟩:=I.tuple hq;exact⟨.list_tuple p1.isList p2 (by lia),λ_ _ _ _=>.list_tuple p1.isList p2 (by lia)⟩
 |tl hp hq=>
  intro A v u hu rx ry;cases rx;cases ry;obtain⟨aa,r1,p1,z1⟩:=I.tuple hp;obtain⟨ao,r2,p2,z2⟩:=I.list hq;exact⟨.tuple_list p1 p2.isList (by lia),λ_ _ _ _=>.tuple_list p1 p2.isList (by lia)⟩
 |lf hp hy=>
  rename_i n p xs y
  intro A v u hu rx ry;cases rx;obtain⟨aa,r1,p1,z1⟩:=I.list hp;refine⟨?_,λ_ _ _ e=>by subst e;cases hy⟩
  cases y with
  |non=>cases ry;exact .list_none p1.isList (by lia)
  |bl b=>cases ry;exact .list_bool b p1.isList (by lia)
  |int b=>obtain⟨t,rfl⟩:=ry;exact .list_int b t p1.isList (by lia)
  |str b=>obtain⟨t,rfl⟩:=ry;exact .list_str b t p1.isList (by lia)
  |_=>cases hy
 |fl hp hy=>
  rename_i n p xs y
  intro A v u hu rx ry;cases ry;obtain⟨aa,r1,p1,z1⟩:=I.list hp;refine⟨?_,λ_ _ e _=>by subst e;cases hy⟩
  cases y with
  |non=>cases rx;exact .none_list p1.isList (by lia)
  |bl b=>cases rx;exact .bool_list b p1.isList (by lia)
  |int b=>obtain⟨t,rfl⟩:=rx;exact .int_list b t p1.isList (by lia)
  |str b=>obtain⟨t,rfl⟩:=rx;exact .str_list b t p1.isList (by lia)
  |_=>cases hy
 |tf hp hy=>
  rename_i n p xs y
  intro A v u hu rx ry;cases rx;obtain⟨aa,r1,p1,z1⟩:=I.tuple hp;refine⟨?_,λ_ _ _ e=>by subst e;cases hy⟩
  cases y with
  |non=>cases ry;exact .tuple_none p1 (by lia)
  |bl b=>cases ry;exact .tuple_bool b p1 (by lia)
  |int b=>obtain⟨t,rfl⟩:=ry;exact .tuple_int b t p1 (by lia)
  |str b=>obtain⟨t,rfl⟩:=ry;exact .tuple_str b t p1 (by lia)
  |_=>cases hy
 |ft hp hy=>
  rename_i n p xs y
  intro A v u hu rx ry;cases ry;obtain⟨aa,r1,p1,z1⟩:=I.tuple hp;refine⟨?_,λ_ _ e _=>by subst e;cases hy⟩
  cases y with
  |non=>cases rx;exact .none_tuple p1 (by lia)
  |bl b=>cases rx;exact .bool_tuple b p1 (by lia)
  |int b=>obtain⟨t,rfl⟩:=rx;exact .int_tuple b t p1 (by lia)
  |str b=>obtain⟨t,rfl⟩:=rx;exact .str_tuple b t p1 (by lia)
  |_=>cases hy
 |up h ih=>
  intro A v u hu rx ry;exact ih A v u (by lia) rx ry
theorem zgd_ (I:Inv X pins σ H s){n:Nat}{x y:V}{b:Bool}(h:EqD X.K H n x y b):∀(A:my) (v u:aV),A.units+n<cLine->RelV x v->RelV y u->∀p q,x=.ref p->y=.ref q->pD A s v u (!b):=by
 induction h with
 |flat hx hy=>intro A v u _ rx ry p q e _;subst e;cases hx
 |lst e hp hq hl h ih=>
  rename_i n p q xs ys
  intro A v u hu rx ry _ _ _ _;cases rx;cases ry;obtain⟨aa,r1,p1,z1⟩:=I.list hp;obtain⟨ao,r2,p2,z2⟩:=I.list hq;have l1:=r1.length;have l2:=r2.length;have:=ve (A:=A) (e:=e) p1.isList p2.isList (by simp only[lD];lia) (by lia) (λj h1 h2=>by
   obtain⟨x,ex,rx⟩:=zbB_ r1 h1;obtain⟨y,ey,ry⟩:=zbB_ r2 h2;exact(zc4_ I (h j x y ex ey) A.in1 _ _ (by show A.units+1+n<_;lia) rx ry).1)
  rw[lD,<- l1]at this;exact this
 |lstN hp hq hl=>
  intro A v u hu rx ry _ _ _ _;cases rx;cases ry;obtain⟨aa,r1,p1,z1⟩:=I.list hp;obtain⟨ao,r2,p2,z2⟩:=I.list hq;have l1:=r1.length;have l2:=r2.length;exact tN p1.isList p2.isList (by simp only[lD,bne_iff_ne,ne_eq];lia) (by lia)
 |tup e hp hq h ih=>
  rename_i n p q xs ys
  intro A v u hu rx ry _ _ _ _;cases rx;cases ry;obtain⟨aa,r1,p1,z1⟩:=I.tuple hp;obtain⟨ao,r2,p2,z2⟩:=I.tuple hq;have l1:=r1.length;have l2:=r2.length;have:=vc (A:=A) (e:=e) (show s.heap.IsTuple p aa.toArray from p1) (show s.heap.IsTuple q ao.toArray from p2) (by lia) (λj h1 h2=>by
   obtain⟨x,ex,rx⟩:=zbB_ r1 h1;obtain⟨y,ey,ry⟩:=zbB_ r2 h2;exact(zc4_ I (h j x y ex ey) A.in1 _ _ (by show A.units+1+n<_;lia) rx ry).1)
  rw[lD,lD,<- l1,<- l2]at this;exact this
 |lt hp hq=>
  intro A v u hu rx ry _ _ _ _;cases rx;cases ry;obtain⟨aa,r1,p1,z1⟩:=I.list hp;obtain⟨ao,r2,p2,z2⟩:=I.tuple hq;exact .list_tuple p1.isList p2 (by lia)
 |tl hp hq=>
  intro A v u hu rx ry _ _ _ _;cases rx;cases ry;obtain⟨aa,r1,p1,z1⟩:=I.tuple hp;obtain⟨ao,r2,p2,z2⟩:=I.list hq;exact .tuple_list p1 p2.isList (by lia)
 |lf hp hy=>intro A v u hu rx ry _ _ _ e;subst e;cases hy
 |fl hp hy=>intro A v u hu rx ry _ _ e _;subst e;cases hy
 |tf hp hy=>intro A v u hu rx ry _ _ _ e;subst e;cases hy
 |ft hp hy=>intro A v u hu rx ry _ _ e _;subst e;cases hy
 |up h ih=>intro A v u hu rx ry;exact ih A v u (by lia) rx ry
end
end L2
namespace LX
open PySem Builtin Builtin.Str
section
end
end LX
namespace L2
open PySem PySem.Spec PyProof.Rows
section
variable {X:Cx}{a b c d:lP}{ta tb tc td:TE}{pos:Pos}
def mChain3 (r r' bh:R2)(ta tb tc td:TE):TE:=λσ H Q=>ta σ H λx H1=>tb σ H1 λy H2=>r x y H2 λz H3=>match z with
 |.bl k=>br k (tc σ H3 λw H4=>r' y w H4 λz' H5=>match z' with |.bl k'=>br k' (td σ H5 λw' H6=>bh w w' H6 Q) (Q (.bl vn) H5)|_=>False) (Q (.bl vn) H3)
 |_=>False
theorem zfS_ {op aF aE:CmpOp}{r r' bh:R2}(ho:OpR X (l4 op) r)(aH:OpR X (l4 aF) r')(bz:OpR X (l4 aE) bh)(ha:PE X a ta)(hb:PE X b tb)(hc:PE X c tc)(hd:PE X d td)
  (hm:lastMarks [op,aF,aE] [b,c,d]=vn:=by with_unfolding_all rfl):PE X (.Compare a [op,aF,aE] [b,c,d] pos) (mChain3 r r' bh ta tb tc td):=by
 intro pins s σ H Q I h;refine Compare_chain (thn (ha pins s σ H _ I h) λv s1 ⟨x,H1,I1,r1,q1⟩=>chain_link (thn (hb pins s1 σ H1 _ I1 q1) λu s2 ⟨y,H2,I2,r2,q2⟩=>
  thn (ho pins s2 σ H2 x y v u _ I2 r1 r2 q2) λd s3 ⟨z,H3,I3,r3,q3⟩=>?_)) hm
 cases z with
 |bl k=>
  cases r3;refine mr ?_;cases k with
  |false=>exact ite_ff ⟨.bl vn,H3,I3,rfl,q3.2 rfl⟩
  |true=>
   refine ite_tt (chain_link (thn (hc pins s3 σ H3 _ I3 (q3.1 rfl)) λw' s4 ⟨z',H4,I4,r4,q4⟩=>thn (aH pins s4 σ H4 y z' u w' _ I4 r2 r4 q4) λd' s5 af=>?_))
   obtain⟨z2,H5,I5,r5,q5⟩:=af;cases z2 with
   |bl k2=>
    cases r5;refine mr ?_;cases k2 with
    |false=>exact ite_ff ⟨.bl vn,H5,I5,rfl,q5.2 rfl⟩
    |true=>exact ite_tt (chain_last (thn (hd pins s5 σ H5 _ I5 (q5.1 rfl)) λw2 s6 ⟨z3,H6,I6,r6,q6⟩=>bz pins s6 σ H6 z' z3 w' w2 Q I6 r4 r6 q6))
   |_=>exact q5.elim
 |_=>exact q3.elim
end
section
variable {κ:Type}[DecidableEq κ]
noncomputable def valV (kvs:List (κ×V))(k:κ):Option V:=(kvs.find? λkv=>decide (kv.1=k)).map (·.2)
noncomputable def putK (kvs:List (κ×V))(k:κ)(v:V):List (κ×V):=
 if(kvs.any λkv=>decide (kv.1=k))=vm then kvs.map (λkv=>if kv.1=k then(kv.1,v)else kv)else kvs++[(k,v)]
theorem zdP_ {p:κ×V}{r:List (κ×V)}{k:κ}(e:p.1=k):valV (p::r) k=vj p.2:=by simp[valV,nq,e]
theorem zdM_ {p:κ×V}{r:List (κ×V)}{k:κ}(e:¬p.1=k):valV (p::r) k=valV r k:=by simp[valV,nq,e]
theorem zfR_ (k:κ):∀kvs:List (κ×V),(kvs.any λkv=>decide (kv.1=k))=(valV kvs k).isSome
 |[]=>rfl
 |p::r=>by
  rw[pd];by_cases e:p.1=k
  ·simp only[zdP_ e,decide_eq_true e,Bool.true_or,rX]
  ·rw[zdM_ e,decide_eq_false e,tV];exact zfR_ k r
theorem zaO_ (kvs:List (κ×V))(k:κ)(v:V):(putK kvs k v).length<=kvs.length+1:=by
 unfold putK;split
 ·rw[lq];lia
 ·rw[lF,lG,oX];lia
theorem RelO.isSome_eq {o:Option V}{u:Option aV}(r:RelO o u):o.isSome=u.isSome:=by
 cases o with
 |none=>cases u with
  |none=>rfl
  |some _=>exact(show False from r).elim
 |some _=>cases u with
  |none=>exact(show False from r).elim
  |some _=>rfl
theorem KV.val {kvs:List (κ×V)}{vs:List (κ×aV)}(r:KV kvs vs)(k:κ):RelO (valV kvs k) (valueAt vs k):=by
 unfold KV at r;induction r with
 |nil=>exact m7
 | @cons p q ps qs h t ih=>
  obtain⟨h1,h2⟩:=h;by_cases e:p.1=k
  ·have e':q.1=k:=h1.symm.trans e
   have b:valueAt (q::qs) k=vj q.2:=by simp[valueAt,nq,e']
   rw[zdP_ e,b];exact h2
  ·have e':¬q.1=k:=λz=>e (h1.trans z)
   have b:valueAt (q::qs) k=valueAt qs k:=by simp[valueAt,nq,e']
   rw[zdM_ e,b];exact ih
theorem KV.any {kvs:List (κ×V)}{vs:List (κ×aV)}(r:KV kvs vs)(k:κ):(kvs.any λkv=>decide (kv.1=k))=vs.any λkv=>decide (kv.1=k):=by
 unfold KV at r;induction r with
 |nil=>rfl
 |cons h t ih=>rw[pd,pd,ih,h.1]
theorem KV.repl {kvs:List (κ×V)}{vs:List (κ×aV)}(r:KV kvs vs)(k:κ){y:V}{u:aV}(ry:RelV y u):
  KV (kvs.map λkv=>if kv.1=k then(kv.1,y)else kv) (vs.map λkv=>if kv.1=k then(kv.1,u)else kv):=by
 unfold KV at r ⊢;induction r with
 |nil=>exact .nil
 | @cons p q ps qs h t ih=>
  rw[lB,lB];refine .cons ?_ ih;obtain⟨h1,h2⟩:=h;by_cases e:p.1=k
  ·rw[if_pos e,if_pos (h1.symm.trans e)];exact⟨h1,ry⟩
  ·rw[if_neg e,if_neg (λz=>e (h1.trans z))];exact⟨h1,h2⟩
theorem KV.put {kvs:List (κ×V)}{vs:List (κ×aV)}(r:KV kvs vs)(k:κ){y:V}{u:aV}(ry:RelV y u):KV (putK kvs k y) (stored vs k u):=by
 unfold putK stored;rw[r.any k];by_cases e:(vs.any λkv=>decide (kv.1=k))=vm
 ·rw[if_pos e,if_pos e];exact r.repl k ry
 ·rw[if_neg e,if_neg e];exact Paired.snoc r ⟨rfl,ry⟩
theorem KV.length {kvs:List (κ×V)}{vs:List (κ×aV)}(r:KV kvs vs):kvs.length=vs.length:=Paired.length r
end
theorem zjv_ {P:l5}{w:mx}{k:Key}{u:aV}(r:RelV (kV k) u):(mixKind P w).is k u=vm:=by
 cases k with
 |inl i=>obtain⟨t,e⟩:=(show∃t,u=qF i t from r);subst e;exact zeV_ P w i t
 |inr x=>obtain⟨t,e⟩:=(show∃t,u=pQ x t from r);subst e;exact ze7_ P w x t
theorem zeE_ {P:l5}{w:mx}:∀{ks:List Key}{us:List aV},Vals (ks.map kV) us->ItemsAre (mixKind P w) ks us
 |[],_,r=>by rw[nL]at r;cases r;exact .nil
 |k::ks,_,r=>by
  rw[lB]at r;cases r with
  |cons h t=>exact .cons (zjv_ h) (zeE_ t)
abbrev KT (H:Hp):List (List Key×V)->List (List Key×lE×aV)->Prop:=Paired λp q=>p.1=q.1/\H q.2.1=vj (.tup (p.1.map kV))/\RelV p.2 q.2.2
theorem KT.val {H:Hp}{kvs:List (List Key×V)}{xs:List (List Key×lE×aV)}(r:KT H kvs xs)(k:List Key):RelO (valV kvs k) ((atKey xs k).map (·.2)):=by
 induction r with
 |nil=>exact m7
 | @cons p q ps qs h t ih=>
  obtain⟨h1,_,h2⟩:=h;by_cases e:p.1=k
  ·have e':q.1=k:=h1.symm.trans e
   have b:atKey (q::qs) k=vj q.2:=by simp[atKey,nq,e']
   rw[zdP_ e,b];exact h2
  ·have e':¬q.1=k:=λz=>e (h1.trans z)
   have b:atKey (q::qs) k=atKey qs k:=by simp[atKey,nq,e']
   rw[zdM_ e,b];exact ih
theorem KT.repl {H:Hp}{kvs:List (List Key×V)}{xs:List (List Key×lE×aV)}(r:KT H kvs xs)(k:List Key){y:V}{u:aV}(ry:RelV y u):
  KT H (kvs.map λkv=>if kv.1=k then(kv.1,y)else kv) (xs.map (putAt k u)):=by
 induction r with
 |nil=>exact .nil
 | @cons p q ps qs h t ih=>
  rw[lB,lB];refine .cons ?_ ih;obtain⟨h1,h2,h3⟩:=h;unfold putAt;by_cases e:p.1=k
  ·rw[if_pos e,if_pos (h1.symm.trans e)];exact⟨h1,h2,ry⟩
  ·rw[if_neg e,if_neg (λz=>e (h1.trans z))];exact⟨h1,h2,h3⟩
theorem KT.put {H:Hp}{kvs:List (List Key×V)}{xs:List (List Key×lE×aV)}(r:KT H kvs xs)(k:List Key){b:lE}{y:V}{u:aV}(hb:H b=vj (.tup (k.map kV)))(ry:RelV y u):
  KT H (putK kvs k y) (storedH xs k b u):=by
 have e:(kvs.any λkv=>decide (kv.1=k))=(atKey xs k).isSome:=by
  rw[zfR_,(r.val k).isSome_eq,pT]
 unfold putK storedH;rw[e];by_cases q:(atKey xs k).isSome=vm
 ·rw[if_pos q,if_pos q];exact r.repl k ry
 ·rw[if_neg q,if_neg q];exact Paired.snoc r ⟨rfl,hb,ry⟩
theorem KT.keeps {H H':Hp}{kvs:List (List Key×V)}{xs:List (List Key×lE×aV)}(r:KT H kvs xs)(ht:∀b ys,H b=vj (.tup ys)->H' b=vj (.tup ys)):KT H' kvs xs:=
 Paired.mapP r λ_ _ z=>⟨z.1,ht _ _ z.2.1,z.2.2⟩
section
variable {P:l5}{w:mx}{H:Hp}{h:Heap}{a:lE}
theorem rd_of {u:HO}(ok:HOk P w H h)(e:Rd H a u):ObjOk P w H h a u:=e.ok ok
theorem zit_ {kvs:List (Key×V)}(ok:HOk P w H h)(e:Rd H a (.dK kvs)):kvs.length<=lL/\(a == sysModules)=vn/\∃vs,KV kvs vs/\h.DictOf (mixKind P w) a vs:=
 show ObjOk P w H h a (.dK kvs)from rd_of ok e
theorem znI_ {kvs:List (Key×V)}(ok:HOk P w H h)(e:H a=vj (.dK kvs)):kvs.length<=lL/\(a == sysModules)=vn/\∃vs,KV kvs vs/\h.DictOf (mixKind P w) a vs:=zit_ ok (.inl e)
theorem zgE_ {ks:List Key}(ok:HOk P w H h)(e:H a=vj (.tup (ks.map kV))):(tupleKind (mixKind P w)).is h ks a:=by
 obtain⟨_,aa,r,o,h1,h2,n,h3⟩:=(show ObjOk P w H h a (.tup (ks.map kV))from ok a _ e)
 exact⟨o,aa.toArray,n,h1,h2,h3,by simpa using zeE_ r⟩
theorem zle_ {kvs:List (List Key×V)}(ok:HOk P w H h)(e:Rd H a (.dT kvs)):kvs.length<=lL/\(a == sysModules)=vn /\
  ∃xs,KT H kvs xs/\h.DictOfH (tupleKind (mixKind P w)) a xs:=by
 obtain⟨z,y,xs,r,o,es,ep,h1,h2,h3,h4,h5⟩:=(show ObjOk P w H h a (.dT kvs)from rd_of ok e)
 refine⟨z,y,xs,r,o,es,ep,h1,h2,h3,h4,λx hx=>?_,h5⟩
 have all:∀{l:List (List Key×V)}{m:List (List Key×lE×aV)},KT H l m->∀x∈m,(tupleKind (mixKind P w)).is h x.1 x.2.1:=by
  intro l m q;induction q with
  |nil=>intro x hx;exact nomatch hx
  | @cons p q ps qs hq t ih=>
   intro x hx;rcases lQ.mp hx with e |hx
   ·subst e
    exact zgE_ ok (by rw[<- hq.1];exact hq.2.1)
   ·exact ih x hx
 exact all r x hx
theorem dt_of {kvs:List (List Key×V)}(ok:HOk P w H h)(e:H a=vj (.dT kvs)):kvs.length<=lL/\(a == sysModules)=vn /\
  ∃xs,KT H kvs xs/\h.DictOfH (tupleKind (mixKind P w)) a xs:=zle_ ok (.inl e)
end
def DGet (H:Hp)(a:lE)(y:V)(r:Option V):Prop:=
 (∃kvs k,Rd H a (.dK kvs)/\y=kV k/\r=valV kvs k)\/∃kvs k b,Rd H a (.dT kvs)/\y=.ref b/\H b=vj (.tup (k.map kV))/\r=valV kvs k
def DPut (H:Hp)(a:lE)(y v:V)(H':Hp):Prop:=
 (∃kvs k,H a=vj (.dK kvs)/\y=kV k/\kvs.length<lL/\H'=upd H a (.dK (putK kvs k v))) \/
 ∃kvs k b,H a=vj (.dT kvs)/\y=.ref b/\H b=vj (.tup (k.map kV))/\kvs.length<lL/\H'=upd H a (.dT (putK kvs k v))
theorem DGet.k {H:Hp}{a:lE}{kvs:List (Key×V)}{k:Key}(e:H a=vj (.dK kvs)):DGet H a (kV k) (valV kvs k):=.inl ⟨kvs,k,.inl e,rfl,rfl⟩
theorem DPut.k {H:Hp}{a:lE}{kvs:List (Key×V)}{k:Key}{v:V}(e:H a=vj (.dK kvs))(hl:kvs.length<lL):DPut H a (kV k) v (upd H a (.dK (putK kvs k v))):=.inl ⟨kvs,k,e,rfl,hl,rfl⟩
section
variable {X:Cx}{pins:Pnn}{σ:St}{H:Hp}{s:lu}{a:lE}{y v:V}{u r:aV}{o:Option V}{A:my}{E:aV->lu->Prop}
theorem Inv.big (I:Inv X pins σ H s):sysModules<s.heap.objs.size:=by
 have h:lU<s.heap.objs.size:=(I.mod.glob.keeps I.bk).lt;exact Nat.lt_trans (by decide) h
theorem zh7_ {Q:aV->lu->Prop}(hu:A.units+1<cLine)(I:Inv X pins σ H s)(g:DGet H a y (vj v))(ry:RelV y u)(h:∀w' s',Inv X pins σ H s'->RelV v w'->Q w' s'):
  lX (model X.prog X.w) A (getItem (.ref a) u) Q E s:=by
 rcases g with⟨kvs,k,e,ey,l⟩|⟨kvs,k,b,e,ey,eb,l⟩
 ·subst ey
  obtain⟨z,hd,vs,rel,dd⟩:=zit_ I.hok e;obtain⟨w',hw,bN⟩:=RelO.some_of (v:=v) (o:=valueAt vs k) (by rw[l];exact rel.val k)
  exact wpAny_getItem_of (zjv_ ry) dd.mapOf hw (h w' _ (I.tok _) bN)
 ·subst ey
  cases(show u=mT b from ry)
  obtain⟨z,hd,xs,rel,dd⟩:=zle_ I.hok e;obtain⟨w',hw,bN⟩:=RelO.some_of (v:=v) (o:=(atKey xs k).map (·.2)) (by rw[l];exact rel.val k)
  obtain⟨p,hp,cH⟩:=lJ.mp hw;refine wpAny_getItem_heap (tupleKind_room_in1 hu) (zgE_ I.hok eb) dd hp ?_;rw[cH];exact h w' _ (I.tok _) bN
theorem d_in {Q:aV->lu->Prop}(hu:A.units+1<cLine)(I:Inv X pins σ H s)(g:DGet H a y o)(ry:RelV y u)(h:∀s',Inv X pins σ H s'->Q (.bool o.isSome) s'):
  lX (model X.prog X.w) A (l4 .In u (.ref a)) Q E s:=by
 rcases g with⟨kvs,k,e,ey,l⟩|⟨kvs,k,b,e,ey,eb,l⟩
 ·subst ey
  obtain⟨z,hd,vs,rel,dd⟩:=zit_ I.hok e;refine wpAny_in_of (zjv_ ry) hd dd.mapOf ?_;rw[<- (rel.val k).isSome_eq,<- l];exact h _ (I.tok _)
 ·subst ey
  cases(show u=mT b from ry)
  obtain⟨z,hd,xs,rel,dd⟩:=zle_ I.hok e;refine wpAny_in_heap (tupleKind_room_in1 hu) (zgE_ I.hok eb) hd dd ?_;have q:=(rel.val k).isSome_eq;rw[pT]at q;rw[<- q,<- l];exact h _ (I.tok _)
theorem zlw_ {Q:aV->lu->Prop}(hu:A.units+1<cLine)(I:Inv X pins σ H s)(g:DGet H a y o)(ry:RelV y u)(h:∀s',Inv X pins σ H s'->Q (.bool (!o.isSome)) s'):
  lX (model X.prog X.w) A (l4 .NotIn u (.ref a)) Q E s:=by
 rcases g with⟨kvs,k,e,ey,l⟩|⟨kvs,k,b,e,ey,eb,l⟩
 ·subst ey
  obtain⟨z,hd,vs,rel,dd⟩:=zit_ I.hok e;refine wpAny_notIn_of (zjv_ ry) hd dd.mapOf ?_;rw[<- (rel.val k).isSome_eq,<- l];exact h _ (I.tok _)
 ·subst ey
  cases(show u=mT b from ry)
  obtain⟨z,hd,xs,rel,dd⟩:=zle_ I.hok e;refine wpAny_notIn_heap (tupleKind_room_in1 hu) (zgE_ I.hok eb) hd dd ?_;have q:=(rel.val k).isSome_eq;rw[pT]at q;rw[<- q,<- l];exact h _ (I.tok _)
theorem zeP_ {h':Heap}{t':Nat}{ob:HO}(I:Inv X pins σ H s)(mu:Mut (H a))(hs:pB a s.heap h')(he:∃q,h'.get? a=vj q)(new:ObjOk X.prog X.w (upd H a ob) h' a ob):
  Inv X pins σ (upd H a ob) {s with heap:=h',toks:=t'}:=
 I.write (x:=a) (e:=a) mu (.inl rfl) (λb q hb z=>(hs.2 b hb).trans z) he new
theorem zkx_ {P:l5}{w:mx}{H':Hp}{h':Heap}{kvs:List (Key×V)}{vs:List (Key×aV)}(z:kvs.length<=lL)(hd:(a == sysModules)=vn)(rel:KV kvs vs)(dd:h'.DictOf (mixKind P w) a vs):
  ObjOk P w H' h' a (.dK kvs):=⟨z,hd,vs,rel,dd⟩
theorem zhu_ {H':Hp}{Q:Unit->lu->Prop}(hu:A.units+1<cLine)(I:Inv X pins σ H s)(g:DPut H a y v H')(ry:RelV y u)(rv:RelV v r)(h:∀s',Inv X pins σ H' s'->Q () s'):
  lX (model X.prog X.w) A (setItem (.ref a) u r) Q E s:=by
 rcases g with⟨kvs,k,e,ey,l,eH⟩|⟨kvs,k,b,e,ey,eb,l,eH⟩
 ·subst ey eH
  obtain⟨z,hd,vs,rel,dd⟩:=znI_ I.hok e;have hz:vs.length<=lL:=by rw[<- rel.length];exact z
  have hl:(putK kvs k v).length<=lL:=by have:=zaO_ kvs k v;lia
  refine wpAny_setItem_pairs (hsz:=hz) (zjv_ ry) dd λh' cy hs=>h _ ?_
  have he:∃q,h'.get? a=vj q:=let⟨q,_,_,hq,_⟩:=cy;⟨q,hq⟩
  exact zeP_ I (by rw[e];exact m7) hs he (zkx_ hl hd (rel.put k rv) cy)
 ·subst ey eH
  cases(show u=mT b from ry)
  obtain⟨z,hd,xs,rel,dd⟩:=dt_of I.hok e;have hz:xs.length<=lL:=by rw[<- Paired.length rel];exact z
  have hl:(putK kvs k v).length<=lL:=by have:=zaO_ kvs k v;lia
  refine wpAny_setItem_heap (hsz:=hz) (tupleKind_room_in1 hu) (zgE_ I.hok eb) dd λh' cy hs=>h _ ?_
  obtain⟨q,es,ep,hq,h2,h3,h4,_,h5⟩:=cy;refine zeP_ I (by rw[e];exact m7) hs ⟨q,hq⟩ ⟨hl,hd,_,(rel.put k eb rv).keeps λc ys ec=>?_,q,es,ep,hq,h2,h3,h4,h5⟩
  rw[zd_ (ne_of ec e (λz=>nomatch z))]
  exact ec
variable {kvs:List (Key×V)}
theorem d_len {Q:aV->lu->Prop}(I:Inv X pins σ H s)(e:Rd H a (.dK kvs))(h:∀t s',Inv X pins σ H s'->Q (.int kvs.length t) s'):lX (model X.prog X.w) A (call (.builtin "len") [.ref a]) Q E s:=by
 obtain⟨z,hd,vs,rel,dd⟩:=zit_ I.hok e;refine call_len_dict hd dd (by rw[<- rel.length];rw[sizeLine_eq]at z;lia) ?_
 rw[<- rel.length];exact h _ _ (I.tok _)
end
def NoSl (i:lP):Prop:=∀ov iv,subscripted i vn ov iv=operate [ov,iv] (getItem ov iv)
theorem subD_of {prog:l5}{w:mx}{A:my}{E:aV->lu->Prop}{s:lu}{env:Env}{value slice:lP}{pos:Pos}{T id:String}{Q:aV->lu->Prop}
  (hl:typeLookup (.type T) "__getitem__"=pure (vj (.builtin id))) (hs:NoSl slice)
  (h:lX (model prog w) A (eval value env) (λo ab=>lX (model prog w) A (eval slice env) (λi aP=>aP.TypeIs o T/\lX (model prog w) A (getItem o i) Q E aP) E ab) E s):
  lX (model prog w) A (eval (.Subscript value slice pos) env) Q E s:=by
 refine Subscript_ (m4 h (λo ab az=>m4 az (λi aP bU=>?_) λ_ _ x=>x) λ_ _ x=>x)
 obtain⟨hT,bU⟩:=bU;unfold subscriptTail;refine ll ?_;rw[getitemInPython_of_ne hT.not_modules];refine ll (wpAny_specialOf hT hl ?_);have fin:lX (model prog w) A (subscripted slice vn o i) (λr ax=>lX (model prog w) A (letTemporaryGo value o r>>=λ_=>pure r) Q E ax) E aP:=by
  rw[hs o i];exact wpAny_operating (m4 bU (λr ax bT=>ll (wpAny_letTemporaryGo (lM bT))) λ_ _ x=>x)
 first
  |exact lM (ll fin)
  |exact ll (lM (ll fin))
  |exact ll fin
theorem zfc_ {X:Cx}{pins:Pnn}{σ:St}{H:Hp}{s:lu}{a:lE}{y:V}{o:Option V}(I:Inv X pins σ H s)(g:DGet H a y o):s.TypeIs (.ref a) "dict":=by
 rcases g with⟨kvs,k,e,_,_⟩|⟨kvs,k,b,e,_,_,_⟩
 ·obtain⟨_,_,vs,_,dd⟩:=zit_ I.hok e
  exact dd.typeIs
 ·obtain⟨_,_,xs,_,dd⟩:=zle_ I.hok e
  exact dd.typeIs
section
end
theorem zfn_ {P:l5}{w:mx}{H:Hp}(h:Heap)(hb:sysModules<h.objs.size):ObjOk P w H (h.push {cls:=.type "dict",data:=.dict #[]}) h.objs.size (.dK []):=
 ⟨mq _,beq_eq_false_iff_ne.mpr (pN (l0 hb)),[],.nil,vi h⟩
def tDNewK:TE:=λ_ H Q=>∀p,H p=vk->Q (.ref p) (upd H p (.dK []))
section
variable {X:Cx}{pos:Pos}
theorem zk5_:PE X (.Dict [] [] pos) tDNewK:=λpins s σ H Q I h=>
 wpAny_Dict_empty ⟨.ref s.heap.objs.size,_,I.laid (a:=s.heap.objs.size) (o:=.dK []) (t':=s.toks) (λ_ _ q=>lp _ q) (lC _) (zfn_ s.heap I.big),rfl,h _ (I.hok.fresh (lC _))⟩
end
def tPairs:List (TE×TE)->St->Hp->(List (V×V)->Hp->Prop)->Prop
 |[],_,H,Q=>Q [] H
 |(tk,tv)::r,σ,H,Q=>tk σ H λx H1=>tv σ H1 λy H2=>tPairs r σ H2 λps H3=>Q ((x,y)::ps) H3
abbrev VV:List (V×V)->List (aV×aV)->Prop:=Paired λp q=>RelV p.1 q.1/\RelV p.2 q.2
def PPs (X:Cx)(pos:Pos)(keys:List (Option lP))(values:List lP)(trs:List (TE×TE)):Prop:=
 ∀(pins:Pnn) (s:lu) (σ:St) (H:Hp) (Q:List (V×V)->Hp->Prop),Inv X pins σ H s->tPairs trs σ H Q ->
  lX (model X.prog X.w) X.A (evalPairs (pairTrees keys values X.env pos)) (λvs s'=>∃ps H',Inv X pins σ H' s'/\VV ps vs/\Q ps H') X.xe s
theorem ziT_ {X:Cx}{pos:Pos}:PPs X pos [] [] []:=λpins s σ H Q I h=>pairTrees_nil_walk ⟨[],H,I,.nil,h⟩
theorem zdH_ {X:Cx}{pos:Pos}{k v:lP}{ks:List (Option lP)}{vs:List lP}{tk tv:TE}{trs:List (TE×TE)}(hk:PE X k tk)(hv:PE X v tv)(hr:PPs X pos ks vs trs):
  PPs X pos (vj k::ks) (v::vs) ((tk,tv)::trs):=λpins s σ H Q I h=>
 pairTrees_cons_walk (thn (hk pins s σ H _ I h) λu s1 ⟨x,H1,I1,rx,q1⟩=>thn (hv pins s1 σ H1 _ I1 q1) λw2 s2 ⟨y,H2,I2,ry,q2⟩=>
  thn (hr pins s2 σ H2 _ I2 q2) λws s3 ⟨ps,H3,I3,rel,q3⟩=>⟨(x,y)::ps,H3,I3,.cons ⟨rx,ry⟩ rel,q3⟩)
def mergeK (kvs more:List (Key×V)):List (Key×V):=more.foldl (λacc kv=>putK acc kv.1 kv.2) kvs
theorem KV.merge:∀{more:List (Key×V)}{rs:List (Key×aV)}{kvs:List (Key×V)}{vs:List (Key×aV)},KV more rs->KV kvs vs->KV (mergeK kvs more) (merged vs rs):=by
 intro more rs kvs vs r;unfold KV at r;induction r generalizing kvs vs with
 |nil=>intro q;exact q
 | @cons p q ps qs h t ih=>
  intro r0;have e:KV (putK kvs p.1 p.2) (stored vs q.1 q.2):=by
   have:=r0.put p.1 h.2;rw[<- h.1];exact this
  exact ih e
theorem zbD_:∀(more kvs:List (Key×V)),(mergeK kvs more).length<=kvs.length+more.length
 |[],kvs=>by show kvs.length<=kvs.length+0;lia
 |p::r,kvs=>by
  have h1:=zbD_ r (putK kvs p.1 p.2);have h2:=zaO_ kvs p.1 p.2;show(mergeK (putK kvs p.1 p.2) r).length<=_
  rw[lG];lia
theorem zdx_ {P:l5}{w:mx}:∀{kvs:List (Key×V)}{ws:List (aV×aV)},VV (kvs.map λkv=>(kV kv.1,kv.2)) ws->∃rs,Carries (mixKind P w) ws rs/\KV kvs rs
 |[],_,r=>by rw[nL]at r;cases r;exact⟨[],m7,.nil⟩
 |p::kvs,_,r=>by
  rw[lB]at r;cases r with
  | @cons a b as bs h t=>
   obtain⟨rs,c,q⟩:=zdx_ (P:=P) (w:=w) t;obtain⟨b1,b2⟩:=b;exact⟨(p.1,b2)::rs,⟨zjv_ h.1,rfl,c⟩,.cons ⟨rfl,h.2⟩ q⟩
def tDisp (trs:List (TE×TE)):TE:=λσ H Q=>∀p,H p=vk->tPairs trs σ (upd H p (.dK [])) λps H2=>H2 p=vj (.dK [])/\∃kvs:List (Key×V),ps=kvs.map (λkv=>(kV kv.1,kv.2))/\kvs.length<=15/\Q (.ref p) (upd H2 p (.dK (mergeK [] kvs)))
theorem ziV_ {X:Cx}{pos:Pos}{keys:List (Option lP)}{values:List lP}{trs:List (TE×TE)}(h:PPs X pos keys values trs)(bB:keys.all (·.isSome)=vm)(hl:keys.length=values.length)(h0:keys≠[])
  (g_:keys.length<=15):PE X (.Dict keys values pos) (tDisp trs):=by
 intro pins s σ H Q I q;have hn:=I.hok.fresh (lC s.heap.objs.size);have I1:=I.laid (a:=s.heap.objs.size) (o:=.dK []) (h':=s.heap.push {cls:=.type "dict",data:=.dict #[]}) (t':=s.toks) (λ_ _ q=>lp _ q) (lC _) (zfn_ s.heap I.big)
 refine wpAny_Dict_walk (knd:=mixKind X.prog X.w) bB hl h0 g_ (thn (h pins _ σ _ _ I1 (q _ hn)) λws s2 af=>?_)
 obtain⟨ps,H2,I2,rel,e,kvs,ep,lk,q2⟩:=af;subst ep;obtain⟨rs,c,rk⟩:=zdx_ (P:=X.prog) (w:=X.w) rel;obtain⟨z,hd,vs0,r0,dd⟩:=znI_ I2.hok e;cases r0;refine⟨rs,c,dd,λh' cy hs=>⟨.ref s.heap.objs.size,_,?_,rfl,q2⟩⟩
 have hz:(mergeK [] kvs).length<=lL:=by
  have h1:=zbD_ kvs [];rw[oX]at h1;rw[sizeLine_eq];lia
 have he:∃q,h'.get? s.heap.objs.size=vj q:=let⟨q,_,_,hq,_⟩:=cy;⟨q,hq⟩
 exact zeP_ I2 (by rw[e];exact m7) hs he (zkx_ hz hd (rk.merge .nil) cy)
structure M2 (X:Cx)(o:lP)(m:Str)(apos:Pos)(e f:lP)(ak:Pos):Prop where
 base:attributeBase o m X.env (eval o X.env)=eval o X.env
 few:((oM ak (me [e,f] X.env)).all (λx=>!x.1) && (rD ak (p8 [] X.env)).all (λx=>x.1.isSome)
  && decide (([e,f]:List lP).length+([]:List Keyword).length+(if([]:List Keyword).isEmpty then 0 else 1)<30))=vm
 line:(apos.endLine == ak.line)=vm
 trees:oM ak (me [e,f] X.env)=[(vn,eval e X.env),(vn,eval f X.env)]
def IsD (H:Hp)(a:lE):Prop:=(∃kvs,Rd H a (.dK kvs))\/∃kvs,Rd H a (.dT kvs)
theorem zrs_ {X:Cx}{pins:Pnn}{σ:St}{H:Hp}{s:lu}{a:lE}(I:Inv X pins σ H s)(d:IsD H a):
  s.TypeIs (.ref a) "dict" /\ (∀b,mT a=.ref b->∃ob,s.heap.get? b=vj ob/\ob.dict=vk)/\(a==sysModules)=vn:=by
 rcases d with⟨kvs,e⟩|⟨kvs,e⟩
 ·obtain⟨_,hd,vs,_,dd⟩:=zit_ I.hok e
  refine⟨dd.typeIs,λb q=>?_,hd⟩
  cases q;obtain⟨ob,_,_,h1,h2,_⟩:=dd;exact⟨ob,h1,h2.2.1⟩
 ·obtain⟨_,hd,xs,_,dd⟩:=zle_ I.hok e
  refine⟨dd.typeIs,λb q=>?_,hd⟩
  cases q;obtain⟨ob,_,_,h1,h2,_⟩:=dd;exact⟨ob,h1,h2.2.1⟩
section
end
section
namespace L2
open PySem PySem.Spec PyProof.Rows
section
end
section
variable {κ:Type}[DecidableEq κ]
end
end L2
end
section
end
def keyV:V->Option Key
 |.int i=>vj (.inl i)
 |.str z=>vj (.inr z)
 |_=>vk
theorem zmP_ {y:V}{k:Key}(h:keyV y=vj k):y=kV k:=by
 cases y<;>first |(cases h;rfl)|cases h
def atD (x y:V)(H:Hp)(R:lE->List (Key×V)->Key->Prop):Prop:=match x with
 |.ref a=>(match keyV y with |some k=>∃kvs,H a=vj (.dK kvs)/\R a kvs k |none=>False)
 |_=>False
theorem zg1_ {x y:V}{H:Hp}{R:lE->List (Key×V)->Key->Prop}(h:atD x y H R):∃a kvs k,x=.ref a/\y=kV k/\H a=vj (.dK kvs)/\R a kvs k:=by
 unfold atD at h;cases x with
 |ref a=>
  cases e:keyV y with
  |none=>rw[e]at h;exact h.elim
  |some k=>
   rw[e]at h;obtain⟨kvs,h1,h2⟩:=h;exact⟨a,kvs,k,rfl,zmP_ e,h1,h2⟩
 |_=>exact h.elim
section
variable {X:Cx}
def mLenD:List V->Hp->VK->Prop:=λxs H Q=>match xs with |[.ref a]=>∃kvs,H a=vj (.dK kvs)/\Q (.int kvs.length) H |_=>False
theorem zgS_:CallR X (.builtin "len") mLenD:=by
 intro pins s σ H xs us Q I r h;unfold mLenD at h;split at h
 ·rename_i a
  obtain⟨kvs,ha,q⟩:=h;obtain⟨u,rfl,ru⟩:=vals1 r;cases ru;exact d_len I (.inl ha) λt s' I'=>⟨.int kvs.length,H,I',⟨t,rfl⟩,q⟩
 ·exact h.elim
end
inductive Av where
 |i (n:Int)|p (a b:Int)
inductive Xc where
 |pl (c:String)|at(c:String) (as:List (Str×Av))
instance:Coe String Xc:=⟨Xc.pl⟩
inductive Mo (α:Type) where
 |ok (a:α)|ex (c:Xc)|no
namespace Mo
variable {α β γ:Type}
noncomputable def bind (x:Mo α)(f:α->Mo β):Mo β:=match x with |.ok a=>f a |.ex c=>.ex c |.no=>.no
theorem bind_assoc (x:Mo α)(f:α->Mo β)(g:β->Mo γ):(x.bind f).bind g=x.bind λa=>(f a).bind g:=by cases x<;>rfl
noncomputable def noex (x:Mo α):Mo α:=match x with |.ok a=>.ok a |_=>.no
noncomputable def lim (n:Nat)(k:Mo α):Mo α:=if n<=lL then k else .no
theorem lim_ok {n:Nat}{k:Mo α}(h:n<=100000):lim n k=k:=if_pos (zaT_ h)
noncomputable def grd (p:Prop)[Decidable p](k:Mo α):Mo α:=if p then k else .no
theorem grd_ok {p:Prop}[Decidable p]{k:Mo α}(h:p):grd p k=k:=if_pos h
noncomputable def opt (x:Option α):Mo α:=match x with |some a=>.ok a |none=>.no
end Mo
def un (F h:Hp):Hp:=λp=>match F p with |some o=>vj o |none=>h p
def Dj (F h:Hp):Prop:=∀p,F p=vk\/h p=vk
def Jn (h1 h2 h:Hp):Prop:=∀p,(h1 p=vk/\h p=h2 p)\/(h2 p=vk/\h p=h1 p)
def Ext (F H F' H':Hp):Prop:=Same F F'/\Same F' H'/\Same H H'/\∀p,F p=vk->F' p≠vk->H p=vk
theorem Ext.refl {F H:Hp}(h:Same F H):Ext F H F H:=⟨Same.refl _,h,Same.refl _,λp a b=>absurd a b⟩
theorem Ext.trans {F H F1 H1 F2 H2:Hp}(a:Ext F H F1 H1)(b:Ext F1 H1 F2 H2):Ext F H F2 H2:=by
 obtain⟨a1,a2,a3,a4⟩:=a;obtain⟨b1,b2,b3,b4⟩:=b;refine⟨a1.trans b1,b2,a3.trans b3,λp hp hq=>?_⟩
 cases e:F1 p with
 |none=>exact a3.free (b4 p e hq)
 |some o=>exact a4 p hp (by rw[e];exact sN _)
theorem Ext.heap {F H H':Hp}(h:Same F H)(g:Same H H'):Ext F H F H':=⟨Same.refl _,h.trans g,g,λp a b=>absurd a b⟩
theorem Ext.new {F H:Hp}(h:Same F H){p:lE}{o:HO}(hp:H p=vk):Ext F H (upd F p o) (upd H p o):=by
 refine⟨zU_ (h.free hp) _,λb u e=>?_,zU_ hp _,λq a b=>?_⟩
 ·unfold upd at e ⊢
  split
  ·rename_i z;rw[if_pos z]at e;exact e
  ·rename_i z;rw[if_neg z]at e;exact h _ _ e
 ·unfold upd at b
  split at b
  ·rename_i z;rw[z];exact hp
  ·exact absurd a b
structure Ty (α:Type) where
 R:α->V->Hp->Prop
 mono:∀{a v H H'},Same H H'->R a v H->R a v H'
def Tups (H H':Hp):Prop:=∀p xs,H p=vj (.tup xs)->H' p=vj (.tup xs)
theorem Same.tups {H H':Hp}(h:Same H H'):Tups H H':=λp xs e=>h _ _ e
abbrev tyInt:Ty Int:=⟨λa v _=>v=.int a,λ_ h=>h⟩
structure Cs (γ:Type) where
 R:γ->List V->Hp->Prop
 mono:∀{c vs H H'},Same H H'->R c vs H->R c vs H'
abbrev Prs {α:Type}(T:Ty α)(H:Hp)(xs:List α)(vs:List V):Prop:=Paired (λx v=>T.R x v H) xs vs
theorem zcc_ {α β:Type}{R R':α->β->Prop}(h:∀a b,R a b->R' a b):∀{xs:List α}{ys:List β},Paired R xs ys->Paired R' xs ys
 |_,_,.nil=>.nil
 |_,_,.cons a t=>.cons (h _ _ a) (zcc_ h t)
theorem Prs.mono {α:Type}{T:Ty α}{H H':Hp}{xs:List α}{vs:List V}(g:Same H H')(h:Prs T H xs vs):Prs T H' xs vs:=zcc_ (λ_ _ r=>T.mono g r) h
noncomputable abbrev tyL {α:Type}(T:Ty α):Ty (List α):=⟨λxs v H=>∃p vs,v=.ref p/\H p=vj (.lst vs)/\Prs T H xs vs,λg ⟨p,vs,e,h,q⟩=>⟨p,vs,e,g _ _ h,q.mono g⟩⟩
structure Own (α:Type) where
 O:α->V->Hp->Hp->Prop
 fr:Ty α
 mono:∀{a v F F' h},Same F F'->O a v F h->O a v F' h
 frz:∀{a v F h},Dj F h->O a v F h->fr.R a v (un F h)
 notup:∀{a v F h},O a v F h->∀p xs,h p≠vj (.tup xs)
theorem zW_ {F h:Hp}:Same F (un F h):=λp o e=>by unfold un;rw[e]
theorem zdJ_ {F h:Hp}(d:Dj F h):Same h (un F h):=λp o e=>by
 unfold un;rcases d p with z |z
 ·rw[z];exact e
 ·rw[z]at e;cases e
def one (p:lE)(o:HO):Hp:=λq=>if q=p then vj o else vk
theorem zp_ {p:lE}{o:HO}:one p o p=vj o:=if_pos rfl
inductive Sl:Type 1 where
 |dead
 |fz {α:Type}(T:Ty α) (a:α)
 |ow {α:Type}(O:Own α) (a:α)
def Sl.P:Sl->Option V->Hp->Hp->Prop
 |.dead,_,_,_=>True
 |.fz T a,o,F,_=>∃v,o=vj v/\T.R a v F
 |.ow O a,o,F,h=>∃v,o=vj v/\O.O a v F h
def Sl.Z:Sl->Option V->Hp->Prop
 |.dead,_,_=>True
 |.fz T a,o,F=>∃v,o=vj v/\T.R a v F
 |.ow O a,o,F=>∃v,o=vj v/\O.fr.R a v F
def Hold:List Sl->St->Hp->Hp->Prop
 |[],[],_,_=>True
 |s::L,o::σ,F,h=>∃h1 h2,Jn h1 h2 h/\s.P o F h1/\Hold L σ F h2
 |_,_,_,_=>False
def HoldF (L:List Sl)(σ:St)(F:Hp):Prop:=∀(i:Nat) (s:Sl),L[i]?=vj s->s.Z (σ[i]?.join) F
theorem Sl.P.mono {s:Sl}{o:Option V}{F F' h:Hp}(g:Same F F')(q:s.P o F h):s.P o F' h:=by
 cases s with
 |dead=>exact q
 |fz T a=>obtain⟨v,e,r⟩:=q;exact⟨v,e,T.mono g r⟩
 |ow O a=>obtain⟨v,e,r⟩:=q;exact⟨v,e,O.mono g r⟩
theorem Sl.Z.mono {s:Sl}{o:Option V}{F F':Hp}(g:Same F F')(q:s.Z o F):s.Z o F':=by
 cases s with
 |dead=>exact q
 |fz T a=>obtain⟨v,e,r⟩:=q;exact⟨v,e,T.mono g r⟩
 |ow O a=>obtain⟨v,e,r⟩:=q;exact⟨v,e,O.fr.mono g r⟩
theorem HoldF.mono {L:List Sl}{σ:St}{F F':Hp}(g:Same F F')(q:HoldF L σ F):HoldF L σ F':=λi s e=>(q i s e).mono g
theorem Hold.mono:∀{L:List Sl}{σ:St}{F F' h:Hp},Same F F'->Hold L σ F h->Hold L σ F' h
 |[],[],_,_,_,_,q=>q
 |s::L,o::σ,F,F',h,g,q_=>by obtain⟨h1,h2,j,p,r⟩:=q_;exact⟨h1,h2,j,p.mono g,r.mono g⟩
 |[],_::_,_,_,_,_,q=>q.elim
 |_::_,[],_,_,_,_,q=>q.elim
theorem Jn.l {h1 h2 h:Hp}(j:Jn h1 h2 h):Same h1 h:=λp o e=>by
 rcases j p with⟨a,b⟩|⟨a,b⟩
 ·rw[a]at e;cases e
 ·rw[b];exact e
theorem Jn.r {h1 h2 h:Hp}(j:Jn h1 h2 h):Same h2 h:=λp o e=>by
 rcases j p with⟨a,b⟩|⟨a,b⟩
 ·rw[b];exact e
 ·rw[a]at e;cases e
theorem Jn.dj {h1 h2 h:Hp}(j:Jn h1 h2 h):Dj h1 h2:=λp=>by
 rcases j p with⟨a,b⟩|⟨a,b⟩
 ·exact .inl a
 ·exact .inr a
theorem zah_ {h1 h2:Hp}(d:Dj h1 h2):Jn h1 h2 (un h1 h2):=λp=>by
 unfold un;rcases d p with a |a
 ·rw[a];exact .inl ⟨rfl,rfl⟩
 ·refine .inr ⟨a,?_⟩
  cases h1 p with
  |none=>exact a
  |some o=>rfl
theorem Hold.at:∀{L:List Sl}{σ:St}{F h:Hp}(i:Nat) {s:Sl},Hold L σ F h->L[i]?=vj s ->
  ∃o h1 h2,σ[i]?=vj o/\Jn h1 h2 h/\s.P o F h1/\∀s' o' h1' h',Jn h1' h2 h'->s'.P o' F h1'->Hold (L.set i s') (σ.set i o') F h'
 |[],_,_,_,_,_,_,e=>by cases e
 |s::L,[],_,_,_,_,q,_=>q.elim
 |s::L,o::σ,F,h,0,t,q_,e=>by
  obtain⟨h1,h2,j,p,r⟩:=q_;cases e;exact⟨o,h1,h2,rfl,j,p,λs' o' h1' h' j' p'=>⟨h1',h2,j',p',r⟩⟩
 |s::L,o::σ,F,h,i+1,t,q_,e=>by
  obtain⟨h1,h2,j,p,r⟩:=q_;obtain⟨o1,k1,k2,e1,j1,p1,f⟩:=Hold.at i r (by simpa using e)
  have d1:Dj h1 k1:=λp=>by
   rcases j.dj p with a |a
   ·exact .inl a
   ·exact .inr (j1.l.free a)
  have d2:Dj h1 k2:=λp=>by
   rcases j.dj p with a |a
   ·exact .inl a
   ·exact .inr (j1.r.free a)
  refine⟨o1,k1,un h1 k2,by simpa using e1,λp=>?_,p1,λs' o' cj h' j' p'=>?_⟩
  ·rcases j p with⟨a,b⟩|⟨a,b⟩
   ·rcases j1 p with⟨c,d⟩|⟨c,d⟩
    ·refine .inl ⟨c,?_⟩;unfold un;rw[a,b,d]
    ·refine .inr ⟨?_,by rw[b,d]⟩;unfold un;rw[a,c]
   ·refine .inl ⟨j1.l.free a,?_⟩
    have:k2 p=vk:=j1.r.free a;unfold un;rw[b];cases h1 p with
    |none=>rw[this]
    |some u=>rfl
  ·have dd:Dj cj k2:=λp=>by
    rcases j' p with⟨a,b⟩|⟨a,b⟩
    ·exact .inl a
    ·right;unfold un at a
     cases z:h1 p with
     |none=>rw[z]at a;exact a
     |some u=>rw[z]at a;cases a
   refine⟨h1,un cj k2,λp=>?_,p,f s' o' cj _ (zah_ dd) p'⟩
   rcases j' p with⟨a,b⟩|⟨a,b⟩
   ·unfold un at b ⊢
    cases z:h1 p with
    |none=>rw[z]at b;exact .inl ⟨rfl,by rw[b,a]⟩
    |some u=>
     rw[z]at b;refine .inr ⟨?_,b⟩;rw[a];rcases d2 p with y |y
     ·rw[y]at z;cases z
     ·exact y
   ·unfold un at a
    cases z:h1 p with
    |some u=>rw[z]at a;cases a
    |none=>
     rw[z]at a;refine .inl ⟨rfl,?_⟩;unfold un;rw[b];cases cj p with
     |none=>exact a.symm
     |some u=>rfl
theorem Hold.froz {L:List Sl}{σ:St}{F h:Hp}(d:Dj F h)(q:Hold L σ F h):HoldF L σ (un F h):=by
 intro i s e;obtain⟨o,h1,h2,e1,j,p,_⟩:=q.at i e;rw[e1];have d1:Dj F h1:=λp=>by
  rcases d p with a |a
  ·exact .inl a
  ·exact .inr (j.l.free a)
 cases s with
 |dead=>trivial
 |fz T a=>obtain⟨v,e2,r⟩:=p;exact⟨v,e2,T.mono zW_ r⟩
 |ow O a=>
  obtain⟨v,e2,r⟩:=p;refine⟨v,e2,O.fr.mono (λp u z=>?_) (O.frz d1 r)⟩
  unfold un at z ⊢;cases y:F p with
  |some w=>rw[y]at z;exact z
  |none=>rw[y]at z;exact j.l _ _ z
end L2
namespace L2
open PySem PySem.Spec PyProof.Rows
def Av.R:Av->V->Hp->Prop
 |.i n,v,_=>v=.int n
 |.p a b,v,H=>∃q,v=.ref q/\H q=vj (.tup [.int a,.int b])
theorem Av.imm {x:Av}{v:V}{H H':Hp}(g:Tups H H')(h:x.R v H):x.R v H':=by
 cases x with
 |i n=>exact h
 |p a b=>obtain⟨q,e,z⟩:=h;exact⟨q,e,g _ _ z⟩
def AtR (as:List (Str×Av))(fs:List (Str×V))(F:Hp):Prop:=Paired (λa f=>a.1=f.1/\a.2.R f.2 F) as fs
theorem AtR.imm {as:List (Str×Av)}{fs:List (Str×V)}{H H':Hp}(g:Tups H H')(h:AtR as fs H):AtR as fs H':=zcc_ (λ_ _ r=>⟨r.1,Av.imm g r.2⟩) h
def Tell (K:Fgg)(E:XK)(x:Xc)(H0 F H:Hp):Prop:=match x with
 |.pl c=>E (.ref (gA K c)) vk H
 |.at c as=>∀dx fs,H0 dx=vk->F dx=vj (XDO dx fs)->AtR as fs F->E (.ref (gA K c)) (vj dx) H
theorem Tell.up {K:Fgg}{E:XK}{x:Xc}{H0 H1 F H:Hp}(s:Same H0 H1)(h:Tell K E x H0 F H):Tell K E x H1 F H:=by
 cases x with
 |pl c=>exact h
 |«at» c as=>exact λdx fs e=>h dx fs (s.free e)
def After {α:Type}(K:Fgg)(r:Mo α)(E:XK)(F H:Hp)(k:α->Hp->Hp->Prop):Prop:=match r with
 |.ok a=>∀F' H',Ext F H F' H'->k a F' H'
 |.ex c=>∀F' H',Ext F H F' H'->Tell K E c H F' H'
 |.no=>False
section
variable {K:Fgg}{E:XK}{α β γ:Type}{F H:Hp}
theorem After.bind {r:Mo α}{f:α->Mo β}{k:β->Hp->Hp->Prop}(h:After K (r.bind f) E F H k):After K r E F H λa F1 H1=>After K (f a) E F1 H1 k:=by
 cases r with
 |ok a=>
  intro F1 H1 x;have h':After K (f a) E F H k:=h;cases e:f a with
  |ok b=>rw[e]at h';exact λF2 H2 y=>h' F2 H2 (x.trans y)
  |ex c=>rw[e]at h';exact λF2 H2 y=>(h' F2 H2 (x.trans y)).up x.2.2.1
  |no=>rw[e]at h';exact h'
 |ex c=>exact h
 |no=>exact h
theorem After.imp {r:Mo α}{k k':α->Hp->Hp->Prop}(h:After K r E F H k)(g:∀a F' H',Ext F H F' H'->k a F' H'->k' a F' H'):After K r E F H k':=by
 cases r with
 |ok a=>exact λF' H' x=>g a F' H' x (h F' H' x)
 |ex c=>exact h
 |no=>exact h
theorem After.ok {a:α}{k:α->Hp->Hp->Prop}(hs:Same F H)(h:After K (.ok a) E F H k):k a F H:=h F H (.refl hs)
theorem After.lim {n:Nat}{r:Mo α}{k:α->Hp->Hp->Prop}(h:After K (Mo.lim n r) E F H k):n<=lL/\After K r E F H k:=by
 unfold Mo.lim at h;split at h
 ·exact⟨by assumption,h⟩
 ·exact h.elim
theorem After.grd {p:Prop}[Decidable p]{r:Mo α}{k:α->Hp->Hp->Prop}(h:After K (Mo.grd p r) E F H k):p/\After K r E F H k:=by
 unfold Mo.grd at h;split at h
 ·exact⟨by assumption,h⟩
 ·exact h.elim
theorem After.opt {x:Option α}{k:α->Hp->Hp->Prop}(h:After K (Mo.opt x) E F H k):∃a,x=vj a/\After K (.ok a) E F H k:=by
 cases x with
 |none=>exact h.elim
 |some a=>exact⟨a,rfl,h⟩
def EvF (K:Fgg)(e:TE)(E:XK)(L:List Sl)(r:Mo α)(T:Ty α):Prop:=
 ∀σ F H (Q:VK),HoldF L σ F->Same F H->After K r E F H (λa F' H'=>∀v,T.R a v F'->Q v H')->e σ H Q
def OwnK (O:Own α)(H:Hp)(Q:VK)(a:α)(F' H':Hp):Prop:=∀v h,(∀p,h p≠vk->H p=vk)->Dj F' h->Same h H'->O.O a v F' h->Q v H'
def EvO (K:Fgg)(e:TE)(E:XK)(L:List Sl)(r:Mo α)(O:Own α):Prop:=
 ∀σ F H (Q:VK),HoldF L σ F->Same F H->After K r E F H (OwnK O H Q)->e σ H Q
def EvT (K:Fgg)(t:TT)(E:XK)(L:List Sl)(r:Mo Bool):Prop:=
 ∀σ F H (Q:Bool->Hp->Prop),HoldF L σ F->Same F H->After K r E F H (λb _ H'=>Q b H')->t σ H Q
def EvA (K:Fgg)(t:TA)(E:XK)(L:List Sl)(r:Mo γ)(C:Cs γ):Prop:=
 ∀σ F H (Q:List V->Hp->Prop),HoldF L σ F->Same F H->After K r E F H (λc F' H'=>∀vs,C.R c vs F'->Q vs H')->t σ H Q
variable {L:List Sl}{e e1 e2:TE}{T:Ty α}{r:Mo α}
theorem EvO.fr {O:Own α}(h:EvO K e E L r O):EvF K e E L r O.fr:=by
 intro σ F H Q hL hs q;refine h σ F H Q hL hs ?_;cases r with
 |ok a=>
  intro F' H' x v h' fresh d s o;refine q (un F' h') H' ⟨x.1.trans zW_,λp o e=>?_,x.2.2.1,λp a b=>?_⟩ v (O.frz d o)
  ·unfold un at e
   cases z:F' p with
   |some w=>rw[z]at e;cases e;exact x.2.1 _ _ z
   |none=>rw[z]at e;exact s _ _ e
  ·unfold un at b
   cases z:F' p with
   |some w=>exact x.2.2.2 p a (by rw[z];exact sN _)
   |none=>rw[z]at b;exact fresh p b
 |ex c=>exact q
 |no=>exact q
def Op2O (K:Fgg)(m:R2)(E:XK)(T1:Ty α)(T2:Ty β)(g:α->β->Mo γ)(O:Own γ):Prop:=
 ∀a b x y F H (Q:VK),Same F H->T1.R a x F->T2.R b y F->After K (g a b) E F H (OwnK O H Q)->m x y H Q
theorem OwnK.back {O:Own α}{H H1:Hp}{Q:VK}{a:α}{F' H':Hp}(g:Same H H1)(h:OwnK O H Q a F' H'):OwnK O H1 Q a F' H':=
 λv k fresh d s o=>h v k (λp z=>g.free (fresh p z)) d s o
theorem zpd_ {m:R2}{T1:Ty α}{T2:Ty β}{O:Own γ}{g:α->β->Mo γ}{r1:Mo α}{r2:Mo β}(jL:Op2O K m E T1 T2 g O)(h1:EvF K e1 E L r1 T1)(h2:EvF K e2 E L r2 T2):
  EvO K (tOp m e1 e2) E L (r1.bind λa=>r2.bind λb=>g a b) O:=by
 intro σ F H Q hL hs q;refine h1 σ F H _ hL hs (q.bind.imp λa F1 H1 x1 k1 v1 aM=>?_)
 refine h2 σ F1 H1 _ (hL.mono x1.1) x1.2.1 (k1.bind.imp λb F2 H2 x2 k2 v2 c6=>?_)
 exact jL a b v1 v2 F2 H2 Q x2.2.1 (T1.mono x2.1 aM) c6 (k2.imp λc F3 H3 x3 k3=>k3.back (x1.2.2.1.trans x2.2.2.1))
noncomputable instance (i j:Int):Decidable (CMul i j):=inferInstanceAs (Decidable (_\/_))
noncomputable instance (i j:Int):Decidable (CDiv i j):=inferInstanceAs (Decidable (_/\_))
noncomputable instance (i j:Int):Decidable (CPow i j):=inferInstanceAs (Decidable (_/\_/\_))
theorem Prs.append {xs ys:List α}{vs us:List V}(a:Prs T H xs vs)(b:Prs T H ys us):Prs T H (xs++ys) (vs++us):=by
 induction a with
 |nil=>exact b
 |cons r t ih=>exact .cons r ih
theorem Prs.len {xs:List α}{vs:List V}(a:Prs T H xs vs):xs.length=vs.length:=Paired.length a
theorem Prs.get {xs:List α}{vs:List V}(a:Prs T H xs vs)(i:Nat):(xs[i]?=vk/\vs[i]?=vk)\/∃x v,xs[i]?=vj x/\vs[i]?=vj v/\T.R x v H:=by
 induction a generalizing i with
 |nil=>exact .inl ⟨rfl,rfl⟩
 |cons r t ih=>
  cases i with
  |zero=>exact .inr ⟨_,_,rfl,rfl,r⟩
  |succ i=>simpa using ih i
theorem Prs.take {xs:List α}{vs:List V}(a:Prs T H xs vs)(n:Nat):Prs T H (xs.take n) (vs.take n):=by
 induction a generalizing n with
 |nil=>rw[rM,rM];exact .nil
 |cons r t ih=>
  cases n with
  |zero=>exact .nil
  |succ n=>exact .cons r (ih n)
theorem Prs.drop {xs:List α}{vs:List V}(a:Prs T H xs vs)(n:Nat):Prs T H (xs.drop n) (vs.drop n):=by
 induction a generalizing n with
 |nil=>rw[tW,tW];exact .nil
 |cons r t ih=>
  cases n with
  |zero=>exact .cons r t
  |succ n=>exact ih n
def BlO (K:Fgg)(m:List V->Hp->VK->Prop)(E:XK)(C:Cs γ)(g:γ->Mo α)(O:Own α):Prop:=
 ∀c vs F H (Q:VK),Same F H->C.R c vs F->After K (g c) E F H (OwnK O H Q)->m vs H Q
theorem zqM_ {m:List V->Hp->VK->Prop}{C:Cs γ}{g:γ->Mo α}{O:Own α}{ta:TA}{r:Mo γ}(hb:BlO K m E C g O)(h:EvA K ta E L r C):EvO K (tCB m ta) E L (r.bind g) O:=by
 intro σ F H Q hL hs q;exact h σ F H _ hL hs (q.bind.imp λc F1 H1 x1 k1 vs cF=>hb c vs F1 H1 Q x1.2.1 cF (k1.imp λa F2 H2 x2 k2=>k2.back x1.2.2.1))
theorem zlA_ {xs:List α}{vs:List V}(r:Prs T H xs vs){i:Int}{x:α}(e:atI xs i=vj x):∃v,atI vs i=vj v/\T.R x v H:=by
 unfold atI at e ⊢;rw[<- r.len];cases e1:ixN xs.length i with
 |none=>rw[e1]at e;cases e
 |some j=>
  rw[e1]at e;rcases r.get j with⟨a,b⟩|⟨y,v,a,b,c⟩
  ·have:xs[j]?=vj x:=e
   rw[a]at this;cases this
  ·have:xs[j]?=vj x:=e
   rw[a]at this;cases this;exact⟨v,b,c⟩
end
section
variable {K:Fgg}{E:XK}{α γ:Type}{F H:Hp}{L:List Sl}{e1 e2:TE}{T:Ty α}{r:Mo α}{t:TT}{b:Mo Bool}
theorem zpq_ {r1 r2:Mo α}{O:Own α}(ht:EvT K t E L b)(h1:EvO K e1 E L r1 O)(h2:EvO K e2 E L r2 O):EvO K (mIf t e1 e2) E L (b.bind λc=>if c then r1 else r2) O:=by
 intro σ F H Q hL hs q;refine ht σ F H _ hL hs (q.bind.imp λa F1 H1 x k=>⟨λc=>?_,λc=>?_⟩)
 ·rw[if_pos c]at k;exact h1 σ F1 H1 _ (hL.mono x.1) x.2.1 (k.imp λa F2 H2 y z=>z.back x.2.2.1)
 ·rw[if_neg (by rw[c];decide)]at k;exact h2 σ F1 H1 _ (hL.mono x.1) x.2.1 (k.imp λa F2 H2 y z=>z.back x.2.2.1)
theorem After.more {k:α->Hp->Hp->Prop}(h:After K r E F H k):After K r E F H λa F1 H1=>∀F2 H2,Ext F1 H1 F2 H2->k a F2 H2:=by
 cases r with
 |ok a=>exact λF1 H1 x F2 H2 y=>h F2 H2 (x.trans y)
 |ex c=>exact h
 |no=>exact h
def EvP (K:Fgg)(t:TO)(E:XK)(L:List Sl)(r:Mo (Option Int)):Prop:=
 ∀σ F H (Q:Option Int->Hp->Prop),HoldF L σ F->Same F H->After K r E F H (λb _ H'=>Q b H')->t σ H Q
theorem ep_no:EvP K tNoPart E L (.ok vk):=λσ F H Q hL hs q=>q.ok hs
def cutG (xs:List α)(lo hi:Option Int):List α:=(xs.drop (HT.sIx xs.length 0 lo)).take (HT.sIx xs.length xs.length hi-HT.sIx xs.length 0 lo)
theorem zmE_ {xs:List α}{vs:List V}(q:Prs T H xs vs)(lo hi:Option Int):Prs T H (cutG xs lo hi) (cutV vs lo hi):=by
 unfold cutG cutV;rw[<- q.len];exact(q.drop _).take _
theorem EqD.le {H:Hp}{n m:Nat}{x y:V}{b:Bool}(h:EqD K H n x y b)(g:n<=m):EqD K H m x y b:=by
 induction g with
 |refl=>exact h
 |step _ ih=>exact .up ih
def MeO (K:Fgg)(m:V->List V->Hp->VK->Prop)(E:XK)(C:Cs γ)(g:List Nat->γ->Mo α)(O:Own α):Prop:=
 ∀l c vs F H (Q:VK),Same F H->C.R c vs F->After K (g l c) E F H (OwnK O H Q)->m (tx l) vs H Q
noncomputable def zfL (l:List Nat)(i:Int):List Nat:=(Txt.zfill ⟨l.toArray⟩ i).cps.toList
end
section
variable {K:Fgg}{E:XK}{α β:Type}{F H:Hp}{L:List Sl}{e:TE}{T:Ty α}{r:Mo α}
noncomputable def setL (L:List Sl)(ss:List (Nat×Sl)):List Sl:=ss.foldl (λL q=>L.set q.1 q.2) L
def setS (σ:St)(ss:List (Nat×Option V)):St:=ss.foldl (λL q=>L.set q.1 q.2) σ
inductive Plain (F:Hp):List (Nat×Sl)->List (Nat×Option V)->Prop
 |nil:Plain F [] []
 |cons {α:Type}{T:Ty α}{a:α}{i:Nat}{v:V}{ss vs} (h:T.R a v F) (t:Plain F ss vs):Plain F ((i,.fz T a)::ss) ((i,vj v)::vs)
def TgR (K:Fgg)(g:TG)(T:Ty α)(ss:α->List (Nat×Sl)):Prop:=
 ∀a v σ F H (Q:St->Hp->Prop),Same F H->T.R a v F->(∀vs,Plain F (ss a) vs->Q (setS σ vs) H)->g v σ H Q
theorem zfT_ {σ:St}{i j:Nat}{o:Option V}(h:i<σ.length):((σ.set i o)[j]?).join=if i=j then o else(σ[j]?).join:=by
 rw[nO];split
 ·rename_i e;subst e;first |rfl |(rw[if_pos h];rfl)
 ·rfl
theorem zh4_ {σ:St}{i:Nat}{s:Sl}{o:Option V}(hl:L.length=σ.length)(h:HoldF L σ F)(hs:s.Z o F):HoldF (L.set i s) (σ.set i o) F:=by
 intro j t e;rw[nO]at e;split at e
 ·rename_i z;subst z
  split at e
  ·rename_i y;cases e
   rw[zfT_ (by rw[<- hl];exact y),if_pos rfl];exact hs
  ·cases e
 ·rename_i z
  by_cases y:i<σ.length
  ·rw[zfT_ y,if_neg z];exact h j t e
  ·rw[List.set_eq_of_length_le (by lia)];exact h j t e
theorem zeY_ {ss:List (Nat×Sl)}{vs:List (Nat×Option V)}(p:Plain F ss vs):∀{L:List Sl}{σ:St},L.length=σ.length->HoldF L σ F->HoldF (setL L ss) (setS σ vs) F/\(setS σ vs).length=σ.length/\(setL L ss).length=L.length:=by
 induction p with
 |nil=>exact λhl h=>⟨h,rfl,rfl⟩
 |cons hv t ih=>
  rename_i T a i v ss vs
  intro L σ hl h;obtain⟨a1,b,c⟩:=ih (L:=L.set i (.fz T a)) (σ:=σ.set i (vj v)) (by rw[nj,nj];exact hl) (zh4_ (s:=.fz T a) hl h ⟨v,rfl,hv⟩)
  exact⟨a1,b.trans (by rw[nj]),c.trans (by rw[nj])⟩
def DeadAt (L:List Sl)(is:List Nat):Prop:=∀i∈is,∀s,L[i]?=vj s->s=.dead
theorem zjR_ {ss:List (Nat×Sl)}{vs:List (Nat×Option V)}(p:Plain F ss vs){j:Nat}:∀{σ:St},j∉ss.map (·.1)->(setS σ vs)[j]?=σ[j]?:=by
 induction p with
 |nil=>exact λ_=>rfl
 |cons hv t ih=>
  rename_i i v ss vs
  intro σ hj;have h1:i≠j:=λz=>hj (by rw[<- z];exact lW)
  have h2:=ih (σ:=σ.set i (vj v)) λz=>hj (lV _ z)
  exact h2.trans (l6 h1)
structure Yl (K:Fgg)(J:It)(xs:List α)(T:Ty α)(F1:Hp):Prop where
 go:∀i H x,Same F1 H->xs[i]?=vj x->J.go i H/\∀v H',J.yld i H v H'->∀F,Same F1 F->Same F H->∃F',Ext F H F' H'/\T.R x v F'
 stop:∀H,Same F1 H->J.stop xs.length H
def EvI (K:Fgg)(wi:TI)(E:XK)(L:List Sl)(r:Mo (List α))(T:Ty α):Prop:=
 ∀σ F H (R:It->Hp->Prop),HoldF L σ F->Same F H->After K r E F H (λxs F' H'=>∀J,Yl K J xs T F'->R J H')->wi σ H R
noncomputable def rngI (lo:Int)(n:Nat):List Int:=(mj n).map λ(i:Nat)=>lo+i
theorem zo0_ {lo:Int}{n:Nat}{F1:Hp}:Yl K (Itr lo n) (rngI lo n) tyInt F1:=by
 refine⟨λi H x hH hx=>?_,λH hH=>?_⟩
 ·unfold rngI at hx
  rw[lK]at hx;cases e:(mj n)[i]? with
  |none=>rw[e]at hx;cases hx
  |some c=>
   rw[e]at hx;cases hx;obtain⟨hi,e⟩:=lO.mp e;rw[rW]at e;subst e;rw[mM]at hi;refine⟨hi,?_⟩;rintro v H' ⟨rfl,rfl⟩ F _ hF;exact⟨F,.refl hF,rfl⟩
 ·show n<=_
  unfold rngI;rw[lq,mM];exact lC _
noncomputable def enumL (xs:List α):List (Int×α):=(mj xs.length).zip xs |>.map λq=>((q.1:Int),q.2)
theorem zbJ_ (xs:List α)(i:Nat):(enumL xs)[i]?=(xs[i]?).map λx=>((i:Int),x):=by
 unfold enumL;rw[lK];cases e:xs[i]? with
 |none=>
  have:=qq.mp e;rw[pf (by rw[mX,mM];lia)];rfl
 |some x=>
  have hi:=(lO.mp e).1;have:((mj xs.length).zip xs)[i]?=vj (i,x):=pH.mpr ⟨by rw[List.getElem?_range hi],e⟩
  rw[this];rfl
theorem zy_ (xs:List α):(enumL xs).length=xs.length:=by unfold enumL;rw[lq,mX,mM,oI]
def compM (f:α->Mo (Option β)):List α->List β->Mo (List β)
 |[],acc=>.ok acc
 |x::xs,acc=>(f x).bind λo=>match o with |none=>compM f xs acc |some y=>.lim (acc.length+1) (compM f xs (acc++[y]))
noncomputable def cL (lv:List Str)(fr:List (Str×Nat))(L:List Sl):List Sl:=lv.map (λ_=>Sl.dead)++fr.map λq=>(L[q.2]?).getD .dead
theorem zfo_ {lv:List Str}{fr:List (Str×Nat)}{σ:St}(h:HoldF L σ F):HoldF (cL lv fr L) (cS lv fr σ) F:=by
 intro i s e;unfold cL at e;unfold cS;by_cases hi:i<lv.length
 ·rw[mU (by rw[lq];exact hi),lK,lA hi]at e
  cases e;trivial
 ·rw[mH (by rw[lq];lia),lq,lK]at e
  rw[mH (by rw[lq];lia),lq,lK]
  cases z:fr[i-lv.length]? with
  |none=>rw[z]at e;cases e
  |some q=>
   rw[z]at e;have e:(L[q.2]?).getD .dead=s:=by simpa using e
   show Sl.Z s (σ[q.2]?).join F
   cases y:L[q.2]? with
   |none=>rw[y]at e;rw[<- e];trivial
   |some t=>rw[y]at e;cases e;exact h _ _ y
theorem zkY_ {lv:List Str}{fr:List (Str×Nat)}{σ:St}:(cL lv fr L).length=(cS lv fr σ).length:=by unfold cL cS;simp
def cond1 (c:Mo Bool)(f:Mo β):Mo (Option β):=(c.bind λb=>if b then f.bind λy=>.ok (vj y)else .ok vk).noex
end
def Okk (F0 H0 F h H:Hp):Prop:=Ext F0 H0 F H/\Dj F h/\Same h H/\(∀p,h p≠vk->H0 p=vk)/\∀p xs,h p≠vj (.tup xs)
section
variable {K:Fgg}{E:XK}{α:Type}{F0 H0 F h H:Hp}{e:TE}{r:Mo α}{t:TS}
theorem Okk.thaw (ok:Okk F0 H0 F h H):Same (un F h) H:=λp o e=>by
 unfold un at e;cases z:F p with
 |some w=>rw[z]at e;cases e;exact ok.1.2.1 _ _ z
 |none=>rw[z]at e;exact ok.2.2.1 _ _ e
def less (G h:Hp):Hp:=λp=>match h p with |none=>G p |some _=>vk
theorem zab_ {G h:Hp}{p:lE}(e:h p=vk):less G h p=G p:=by unfold less;rw[e]
theorem Okk.back (ok:Okk F0 H0 F h H){G' H':Hp}(x:Ext (un F h) H G' H'):Okk F0 H0 (less G' h) h H'/\Same F (less G' h)/\Tups G' (less G' h):=by
 obtain⟨o1,o2,o3,o4,o5⟩:=ok;have hs:Same F (less G' h):=λp o e=>by
  have hp:h p=vk:=by
   rcases o2 p with z |z
   ·rw[z]at e;cases e
   ·exact z
  rw[zab_ hp];exact x.1 _ _ (zW_ _ _ e)
 refine⟨⟨⟨o1.1.trans hs,λp o e=>?_,o1.2.2.1.trans x.2.2.1,λp a b=>?_⟩,λp=>?_,λp o e=>?_,o4,o5⟩,hs,λp xs e=>?_⟩
 ·unfold less at e
  split at e
  ·exact x.2.1 _ _ e
  ·cases e
 ·unfold less at b
  split at b
  ·rename_i z
   cases y:un F h p with
   |none=>exact o1.2.2.1.free (x.2.2.2 p y b)
   |some o=>
    unfold un at y;cases w:F p with
    |some _=>exact o1.2.2.2 p a (by rw[w];exact sN _)
    |none=>rw[w,z]at y;cases y
  ·exact absurd rfl b
 ·unfold less
  cases z:h p with
  |none=>exact .inr rfl
  |some o=>exact .inl rfl
 ·exact x.2.1 _ _ (x.1 _ _ (zdJ_ o2 _ _ e))
 ·unfold less
  cases z:h p with
  |none=>exact e
  |some o=>
   have:=x.1 _ _ (zdJ_ o2 _ _ z);rw[e]at this;cases this;exact absurd z (o5 p xs)
theorem Tell.back {x:Xc}(ok:Okk F0 H0 F h H){G' H':Hp}(y:Ext (un F h) H G' H')(t:Tell K E x H0 (less G' h) H'):Tell K E x H G' H':=by
 cases x with
 |pl c=>exact t
 |«at» c as=>
  refine λdx fs e q r=>t dx fs (ok.1.2.2.1.free e) ?_ (r.imm (ok.back y).2.2)
  rw[zab_ (ok.2.2.1.free e)];exact q
theorem Okk.cold (ok:Okk F0 H0 F h H){F' H':Hp}(x:Ext F H F' H'):Okk F0 H0 F' h H':=by
 refine⟨ok.1.trans x,λp=>?_,ok.2.2.1.trans x.2.2.1,ok.2.2.2.1,ok.2.2.2.2⟩
 cases z:h p with
 |none=>exact .inr rfl
 |some o=>
  left;rcases ok.2.1 p with y |y
  ·cases w:F' p with
   |none=>rfl
   |some o'=>have:=x.2.2.2 p y (by rw[w];exact sN _);rw[ok.2.2.1 _ _ z]at this;cases this
  ·rw[y]at z;cases z
theorem zjF_ {hn h:Hp}(hh:Same h H)(fresh:∀p,hn p≠vk->H p=vk):Dj hn h:=λp=>by
 cases z:hn p with
 |none=>exact .inl rfl
 |some w=>
  have:=fresh p (by rw[z];exact sN _)
  exact .inr (hh.free this)
theorem zkH_ {α:Type}{l:List α}{i:Nat}{o:α}(h:l[i]?=vj o):l.set i o=l:=by
 obtain⟨hi,e⟩:=lO.mp h;rw[<- e];exact List.set_getElem_self hi
theorem Okk.rebase {F1 H1:Hp}(x:Ext F0 H0 F1 H1)(ok:Okk F0 H0 F h H)(s:Same F1 F):Okk F1 H0 F h H:=by
 obtain⟨o1,o2,o3,o4,o5⟩:=ok;refine⟨⟨s,o1.2.1,o1.2.2.1,λp a b=>o1.2.2.2 p (x.1.free a) b⟩,o2,o3,o4,o5⟩
theorem Okk.unbase {F1 H1:Hp}(x:Ext F0 H0 F1 H1)(ok:Okk F1 H0 F h H):Okk F0 H0 F h H:=by
 obtain⟨o1,o2,o3,o4,o5⟩:=ok;refine⟨⟨x.1.trans o1.1,o1.2.1,o1.2.2.1,λp a b=>?_⟩,o2,o3,o4,o5⟩
 cases z:F1 p with
 |none=>exact o1.2.2.2 p z b
 |some w=>exact x.2.2.2 p a (by rw[z];exact sN _)
variable {L:List Sl}
def CDivG (i j:Int):Prop:=0<j/\qc i j=vn
noncomputable instance (i j:Int):Decidable (CDivG i j):=inferInstanceAs (Decidable (_/\_))
noncomputable instance (i j:Int):Decidable (IntMulOk i j):=inferInstanceAs (Decidable (¬_))
abbrev mMulG:R2:=mI IntMulOk λi j=>.int (i*j)
abbrev mDivG:R2:=mI CDivG λi j=>.int (i / j)
theorem zok_ {X:Cx}:OpR X (nR .Mult) mMulG:=opM (opI λ_ _ _ _ _ _ _ hc q=>mul_int q hc)
theorem zlo_ {X:Cx}:OpR X (nR .FloorDiv) mDivG:=opM (opI λi j _ _ _ _ _ hc q=>by
 have h1:(0:Int)<j:=hc.1;exact floordiv_int (by lia) (by rw[Int.fdiv_eq_ediv_of_nonneg i (by lia)];exact q) (.inl hc.2))
theorem zmd_:EvT K tTrue E L (.ok vm):=λσ F H Q hL hs q=>q.ok hs
end
section
variable {α:Type}
open PySem PySem.Spec PyProof.Rows in
theorem zlI_ {a j:Int}(h0:0<j)(h:j.natAbs.log2<9000):CDivG a j:=by
 refine⟨h0,?_⟩;unfold qc;simp only;rw[Bool.and_eq_false_iff];left;rw[decide_eq_false_iff_not];split<;>lia
theorem log2_lt {n k:Nat}(h:n<2 ^ k):n.log2<k\/n=0:=by
 by_cases hz:n=0
 ·exact .inr hz
 ·exact .inl ((Nat.log2_lt hz).mpr h)
theorem zou_ {a j:Int}(h0:0<j)(h:j<2 ^ 1000):CDivG a j:=by
 refine zlI_ h0 ?_;have h1:j.natAbs<2 ^ 1000:=by
  have:((2:Int) ^ 1000)=((2 ^ 1000:Nat):Int):=by rw[Int.natCast_pow];rfl
  rw[this]at h;lia
 rcases log2_lt h1 with h |h
 ·lia
 ·rw[h];decide
open PySem PySem.Spec PyProof.Rows in
theorem zdm_ {i j:Int}(h : -(2 ^ 64)<i/\i<2 ^ 64 \/ -(2 ^ 64)<j/\j<2 ^ 64):IntMulOk i j:=CMul.ok h
theorem zd3_ (lo:Int)(n:Nat):(rngI lo n).length=n:=by unfold rngI;rw[lq,mM]
theorem zhC_ {xs:List α}{k:Int}(h0:0<=k):atI xs k=xs[k.toNat]?:=by
 unfold atI ixN;rw[if_pos h0];split
 ·rfl
 ·rename_i h
  rw[pf (by omega)];rfl
theorem zfq_ {xs:List α}{k:Int}(h0:0<=k)(h1:k<xs.length):∃x,atI xs k=vj x/\x∈xs:=by
 rw[zhC_ h0,lA (show k.toNat<xs.length by lia)]
 exact⟨_,rfl,pC _⟩
theorem zjN_ (xs:List α)(lo hi:Option Int):(cutG xs lo hi).length<=xs.length:=by
 unfold cutG;rw[mS,mY];lia
end
section
variable {F0 H0 F h H:Hp}
theorem zgH_ {p:lE}{o':HO}{h1' hr h':Hp}(ok:Okk F0 H0 F h H)(hp:h p≠vk)(nt:∀xs,o'≠.tup xs)(h':Hp)(hh:∀q,h' q=if q=p then vj o' else h q):Okk F0 H0 F h' (upd H p o'):=by
 obtain⟨o1,o2,o3,o4,o5⟩:=ok;have Fp:F p=vk:=by
  rcases o2 p with z |z
  ·exact z
  ·exact absurd z hp
 have i0:H0 p=vk:=o4 p hp;refine⟨⟨o1.1,λq o z=>?_,λq o z=>?_,o1.2.2.2⟩,λq=>?_,λq o z=>?_,λq z=>?_,λq ys z=>?_⟩
 ·unfold upd;split
  ·rename_i w;rw[w,Fp]at z;cases z
  ·exact o1.2.1 _ _ z
 ·unfold upd;split
  ·rename_i w;rw[w,i0]at z;cases z
  ·exact o1.2.2.1 _ _ z
 ·rw[hh];split
  ·rename_i w;rw[w];exact .inl Fp
  ·exact o2 q
 ·rw[hh]at z;unfold upd
  split at z
  ·rename_i w;rw[if_pos w];exact z
  ·rename_i w;rw[if_neg w];exact o3 _ _ z
 ·rw[hh]at z;split at z
  ·rename_i w;rw[w];exact i0
  ·exact o4 q z
 ·rw[hh]at z;split at z
  ·exact nt ys (by injection z)
  ·exact o5 q ys z
@[irreducible] def fuelW:Nat:=100000
end
open PySem.SeqAt
open PySem.AutoSeq1 (wpAny_loadPart')
open PySem.MeetsSeq PySem.MeetsSeq2 PySem.MeetsSeq3
theorem zhd_:entryFor table "list.__eq__.loop"=vj qw.«list.__eq__.loop»:=by kernel_rfl!
theorem zdv_ (A:my)(args:vf):A.under (Code.builtin "list.__eq__.loop" args)=A.in1:=by rfl
theorem zdw_ (args:vf):(Code.builtin "list.__eq__.loop" args).quiet=vm:=by first |kernel_rfl! |simp[Code.quiet]|(unfold Code.quiet;decide +kernel)
theorem zbS_:∀{vs:List aV}{ns:List Int},IntsAre vs ns->∀i:Nat,(vs[i]?=vk/\ns[i]?=vk)\/∃a t,vs[i]?=vj (.int a t)/\ns[i]?=vj a
 |_,_,.nil,i=>.inl ⟨rfl,rfl⟩
 |_,_,.cons a t h,0=>.inr ⟨a,t,rfl,rfl⟩
 |_,_,.cons a t h,i+1=>by simpa using zbS_ h i
theorem zbt_ {α:Type}{xs:List α}{i:Nat}{a:α}(h:xs[i]?=vj a):xs.drop i=a::xs.drop (i+1):=by
 obtain⟨hi,e⟩:=lO.mp h;rw[<- e];exact pI hi
theorem zcN_ {α:Type}{xs:List α}{i:Nat}(h:xs[i]?=vk):xs.drop i=[]:=rd (qq.mp h)
theorem zdX_ (l b:lE)(items ai:Array aV)(n n2:Nat)(dd cK:Option lE)(sl cA:Array (Option aV))(ns ms:List Int)(hi:IntsAre items.toList ns)(hj:IntsAre ai.toList ms):∀(k i:Nat),items.size-i=k->i<=items.size->i<=ai.size ->
  Meets (qw.«list.__eq__.loop» ⟨[.ref l,.ref b,rawInt (i:Nat),rawInt 0],[]⟩)
   (λ_ R s=>s.heap.get? l=vj {cls:=.type "list",dict:=dd,data:=.seq items n,slots:=sl}/\s.heap.get? b=vj {cls:=.type "list",dict:=cK,data:=.seq ai n2,slots:=cA} /\
    R (.ok (.ret (.bool (HT.lexLt (ns.drop i) (ms.drop i))))) s):=by
 intro k;induction k with
 |zero=>
  intro i hk b1 b2 prog w A R s h;obtain⟨hl,hb,h⟩:=h
  wp_walk using wpAny_listItems hl rfl,wpAny_listItems hb rfl
  have e1:items[i]?=vk:=Array.getElem?_eq_none (by lia)
  have bK:ns[i]?=vk:=by
   rcases zbS_ hi i with⟨_,z⟩|⟨a,t,z,_⟩
   ·exact z
   ·rw[mP,e1]at z;cases z
  rw[qx,e1];rw[zcN_ bK]at h;rcases zbS_ hj i with⟨z1,z2⟩|⟨c,u,z1,z2⟩
  ·rw[mP]at z1
   rw[z1];rw[zcN_ z2]at h
   wp_walk using wpAny_listItems hl rfl,wpAny_listItems hb rfl
   show R (.ok (.ret (.bool (decide (items.size<ai.size))))) s
   have z1:=pA.mp z1;rw[decide_eq_false (by lia)];exact h
  ·rw[mP]at z1
   rw[z1];rw[zbt_ z2]at h
   wp_walk using wpAny_listItems hl rfl,wpAny_listItems hb rfl
   show R (.ok (.ret (.bool (decide (items.size<ai.size))))) s
   have z3:=(oj.mp z1).1;rw[decide_eq_true (by lia)];exact h
 |succ k ih=>
  intro i hk b1 b2 prog w A R s h;obtain⟨hl,hb,h⟩:=h
  wp_walk using wpAny_listItems hl rfl,wpAny_listItems hb rfl
  rw[qx];rcases zbS_ hi i with⟨z1,z2⟩|⟨a,t,z1,z2⟩
  ·rw[mP]at z1
   rw[pA]at z1;lia
  rw[mP]at z1;rw[z1];rw[zbt_ z2]at h;rcases zbS_ hj i with⟨y1,y2⟩|⟨c,u,y1,y2⟩
  ·rw[mP]at y1
   rw[y1];rw[zcN_ y2]at h
   wp_walk using wpAny_listItems hl rfl,wpAny_listItems hb rfl
   show R (.ok (.ret (.bool (decide (items.size<ai.size))))) s
   have z3:=(oj.mp z1).1;have y3:=pA.mp y1;rw[decide_eq_false (by lia)];exact h
  rw[mP]at y1;rw[y1];rw[zbt_ y2,HT.lexLt_cons]at h;obtain⟨e,he,hiff⟩:=HT.eqAt_int A.in1 s a t c u;refine ll (he prog w _ _ ?_);cases e with
  |true=>
   rw[if_pos (hiff.mp rfl)]at h
   wp_walk
   refine⟨zdw_ _,codeAny_builtin zhd_ ?_⟩;rw[zdv_];have q1:=(oj.mp z1).1;have q2:=(oj.mp y1).1;exact ih (i+1) (by lia) (by lia) (by lia) prog w A R s ⟨hl,hb,h⟩
  |false=>
   rw[if_neg (λq=>absurd (hiff.mpr q) mN)]at h
   have jF:=HT.rcLt_int A.in1 s a t c u prog w
   wp_walk using wpAny_listItems hl rfl,wpAny_listItems hb rfl
   rw[z1,y1]
   wp_walk using jF
   exact h
theorem zd2_ (l b:lE)(items ai:Array aV)(n n2:Nat)(dd cK:Option lE)(sl cA:Array (Option aV))(ns ms:List Int)(hi:IntsAre items.toList ns)(hj:IntsAre ai.toList ms):
  Meets (qw.«list.__lt__» ⟨[.ref l,.ref b],[]⟩)
   (λ_ R s=>s.heap.get? l=vj {cls:=.type "list",dict:=dd,data:=.seq items n,slots:=sl}/\s.heap.get? b=vj {cls:=.type "list",dict:=cK,data:=.seq ai n2,slots:=cA} /\
    R (.ok (.ret (.bool (HT.lexLt ns ms)))) s):=by
 intro prog w A R s h;obtain⟨hl,hb,h⟩:=h;have f2:=AutoSeq1.sub_list_list
 wp_walk using wpAny_loadPart' hl,wpAny_loadPart' hb
 refine⟨zdw_ _,codeAny_builtin zhd_ ?_⟩;rw[zdv_];exact zdX_ l b items ai n n2 dd cK sl cA ns ms hi hj _ 0 rfl (mq _) (mq _) prog w A R s ⟨hl,hb,h⟩
section
variable {α:Type}
theorem zlJ_ {n d:Nat}{i:Int}(h:0<=i):HT.sIx n d (vj i)=min i.toNat n:=by
 unfold HT.sIx;simp only;split<;>lia
theorem zfY_ {xs:List α}{i:Int}(h:0<=i):cutG xs vk (vj i)=xs.take i.toNat:=by
 unfold cutG;rw[zlJ_ h,show HT.sIx xs.length 0 vk=0 from rfl,tL,Nat.sub_zero,<- List.take_take,List.take_length]
theorem zej_ {xs:List α}{i:Int}(h:0<=i):cutG xs (vj i) vk=xs.drop i.toNat:=by
 unfold cutG;rw[zlJ_ h,show HT.sIx xs.length xs.length vk=xs.length from rfl]
 by_cases hl:i.toNat<=xs.length
 ·rw[tE hl,oU (by rw[mY];exact lC _)]
 ·rw[Nat.min_eq_right (by lia),qJ,rd (by lia),rM]
theorem zer_ {xs:List α}{q:Int×α}(h:q∈enumL xs):∃i:Nat,i<xs.length/\q.1=i/\xs[i]?=vj q.2:=by
 obtain⟨i,hi,e⟩:=List.mem_iff_getElem.mp h;rw[zy_]at hi;have:=zbJ_ xs i;rw[lA (by rw[zy_];exact hi),e]at this
 refine⟨i,hi,?_⟩;cases e2:xs[i]? with
 |none=>rw[e2]at this;cases this
 |some x=>rw[e2]at this;injection this with this;rw[this];exact⟨rfl,rfl⟩
end
noncomputable def repL {α:Type}(xs:List α)(n:Int):List α:=(lR n.toNat xs).flatten
def CRep (m:Nat)(n:Int):Prop:=0<=n/\n<=100000/\m<=100000/\m*n.toNat<=100000
noncomputable instance (m:Nat) (n:Int):Decidable (CRep m n):=inferInstanceAs (Decidable (_/\_))
def mMulX:R2:=λx y H Q=>match x,y with
 |.int i,.int j=>IntMulOk i j/\Q (.int (i*j)) H
 |.str z,.int n=>CRep z.cps.toList.length n/\Q (tx (repL z.cps.toList n)) H
 |.ref l,.int k=>∃xs,H l=vj (.lst xs)/\CRep xs.length k/\∀p,H p=vk->Q (.ref p) (upd H p (.lst (repL xs k)))
 |_,_=>False
theorem zjj_ (z:Array Nat)(n:Nat):(qX (λx1 x2=>x1++x2) #[] (lR n z)).toList=(lR n z.toList).flatten:=by
 have:∀(l:List (Array Nat)) (acc:Array Nat),(l.foldl (λx1 x2=>x1++x2) acc).toList=acc.toList++(l.map qS).flatten:=by
  intro l;induction l with
  |nil=>intro acc;simp
  |cons a l ih=>intro acc;rw[pP,ih];simp
 rw[this];simp
theorem znH_ {X:Cx}:OpR X (nR .Mult) mMulX:=by
 intro pins s σ H x y v u Q I rx ry h
 cases x<;>cases y<;>first
  |exact h.elim
  |exact zok_ pins s σ H _ _ v u Q I rx ry h
  | (obtain⟨xs,hl,⟨c1,c2,c3,c4⟩,q⟩:=h
     exact zp8_ pins s σ H _ _ v u Q I rx ry ⟨_,_,xs,rfl,rfl,hl,by lia,by lia,zaT_ c4,q⟩)
  | (rename_i z n
     obtain⟨⟨c1,c2,c3,c4⟩,q⟩:=h;obtain⟨t,rfl⟩:=rx;obtain⟨t',rfl⟩:=ry;have hz:z.length=z.cps.toList.length:=by simp[nJ]
     refine PySem.P.mul_str (by simp;lia) (λh1 h2=>?_) (λh1 h2=>?_) ?_
     ·rw[hz]
      have hn:0<n:=by lia
      have:(z.cps.toList.length:Int)*n<=2 ^ 63-1:=by
       have e:n=(n.toNat:Int):=by lia
       rw[e,<- Int.natCast_mul];lia
      have:=Int.le_ediv_of_mul_le hn this;lia
     ·unfold qg
      rw[hz];have:=zaT_ c4;exact decide_eq_false (by lia)
     ·by_cases h1:n<1
      ·rw[if_pos h1]
       have:n=0:=by lia
       subst this;exact⟨mq _,tx [],H,I.tok _,⟨_,rfl⟩,q⟩
      ·rw [if_neg h1]
       by_cases h2:(n == 1 ||z.length == 0)=vm
       ·rw[if_pos h2]
        have e:repL z.cps.toList n=z.cps.toList:=by
         unfold repL;rw[oB]at h2;rcases h2 with h2 |h2
         ·have:n=1:=by simpa using h2
          subst this;simp
         ·have:z.cps.toList=[]:=mJ.mp (by rw[<- hz];simpa using h2)
          rw[this];simp
        rw[e]at q;refine⟨tx z.cps.toList,H,I,⟨t,?_⟩,q⟩;show pQ z t=pQ ⟨z.cps.toList.toArray⟩ t
        rw[<- zat_]
       ·rw[if_neg h2]
        refine⟨?_,tx (repL z.cps.toList n),H,I.tok _,⟨s.toks,?_⟩,q⟩
        ·have e:(⟨qX (λx1 x2=>x1++x2) #[] (lR n.toNat z.cps)⟩:Str).length=(lR n.toNat z.cps.toList).flatten.length:=by
          rw[<- zjj_];simp[nJ]
         rw[e,ziS_];exact zaT_ (by rw[so];exact c4)
        show pQ _ _=pQ _ _
        congr 1;unfold repL;rw[<- zjj_])
section
variable {α:Type}{H:Hp}{T:Ty α}
theorem znj_ {xs:List α}{vs:List V}(hr:Prs T H xs vs)(n:Int):Prs T H (repL xs n) (repL vs n):=by
 unfold repL;induction n.toNat with
 |zero=>exact .nil
 |succ m ih=>rw[mZ,mZ,oH,oH];exact hr.append ih
noncomputable def strsL (l:List (List Nat)):List Str:=l.map λz=>⟨z.toArray⟩
end
section
variable {κ:Type}
variable [DecidableEq κ]
end
section
variable {κ:Type}[DecidableEq κ]
end
section
end
theorem zfz_:∀(w m n:Nat),m<10 ^ w->n<10 ^ w->digs w m=digs w n->m=n
 |0,m,n,h1,h2,_=>by simp at h1 h2;lia
 |w+1,m,n,h1,h2,h=>by
  rw[zbM_,zbM_]at h;injection h with a b;have hm:m / 10 ^ w<10:=by rw[pW (rF (by decide))];rw[pS]at h1;lia
  have hn:n / 10 ^ w<10:=by rw[pW (rF (by decide))];rw[pS]at h2;lia
  rw[sU hm,sU hn]at a;have a':m / 10 ^ w=n / 10 ^ w:=by lia
  have b':digs w (m % 10 ^ w)=digs w (n % 10 ^ w):=by rw[zd9_,zd9_];exact b
  have:=zfz_ w (m % 10 ^ w) (n % 10 ^ w) (tM _ (rF (by decide))) (tM _ (rF (by decide))) b'
  rw[<- rm m (10 ^ w),<- rm n (10 ^ w),a',this]
section
end
end L2
namespace Att
open PySem PySem.W PySem.Calls PyProof.Rows
theorem zjx_ {ns:List Int}(h:WData.layableAll [WData.list (ns.map WData.int)]=vm):∀x∈ns,pJ x<=1048576:=by
 intro x hx;have h1:=layableW_arg h _ (mz.mpr rfl);have h2:=layableW_item h1 (.int x) (nW.mpr ⟨x,hx,rfl⟩);exact PyData.bits_of_layable (layable_int h2)
theorem attach_callB {l:OpenLaw}{n:Nat}{q:l5}{loose:List Str}{XP:(Str->Option aV)->Heap->Prop}{YP:mx->Heap->Prop}{d:DefRec}
  (hn:l.most=vj n) (eY:d.params.defaults=[])
  (call:∀(w:mx) (s₀ ab:lu) (mg mb:Str->Option aV) (fa:lE) (o:tT) (pm cd doc:aV) (a:lE) (vs:List aV) (ns:List Int),
   (∀x∈ns,pJ x<=1048576) ->
   Ground q loose [] XP w s₀ mg mb ab.heap->YP w ab.heap ->
   ab.heap.get? fa=vj o->o.data=.func (docDef d.name d.params d.body d.scope pm cd doc)->ab.heap.CodeRec cd d.name->mg d.name=vj (.ref fa) ->
   ab.heap.get? a=vj {cls:=.type "list",data:=.seq vs.toArray}->IntsAre vs ns->ns.length<=n->ab.gens=#[] ->
   codeAny (model l.prog w) callerA (.call (.ref fa) ⟨[.ref a],[]⟩) (λr s'=>r=.ok (.ret (.bool vm))/\OldK ab.heap s'.heap/\s'.os=ab.os/\AllBare s'.gens) ab):
  WalkO q loose XP YP l.row.toRowW d [] (λf vs=>tO f vs):=by
 intro w s₀ ab mg mb G Y fa o pm cd doc dV kV ho hd aC hD eL hg args vals as cG gK kR gz kZ;obtain rfl:dV=.none:=Dflts.none hD eY;obtain rfl:kV=.none:=Dflts.noKw hD;obtain⟨a,vs,ns,rfl,rfl,di,hints,hlen⟩:=zin_ hn cG gz;refine enter_call (codeAny_mono (call w s₀ ab mg mb fa o pm cd doc a vs ns (zjx_ gK) G Y ho (fd_plain hd) aC eL di hints hlen hg) λr s' hq=>?_)
 obtain⟨rfl,h2,h3,h4⟩:=hq;exact⟨.inl ⟨.bool vm,.bool vm,[],rfl,λ_=>rfl,.bool vm,zh1_ l _,λ_=>⟨sr,λ_ hm=>(nomatch hm)⟩⟩,h2,h3,h4⟩
end Att
namespace L2
open PySem PySem.Spec PyProof.Rows
theorem zjy_ {l:t9}{n k:Nat}{q:l5}{loose:List Str}{XP:(Str->Option aV)->Heap->Prop}{YP:mx->Heap->Prop}{d:DefRec}{K:Params->Fgg}{CX:mx->CXT}{sp:mx->Sp}{x:Str}
  (hn:l.most=vj n) (fN:n<=lL) (eY:d.params.defaults=[]) (hr:Room k callerA) (bZ:∀p,lamOk q (K p)=vm)
  (hY:∀(w:mx) (h:Heap),YP w h->(K w.params).In h)
  (F:∀(w:mx) (mg:Str->Option aV) (fa:lE) (h:Heap),(K w.params).In h->h.Ns lU mg->mg d.name=vj (.ref fa) ->
   ∃fd:mW,(∀(s:lu) (u:aV),BindsTo s fd ⟨[u],[]⟩ [(x,u)]) /\
    ∀base:Heap,(K w.params).In base->base.Ns lU mg->FnOk l.prog w (K w.params) mg base (CX w) k fa fd [x] (sp w))
  (dQ:∀(w:mx) (H:Hp) (a:lE) (ns:List Int),ns.length<=n->(∀x∈ns,pJ x<=1048576)->Only H->SqL (K w.params) H a (ns.map V.int)->sp w [.ref a] H (λv _=>v=.bl vm) λ_ _ _=>False)
  (gZ:∀(w:mx) (H:Hp) (s:lu) (e:aV) (s':lu),CX w [] H s (λ_ _ _=>False) e s'->False):
  W.WalkO q loose XP YP l.row.toRowW d [] (λf vs=>tO f vs):=by
 refine Att.attach_callB hn eY λw s₀ ab mg mb fa o pm cd doc a vs ns e_ G Y ho hd aC eL di hints hlen hg=>?_
 have KX:=hY w _ Y;obtain⟨fd,hb,hF⟩:=F w mg fa _ KX G.T.g eL;exact zjz_ KX G.T.g G.T.b G.T.builtins G.T.nolimit G.T.bmain hg di hints (m5 hlen fN) hr hF hb (λH hO hS=>dQ w H a ns hlen e_ hO hS) (λH e s'=>gZ w H ab e s') (zmz_ G.T KX (bZ _))
abbrev BitsOk (ns:List Int):Prop:=∀x∈ns,pJ x<=1048576
open PySem PySem.Spec PyProof.Rows PySem.W
section
variable {α β:Type}
def okT (lt:Nat->Nat->Bool)(n:Nat):KasT α->(α->Prop)->Prop
 |.ret a,P=>P a
 |.ask i j k,P=>i<n/\j<n/\okT lt n (k (lt i j)) P
variable {lt:Nat->Nat->Bool}{n:Nat}
theorem zby_ {f:α->KasT β}{P:β->Prop}:∀(t:KasT α),okT lt n t (λa=>okT lt n (f a) P)->okT lt n (t.bind f) P
 |.ret _,h=>h
 |.ask i j k,h=>⟨h.1,h.2.1,zby_ (k (lt i j)) h.2.2⟩
theorem zaW_ {P Q:α->Prop}(hq:∀a,P a->Q a):∀(t:KasT α),okT lt n t P->okT lt n t Q
 |.ret _,h=>hq _ h
 |.ask i j k,h=>⟨h.1,h.2.1,zaW_ hq (k (lt i j)) h.2.2⟩
theorem zno_ {prog:l5}{w:mx}{A:my}{κ:SortKind}{vs:List aV}{s:lu}{P:α->Prop}{Q:α->lu->Prop}
  (cm:∀i j (C:Bool->lu->Prop),i<n->j<n->C (lt i j) s->kas_ask prog w A κ vs i j C s) (hq:∀a,P a->Q a s):∀t:KasT α,okT lt n t P->t.kasWp (kas_ask prog w A κ vs) Q s
 |.ret a,h=>hq a h
 |.ask i j k,h=>cm i j (λb s'=>(k b).kasWp (kas_ask prog w A κ vs) Q s') h.1 h.2.1 (zno_ cm hq (k (lt i j)) h.2.2)
structure WOr (lt:Nat->Nat->Bool):Prop where
 asym:∀{a b},lt a b=vm->lt b a=vn
 tr:∀{a b c},lt b a=vn->lt c b=vn->lt c a=vn
abbrev le (lt:Nat->Nat->Bool)(a b:Nat):Prop:=lt b a=vn
theorem WOr.refl (w:WOr lt)(a:Nat):le lt a a:=by
 cases h:lt a a with
 |false=>exact h
 |true=>exact w.asym h
abbrev Pm (p:Array Nat)(n:Nat):Prop:=p.toList.Perm (mj n)
theorem zbm_ {p:Array Nat}(h:Pm p n):p.size=n:=by have:=h.length_eq;rwa[mM,mQ]at this
theorem zhp_ {p:Array Nat}(h:Pm p n){i:Nat}(hi:i<n):p.getD i 0<n:=by
 have hs:=zbm_ h;have:p.getD i 0=p[i]'(by lia):=by simp[rY,hs,hi]
 rw[this];exact mV.mp (h.mem_iff.mp (by simp))
theorem zaB_ {p q:Array Nat}{i j:Nat}(h:p[i]?=q[j]?):p.getD i 0=q.getD j 0:=by
 rw[m6,m6,h]
theorem zgY_ {p:Array Nat}(h:Pm p n)(i j:Nat):Pm (kas_rev p i j) n:=(ql.mp (mirror_perm p i j _)).trans h
theorem zb9_ {p:Array Nat}{i j:Nat}(hj:j<=p.size)(k:Nat):(kas_rev p i j).getD k 0=if i<=k/\k<j then p.getD (i+j-1-k) 0 else p.getD k 0:=by
 have:=getElem?_mirror_all (xs:=p) (i:=i) hj k;split
 ·rename_i q;rw[if_pos q]at this;exact zaB_ this
 ·rename_i q;rw[if_neg q]at this;exact zaB_ this
end
section
end
theorem zeQ_ {ys:List V}{us:List aV}(r:Vals ys us){i:Nat}(h:i<us.length):∃y,ys[i]?=vj y/\RelV y (us.getD i nz)/\y∈ys:=by
 have hl:=Vals.length r;have e:ys[i]?=vj ys[i]:=lA (by omega)
 obtain⟨u,eu,ru⟩:=Vals.get r e;refine⟨_,e,?_,pC _⟩;rw[lZ,eu];exact ru
theorem zgW_ {ys:List V}{us:List aV}(r:Vals ys us):∀(idx:List Nat),(∀i∈idx,i<us.length)->Vals (idx.map λi=>ys.getD i .non) (idx.map λi=>us.getD i nz)
 |[],_=>.nil
 |i::idx,h=>by
  obtain⟨y,e,ry,_⟩:=zeQ_ r (h i (lW ..));refine .cons ?_ (zgW_ r idx λj hj=>h j (lV _ hj))
  show RelV (ys.getD i V.non) _
  rw[lZ,e];exact ry
section
variable {α:Type}
structure LOr (lt:α->α->Bool):Prop where
 asym:∀{a b},lt a b=vm->lt b a=vn
 tr:∀{a b c},lt b a=vn->lt c b=vn->lt c a=vn
 anti:∀{a b},lt a b=vn->lt b a=vn->a=b
noncomputable def srtL (lt:α->α->Bool)(xs:List α):List α:=xs.mergeSort (λa b=>!lt b a)
theorem zeU_ (lt:α->α->Bool)(xs:List α):(srtL lt xs).Perm xs:=List.mergeSort_perm _ _
theorem ze1_ {lt:α->α->Bool}(o:LOr lt)(xs:List α):(srtL lt xs).Pairwise λa b=>lt b a=vn:=by
 have:=List.pairwise_mergeSort (le:=λa b=>!lt b a) (λa b c h1 h2=>by simp only[qv]at *;exact o.tr h1 h2) (λa b=>by
  cases h:lt b a with
  |false=>simp
  |true=>simp[o.asym h]) xs
 exact this.imp (λh=>by simpa using h)
theorem zgh_ {lt:α->α->Bool}(o:LOr lt):∀{ws ys:List α},ws.Perm ys->ws.Pairwise (λa b=>lt b a=vn)->ys.Pairwise (λa b=>lt b a=vn)->ws=ys
 |[],ys,hp,_,_=>by rw[List.Perm.nil_eq hp]
 |w::ws,[],hp,_,_=>by have:=hp.length_eq;simp at this
 |w::ws,y::ys,hp,h1,h2=>by
  obtain⟨a1,a2⟩:=qm.mp h1;obtain⟨b1,b2⟩:=qm.mp h2;have e:w=y:=by
   have m1:w∈y::ys:=hp.mem_iff.mp (lW ..);have m2:y∈w::ws:=hp.mem_iff.mpr (lW ..);rcases lQ.mp m1 with e |m1
   ·exact e
   ·rcases lQ.mp m2 with e |m2
    ·exact e.symm
    ·exact o.anti (b1 w m1) (a1 y m2)
  subst e;rw[zgh_ o (List.Perm.cons_inv hp) a2 b2]
theorem zbH_ {lt:α->α->Bool}(o:LOr lt){ws xs:List α}(hp:ws.Perm xs)(hs:ws.Pairwise λa b=>lt b a=vn):ws=srtL lt xs:=
 zgh_ o (hp.trans (zeU_ lt xs).symm) hs (ze1_ o xs)
noncomputable def ltI (a b:Int):Bool:=decide (a<b)
theorem zlu_:LOr ltI:=by
 unfold ltI;refine⟨λh=>?_,λh h'=>?_,λh h'=>?_⟩<;>simp only[decide_eq_true_eq,decide_eq_false_iff_not]at*<;> lia
end
end L2
universe u
namespace L2
open PySem PySem.Spec PyProof.Rows
section
end
open PySem PySem.Spec PyProof.Rows PySem.W
section
variable {prog:l5}{w:mx}{A:my}{E:aV->lu->Prop}{s:lu}{T:String}{rr dd:lE}{n:Nat}{PP:Nat->aV->Prop}{OK:Heap->Prop}
theorem zkX_ {R:List aV->lu->Prop}(Kd:KdlSrc prog w T rr dd n PP OK)(hh:A.handled=vk)(hok:OK s.heap)(hn:n<=lL)
  (hR:∀(h':Heap) (tk:Nat) (acc:Array aV),s.heap.objs.size<h'.objs.size->(∀b o,s.heap.get? b=vj o->h'.get? b=vj o)->ItemsOf PP acc n->R acc.toList {s with heap:=h',toks:=tk}):
  lX (model prog w) A (collect (.ref rr)) R E s:=by
 obtain⟨lr,ld⟩:=Kd.there _ hok;unfold collect;refine ll (wpAny_runValue (codeAny_builtin entry_proto_collect' ?_));rw[Around.under_plainId PySem.F.plain_proto_collect _];show lX _ A.in1 (newList []>>=λl=>again (.builtin "list.__iadd__" ⟨[l,.ref rr],[]⟩)) _ _ s;refine ll (wpAny_newObj_type ?_)
 refine lM ⟨plainId_quiet qK _,codeAny_builtin entry_list_iadd' ?_⟩;rw[Around.under_plainId qK _];have h0:(s.heap.push {cls:=.type "list",data:=.seq ([]:List aV).toArray}).get? s.heap.objs.size=vj {cls:=.type "list",data:=.seq #[]}:=lN _ rfl;show lX _ A.in1 (tJ (.ref s.heap.objs.size) (.ref rr) (.ref s.heap.objs.size)) _ _ _
 have key:=kdl_extend (A:=A) (s:={s with heap:=s.heap.push {cls:=.type "list",data:=.seq ([]:List aV).toArray}})
  (R:=λ(q:Result) (s':lu)=>∃(h':Heap) (tk:Nat) (acc:Array aV) (c:Nat),q=.ok (.ret (.ref s.heap.objs.size))/\s'={s with heap:=h',toks:=tk}/\(∀b o,s.heap.get? b=vj o->h'.get? b=vj o)/\h'.get? s.heap.objs.size=vj {cls:=.type "list",dict:=vk,data:=.seq acc c,slots:=#[]}/\ItemsOf PP acc n)
  Kd hh (Kd.keep _ _ hok λb _ o e=>lp _ e) s.heap.objs.size (oT lr) (oT ld) (.ref s.heap.objs.size) 0 h0
  (λh' tk acc c hk hS aA=>⟨h',tk,acc,c,rfl,rfl,λb o e=>hk b o (l0 (lH e)) (lp _ e),hS,aA⟩) hn
 refine m4 key (λfin s' x=>?_) λe s' x=>?_
 ·cases fin with
  |done f=>
   obtain⟨h',tk,acc,c,e,rfl,hk,hS,aA⟩:=x;cases e;show lX _ A (load s.heap.objs.size>>=_) _ _ _
   exact ll (wpAny_load hS (lM (hR h' tk acc (lH hS) hk aA)))
  |again c1=>
   refine⟨x.1,codeAny_mono x.2 λq s2 y=>?_⟩;obtain⟨h',tk,acc,c,rfl,rfl,hk,hS,aA⟩:=y
   show lX _ A (load s.heap.objs.size>>=_) _ _ _;exact ll (wpAny_load hS (lM (hR h' tk acc (lH hS) hk aA)))
 ·obtain⟨_,_,_,_,e',_⟩:=x;cases e'
end
section
theorem is_kV {P:l5}{w:mx}{k:Key}{u:aV}(h:(mixKind P w).is k u=vm):RelV (kV k) u:=by
 rw[zg4_]at h;rcases zo_ h with⟨i,t,rfl,rfl⟩|⟨x,t,rfl,rfl⟩<;>exact⟨_,rfl⟩
end
structure ZpAp (z ti to i j:lE)(f g:List lE):Prop where
 a1:ti≠z
 a2:to≠z
 a3:i≠z
 a4:j≠z
 a5:ti≠to
 a6:ti≠i
 a7:ti≠j
 a8:to≠i
 a9:to≠j
 b1:i≠j
 b2:z∉f
 b3:z∉g
 b4:to∉f
 b5:to∉g
 b6:j∉f
 b7:i∉g
section
variable {prog:l5}{w:mx}{A:my}{E:aV->lu->Prop}{s:lu}{z ti to i j:lE}{f g:List lE}{n1 n2 k:Nat}{P1 P2:Nat->aV->Prop}{S1 S2:Nat->Heap->Prop}{a b:aV}
theorem zkB_ {Q:aV->lu->Prop}(D1:Draws prog w A i f n1 P1 S1)(D2:Draws prog w A j g n2 P2 S2)(ap:ZpAp z ti to i j f g)
  (hz:IsZip s.heap z ti to .none) (c8:ox s.heap ti (.ref i) (.ref j)) (c7:ox s.heap to a b) (cf:S1 k s.heap) (bx:S2 k s.heap) (l1:k<n1) (l2:k<n2)
  (hQ:∀x y h' tk,P1 k x->P2 k y->IsZip h' z ti to (rawInt s.heap.objs.size)->ox h' to x y->S1 (k+1) h'->S2 (k+1) h'->ox h' s.heap.objs.size x y->h'.objs.size=s.heap.objs.size+1 ->
   (∀c o,c≠z->c≠to->c≠i->c≠j->s.heap.get? c=vj o->h'.get? c=vj o)->Q (.ref s.heap.objs.size) {s with heap:=h',toks:=tk}):
  lX (model prog w) A (qw.«zip.__next__» ⟨[.ref z],[]⟩) (λfin s'=>∃v,fin=.done (.ret v)/\Q v s') E s:=by
 obtain⟨hp,gn,dd,tk0,os⟩:=s;show lX _ _ (field (.ref z) 2>>=_) _ _ _;refine ll (nY hz rfl (x:=.bool vn) rfl ?_)
 show lX _ _ (field (.ref z) 3>>=_) _ _ _;refine ll (nY hz rfl (x:=.ref ti) rfl ?_)
 refine ll (wpAny_seqItems c8 rfl ?_);show lX _ _ (ni (.ref z)>>=_) _ _ _
 refine ll ?_;unfold ni;refine ll (nY hz rfl (x:=.none) rfl (lM ?_));simp only[if_true];refine ll (wpAny_rule ?_);refine ll (nY hz rfl (x:=.ref to) rfl ?_);refine ll (om hz (by simp) λq1 (z1:IsZip q1 z ti to .ellipsis) e1=>?_)
 have bK:oJ z hp q1:=e1.extBut;refine ll ?_;simp only[sV,tF,rj,tP];refine ll (ll (wpAny_onRaise ?_));show lX _ _ (oy (.ref i)>>=_) _ _ _
 refine ll (D1.item k _ _ _ l1 (D1.frame k _ _ cf λc hc o e=>bK c o (λq=>ap.b2 (q ▸ hc)) e) λx q2 t2 px s2 e2=>lM ?_)
 have bJ:oJ i q1 q2:=e2.extBut;have to2:ox q2 to a b:=bJ _ _ ap.a8 (bK _ _ ap.a2 c7);refine ll (wpAny_seqItems (s:=⟨q2,gn,dd,t2,os⟩) to2 rfl ?_);refine ll (wpAny_updateSeq_pair (s:=⟨q2,gn,dd,t2,os⟩) to2 λq3 (to3:ox q3 to x b) e3=>?_)
 have cV:oJ to q2 q3:=e3.extBut;refine ll (wpAny_letGo (lM ?_));refine ll (ll (wpAny_onRaise ?_));show lX _ _ (oy (.ref j)>>=_) _ _ _
 refine ll (D2.item k ⟨q3,gn,dd,t2,os⟩ _ _ l2 (D2.frame k _ _ bx λc hc o e=>cV c o (λq=>ap.b5 (q ▸ hc)) (bJ c o (λq=>ap.b7 (q ▸ hc)) (bK c o (λq=>ap.b3 (q ▸ hc)) e))) λy q4 t4 py s4 e4=>lM ?_)
 have dE:oJ j q3 q4:=e4.extBut;have ip:ox q4 to x b:=dE _ _ ap.a9 to3;refine ll (wpAny_seqItems (s:=⟨q4,gn,dd,t4,os⟩) ip rfl ?_);refine ll (wpAny_updateSeq_pair (s:=⟨q4,gn,dd,t4,os⟩) ip λq5 (il:ox q5 to x y) e5=>?_)
 have e5':oJ to q4 q5:=e5.extBut;refine ll (wpAny_letGo (lM (lM ?_)));refine ll (wpAny_seqItems (s:=⟨q5,gn,dd,t4,os⟩) il rfl ?_);refine ll (wpAny_newTuple ?_);have sz:q5.objs.size=hp.objs.size:=by rw[e5.1,e4.1,e3.1,e2.1,e1.1]
 have z5:IsZip q5 z ti to .ellipsis:=e5' _ _ ap.a2.symm (dE _ _ ap.a4.symm (cV _ _ ap.a2.symm (bJ _ _ ap.a3.symm z1)));have kp:∀c o,c≠z->c≠to->c≠i->c≠j->hp.get? c=vj o->q5.get? c=vj o:=λc o c1 c2 c3 c4 e=>
  e5' c o c2 (dE c o c4 (cV c o c2 (bJ c o c3 (bK c o c1 e))))
 have zl:z<q5.objs.size:=lH z5;show lX _ _ (pL (.ref z) (.ref q5.objs.size)>>=_) _ _ ⟨q5.push _,gn,dd,t4,os⟩
 refine ll ?_;unfold pL;have z6:IsZip (q5.push {cls:=.type "tuple",data:=.seq #[x,y]}) z ti to .ellipsis:=lp _ z5;refine ll (om (s:=⟨q5.push _,gn,dd,t4,os⟩) z6 (by simp) λq7 (z7:IsZip q7 z ti to (rawInt q5.objs.size)) e7=>?_)
 refine om (s:=⟨q7,gn,dd,t4,os⟩) z7 (by simp) λq8 (z8:IsZip q8 z ti to (rawInt q5.objs.size)) e8=>?_
 have up:∀c o,c≠z->(q5.push {cls:=.type "tuple",data:=.seq #[x,y]}).get? c=vj o->q8.get? c=vj o:=λc o c1 e=>e8.extBut _ _ c1 (e7.extBut _ _ c1 e)
 have fB:∀c o,c≠z->q5.get? c=vj o->q8.get? c=vj o:=λc o c1 e=>up c o c1 (lp _ e)
 have t8:ox q8 q5.objs.size x y:=up _ _ (oT zl) (lN _ rfl);have iw:q8.objs.size=q5.objs.size+1:=by rw[e8.1,e7.1];exact n6 ..
 rw[sz]at z8 t8 iw;refine lM ⟨_,rfl,?_⟩;show Q (.ref q5.objs.size) ⟨q8,gn,dd,t4,os⟩
 rw[sz];refine hQ x y q8 t4 px py z8 (fB _ _ ap.a2 il) (D1.frame _ _ _ s2 λc hc o e=>?_) (D2.frame _ _ _ s4 λc hc o e=>?_) t8 iw λc o c1 c2 c3 c4 e=>fB c o c1 (kp c o c1 c2 c3 c4 e)
 ·exact fB c o (λq=>ap.b2 (q ▸ hc)) (e5' c o (λq=>ap.b4 (q ▸ hc)) (dE c o (λq=>ap.b6 (q ▸ hc)) (cV c o (λq=>ap.b4 (q ▸ hc)) e)))
 ·exact fB c o (λq=>ap.b3 (q ▸ hc)) (e5' c o (λq=>ap.b5 (q ▸ hc)) e)
theorem zne_ {Q:PySem.Fin->lu->Prop}(D1:Draws prog w A i f n1 P1 S1)(D2:Draws prog w A j g n2 P2 S2)(ap:ZpAp z ti to i j f g)
  (hz:IsZip s.heap z ti to .none) (c8:ox s.heap ti (.ref i) (.ref j)) (c7:ox s.heap to a b) (cf:S1 k s.heap) (bx:S2 k s.heap) (l1:k=n1\/k<n1/\k=n2)
  (hE:∀h' e tk,(∀c o,c≠z->c≠to->c≠i->c≠j->s.heap.get? c=vj o->h'.get? c=vj o)->(∃o,h'.get? e=vj o/\o.cls=.type "StopIteration")->E (.ref e) {s with heap:=h',toks:=tk}):
  lX (model prog w) A (qw.«zip.__next__» ⟨[.ref z],[]⟩) Q E s:=by
 obtain⟨hp,gn,dd,tk0,os⟩:=s;show lX _ _ (field (.ref z) 2>>=_) _ _ _;refine ll (nY hz rfl (x:=.bool vn) rfl ?_)
 show lX _ _ (field (.ref z) 3>>=_) _ _ _;refine ll (nY hz rfl (x:=.ref ti) rfl ?_)
 refine ll (wpAny_seqItems c8 rfl ?_);show lX _ _ (ni (.ref z)>>=_) _ _ _
 refine ll ?_;unfold ni;refine ll (nY hz rfl (x:=.none) rfl (lM ?_));simp only[if_true];refine ll (wpAny_rule ?_);refine ll (nY hz rfl (x:=.ref to) rfl ?_);refine ll (om hz (by simp) λq1 (z1:IsZip q1 z ti to .ellipsis) e1=>?_)
 have bK:oJ z hp q1:=e1.extBut;refine ll ?_;simp only[sV,tF,rj,tP];refine ll (ll (wpAny_onRaise ?_));show lX _ _ (oy (.ref i)>>=_) _ _ _
 have f1:S1 k q1:=D1.frame k _ _ cf λc hc o e=>bK c o (λq=>ap.b2 (q ▸ hc)) e
 rcases l1 with rfl |⟨l1,rfl⟩
 ·refine ll (D1.done _ _ _ f1 λq2 e e2 he=>?_)
  obtain⟨oe,hoe,hce⟩:=he;have bJ:oJ i q1 q2:=e2;have z2:IsZip q2 z ti to .ellipsis:=bJ _ _ ap.a3.symm z1;have ez:e≠z:=λx=>by subst x;have bV:q2.get? e=vj oe:=hoe;rw[z2]at bV;cases bV;simp at hce
  exact om (s:=⟨q2,gn,dd,tk0,os⟩) z2 (by simp) λq3 _ e3=>hE q3 e tk0 (λc o c1 _ c3 _ x=>e3.extBut _ _ c1 (bJ c o c3 (bK c o c1 x))) ⟨oe,e3.extBut _ _ ez hoe,hce⟩
 ·refine ll (D1.item k _ _ _ l1 f1 λx q2 t2 px s2 e2=>lM ?_)
  have bJ:oJ i q1 q2:=e2.extBut;have to2:ox q2 to a b:=bJ _ _ ap.a8 (bK _ _ ap.a2 c7);refine ll (wpAny_seqItems (s:=⟨q2,gn,dd,t2,os⟩) to2 rfl ?_);refine ll (wpAny_updateSeq_pair (s:=⟨q2,gn,dd,t2,os⟩) to2 λq3 (to3:ox q3 to x b) e3=>?_)
  have cV:oJ to q2 q3:=e3.extBut;refine ll (wpAny_letGo (lM ?_));refine ll (ll (wpAny_onRaise ?_));show lX _ _ (oy (.ref j)>>=_) _ _ _
  refine ll (D2.done ⟨q3,gn,dd,t2,os⟩ _ _ (D2.frame k _ _ bx λc hc o e=>cV c o (λq=>ap.b5 (q ▸ hc)) (bJ c o (λq=>ap.b7 (q ▸ hc)) (bK c o (λq=>ap.b3 (q ▸ hc)) e))) λq4 e e4 he=>?_)
  obtain⟨oe,hoe,hce⟩:=he;have dE:oJ j q3 q4:=e4;have z4:IsZip q4 z ti to .ellipsis:=dE _ _ ap.a4.symm (cV _ _ ap.a2.symm (bJ _ _ ap.a3.symm z1));have ez:e≠z:=λx=>by subst x;have bV:q4.get? e=vj oe:=hoe;rw[z4]at bV;cases bV;simp at hce
  exact om (s:=⟨q4,gn,dd,t2,os⟩) z4 (by simp) λq5 _ e5=>hE q5 e t2 (λc o c1 c2 c3 c4 x=>e5.extBut _ _ c1 (dE c o c4 (cV c o c2 (bJ c o c3 (bK c o c1 x))))) ⟨oe,e5.extBut _ _ ez hoe,hce⟩
theorem zkq_ {Q:Option aV->lu->Prop}(D1:Draws prog w A.in1 i f n1 P1 S1)(D2:Draws prog w A.in1 j g n2 P2 S2)(ap:ZpAp z ti to i j f g)
  (hz:IsZip s.heap z ti to .none) (c8:ox s.heap ti (.ref i) (.ref j)) (c7:ox s.heap to a b) (cf:S1 k s.heap) (bx:S2 k s.heap) (l1:k<n1) (l2:k<n2)
  (hQ:∀x y h' tk,P1 k x->P2 k y->IsZip h' z ti to (rawInt s.heap.objs.size)->ox h' to x y->S1 (k+1) h'->S2 (k+1) h'->ox h' s.heap.objs.size x y->h'.objs.size=s.heap.objs.size+1 ->
   (∀c o,c≠z->c≠to->c≠i->c≠j->s.heap.get? c=vj o->h'.get? c=vj o)->Q (vj (.ref s.heap.objs.size)) {s with heap:=h',toks:=tk}):
  lX (model prog w) A (pyNext (.ref z)) Q E s:=by
 have hT:s.TypeIs (.ref z) "zip":=⟨_,hz,rfl⟩;unfold pyNext;refine ll (wpAny_attempt (wpAny_callSpecial?_slot (name:=oG "__next__") hT qd (wpAny_call_entry qd hT sW ?_ (sv _))));exact zkB_ D1 D2 ap hz c8 c7 cf bx l1 l2 λx y h' tk p1 p2 q1 q2 q3 q4 q5 q6 q7=>lM (hQ x y h' tk p1 p2 q1 q2 q3 q4 q5 q6 q7)
theorem zmo_ {Q:Option aV->lu->Prop}(D1:Draws prog w A.in1 i f n1 P1 S1)(D2:Draws prog w A.in1 j g n2 P2 S2)(ap:ZpAp z ti to i j f g)
  (hz:IsZip s.heap z ti to .none) (c8:ox s.heap ti (.ref i) (.ref j)) (c7:ox s.heap to a b) (cf:S1 k s.heap) (bx:S2 k s.heap) (l1:k=n1\/k<n1/\k=n2)
  (hQ:∀h' tk,(∀c o,c≠z->c≠to->c≠i->c≠j->s.heap.get? c=vj o->h'.get? c=vj o)->Q vk {s with heap:=h',toks:=tk}):lX (model prog w) A (pyNext (.ref z)) Q E s:=by
 have hT:s.TypeIs (.ref z) "zip":=⟨_,hz,rfl⟩;unfold pyNext;refine ll (wpAny_attempt (wpAny_callSpecial?_slot (name:=oG "__next__") hT qd (wpAny_call_entry qd hT sW ?_ (sv _))));refine zne_ D1 D2 ap hz c8 c7 cf bx l1 λh' e tk hk he=>?_
 obtain⟨o,ho,hc⟩:=he;exact ll (wpAny_isInstance (s:={s with heap:=h',toks:=tk}) (T:="StopIteration") (b:=vm) ⟨o,ho,hc⟩ isSubtype_stop (lM (hQ _ _ hk)))
end
noncomputable def strIt (x:Str)(t:Tok):tT:={cls:=.type (mw x),data:=.fields #[.str x t,.int 0 0]}
theorem zfK_ {prog:l5}{w:mx}{A:my}{E:aV->lu->Prop}{s:lu}{x:Str}{t:Tok}{Q:aV->lu->Prop}(h:Q (.ref s.heap.objs.size) {s with heap:=s.heap.push (strIt x t)}):lX (model prog w) A (pyIter (.str x t)) Q E s:=by
 unfold strIt at h;cases ha:x.cps.all (·<128)
 ·rw[show mw x="str_iterator" by simp[mw,ha]]at h;exact wpAny_pyIter_wide ha h
 ·rw[show mw x="str_ascii_iterator" by simp[mw,ha]]at h;exact wpAny_pyIter_ascii ha h
noncomputable abbrev zp1 (h:Heap)(l:lE):Heap:=h.push {cls:=.type "list_iterator",data:=.fields #[.ref l,.int 0 0]}
abbrev zp2 (h:Heap)(l:lE)(x:Str)(t:Tok):Heap:=(zp1 h l).push (strIt x t)
abbrev zp3 (h:Heap)(l:lE)(x:Str)(t:Tok):Heap:=(zp2 h l x t).push {cls:=.type "tuple",data:=.seq #[.ref h.objs.size,.ref (zp1 h l).objs.size]}
abbrev zp4 (h:Heap)(l:lE)(x:Str)(t:Tok):Heap:=(zp3 h l x t).push {cls:=.type "tuple",data:=.seq #[.none,.none]}
abbrev zp5 (h:Heap)(l:lE)(x:Str)(t:Tok):Heap:=(zp4 h l x t).push {cls:=.type "zip",data:=.fields #[.none,.bool vn,.bool vn,.ref (zp2 h l x t).objs.size,.ref (zp3 h l x t).objs.size]}
theorem mt_zp (l:lE)(x:Str)(t:Tok)(xs:Array aV):
  Meets (qw.«zip.__new__» ⟨[.type "zip",.ref l,.str x t],[]⟩) (λ_ R s=>s.heap.IsList l xs/\R (.ok (.ret (.ref (zp4 s.heap l x t).objs.size))) {s with heap:=zp5 s.heap l x t}):=
 .of_wp λprog w A R s h=>by
  obtain⟨hp,g,d,tk,os⟩:=s;obtain⟨fP,h⟩:=h;have jB:=sub_zip;have h1:Heap.IsList (Shared.heap ⟨hp,g,d,tk,os⟩) l xs:=fP
  wp_walk using wpAny_pyIter_list h1,zfK_
  exact⟨_,rfl,h⟩
section
variable {prog:l5}{w:mx}{A:my}{E:aV->lu->Prop}{s:lu}
theorem zmR_ {l:lE}{x:Str}{t:Tok}{xs:Array aV}{Q:aV->lu->Prop}(hl:s.heap.IsList l xs)
  (h:∀h',IsZip h' (s.heap.objs.size+4) (s.heap.objs.size+2) (s.heap.objs.size+3) .none->ox h' (s.heap.objs.size+2) (.ref s.heap.objs.size) (.ref (s.heap.objs.size+1)) ->
   ox h' (s.heap.objs.size+3) .none .none->h'.IsListIter s.heap.objs.size l 0->h'.IsStrIter (s.heap.objs.size+1) (mw x) x t 0 ->
   (∀c o,s.heap.get? c=vj o->h'.get? c=vj o)->Q (.ref (s.heap.objs.size+4)) {s with heap:=h'}):
  lX (model prog w) A (call (.type "zip") [.ref l,.str x t]) Q E s:=by
 refine callType_new F.called_zip (by decide) (F.typeCall_zip_2 _ _) (F.newCall_zip_2 _ _) (λobj=>F.args_object_init_3 obj _ _) F.entry_zip_new (mt_zp l x t xs) ⟨hl,?_⟩
 have n1:(zp1 s.heap l).objs.size=s.heap.objs.size+1:=n6 ..;have n2:(zp2 s.heap l x t).objs.size=s.heap.objs.size+2:=by rw[n6,n1]
 have n3:(zp3 s.heap l x t).objs.size=s.heap.objs.size+3:=by rw[n6,n2]
 have n4:(zp4 s.heap l x t).objs.size=s.heap.objs.size+4:=by rw[n6,n3]
 have up:∀c o,(zp2 s.heap l x t).get? c=vj o->(zp5 s.heap l x t).get? c=vj o:=λc o e=>lp _ (lp _ (lp _ e))
 have g5:(zp5 s.heap l x t).get? (zp4 s.heap l x t).objs.size=vj _:=lN _ rfl;have g4:(zp5 s.heap l x t).get? (zp3 s.heap l x t).objs.size=vj _:=lp _ (lN _ rfl);have g3:(zp5 s.heap l x t).get? (zp2 s.heap l x t).objs.size=vj _:=lp _ (lp _ (lN _ rfl));have g2:(zp5 s.heap l x t).get? (zp1 s.heap l).objs.size=vj _:=up _ _ (lN _ rfl);have g1:(zp5 s.heap l x t).get? s.heap.objs.size=vj _:=up _ _ (lp _ (lN _ rfl));show _/\_
 rw[n2,n3,n4]at g5;rw[n1,n2]at g3;rw[n3]at g4;rw[n1]at g2;rw[n4];exact⟨⟨_,g5,rfl⟩,h _ g5 g3 g4 ⟨_,g1,rfl,rfl⟩ ⟨_,g2,rfl,rfl⟩ λc o e=>up c o (lp _ (lp _ e))⟩
end
def ItzS (K:Fgg)(l:lE)(n:Nat)(f:Nat->V):It:=
 ⟨λi H=>∃xs x,SqL K H l xs/\xs[i]?=vj x/\i<n,
  λi H v H'=>∃p x,(∀xs,SqL K H l xs->xs[i]?=vj x)/\H p=vk/\v=.ref p/\H'=upd H p (.tup [x,f i]),
  λi H=>∃xs,SqL K H l xs/\(i=xs.length\/i<xs.length/\i=n)⟩
theorem zhr_ {P:l5}{w:mx}{K:Fgg}{elts:List lP}{kk:Nat}{pos:Pos}(z ti to i1 i2 l:lE)(t0:Str)(t:Tok)(D:ZpAp z ti to i1 i2 [i1,l] [i2])(fP:l≠i1):
  Turn P w K (.Tuple elts kk pos) (ItzS K l t0.cps.size (sgn t0)) [z,ti,to,i1,i2] z (λi h=>IsZip h z ti to .none/\ox h ti (.ref i1) (.ref i2)/\(∃a b,ox h to a b)/\h.IsListIter i1 l i/\h.IsStrIter i2 (mw t0) t0 t i) where
 mem:=by simp
 obj:=λi h st b hb=>by
  obtain⟨hz,b9,⟨a,c,cq⟩,⟨o1,ho1,c1,d1⟩,⟨o2,bG,c2,d2⟩⟩:=st;rcases lQ.mp hb with rfl |hb
  ·exact⟨_,hz,λv z=>by cases z⟩
  rcases lQ.mp hb with rfl |hb
  ·exact⟨_,b9,λv z=>by cases z⟩
  rcases lQ.mp hb with rfl |hb
  ·exact⟨_,cq,λv z=>by cases z⟩
  rcases lQ.mp hb with rfl |hb
  ·exact⟨o1,ho1,λv z=>by rw[d1]at z;cases z⟩
  ·have e:b=i2:=by simpa using hb
   subst e;exact⟨o2,bG,λv z=>by rw[d2]at z;cases z⟩
 keep:=λi h h' st k=>by
  obtain⟨hz,b9,⟨a,c,cq⟩,h1,o2,bG,r2⟩:=st;exact⟨k z (by simp) _ hz,k ti (by simp) _ b9,⟨a,c,k to (by simp) _ cq⟩,h1.at λo q=>k i1 (by simp) o q,o2,k i2 (by simp) o2 bG,r2⟩
 item:=by
  intro X hP hw hK hc i pins s σ H E I hf st hg;subst hP hw hK;obtain⟨xs,x,hq,hx,dS⟩:=hg;obtain⟨aa,rv,p,hz0⟩:=I.list hq;obtain⟨u,hu,ru⟩:=rv.get hx;obtain⟨hz,b9,⟨a,c,cq⟩,h1,h2⟩:=st;have lt:∀{c o},s.heap.get? c=vj o->c<s.heap.objs.size:=λe=>lH e
  have lz:=lt hz;have jl:=lt b9;have jj:=lt cq;have l1:i1<s.heap.objs.size:=by obtain⟨o,e,_⟩:=id h1;exact lt e
  have l2:i2<s.heap.objs.size:=by obtain⟨o,e,_⟩:=id h2;exact lt e
  have hil:i<aa.toArray.size:=by have:=(lO.mp hu).1;simpa using this
  refine zkq_ (Draws.list (A:=X.A.in1) (show X.A.in1.handled=vk from I.ok.hd hc) i1 l fP aa.toArray) (zbF_ (t:=t) X.A.in1 (I.ok.hd hc)) D hz b9 cq ⟨h1,p.isList⟩ h2 hil dS λu' v h3 tk pu pv z3 kH gq gp i7 kJ iN=>?_
  obtain rfl:u'=u:=by
   have e:aa.toArray[i]?=vj u':=pu;rw[rq,hu]at e;exact(l9 e).symm
  have bN:RelV (sgn t0 i) v:=zb8_ pv;refine⟨_,rfl,?_⟩;refine wpAny_letOwnedTupleGo_zip (s:={s with heap:=h3,toks:=tk}) z3 λh4 z4 c_=>?_
  replace c_:pB z h3 h4:=c_;have hp:H s.heap.objs.size=vk:=I.hok.fresh (lC _);have I1:Inv X pins σ (upd H s.heap.objs.size (.tup [x,sgn t0 i])) {s with heap:=s.heap.push {cls:=.type "tuple",data:=.seq #[u',v]},toks:=tk}:=by
   refine I.laid (λb u q=>lp _ q) (lC _) ⟨?_,[u',v],.cons ru (.cons bN .nil),⟨_,lN _ rfl,rfl,_,rfl⟩⟩
   show 2<=lL
   decide
  have aB:∀b∈[z,ti,to,i1,i2],b<s.heap.objs.size:=λb hb=>by
   simp only[lQ,pE,or_false]at hb;rcases hb with rfl |rfl |rfl |rfl |rfl
   ·exact lz
   ·exact jl
   ·exact jj
   ·exact l1
   ·exact l2
  have eV:∀b∈[z,ti,to,i1,i2],FpOk X pins (upd H s.heap.objs.size (.tup [x,sgn t0 i])) b:=λb hb=>by
   obtain⟨f0,r⟩:=hf b hb;refine⟨?_,r⟩;rw[zd_ (l0 (aB b hb))];exact f0
  have I2:Inv X pins σ (upd H s.heap.objs.size (.tup [x,sgn t0 i])) {s with heap:=h4,toks:=tk}:=by
   refine Inv.turnedL (s:={s with heap:=s.heap.push {cls:=.type "tuple",data:=.seq #[u',v]},toks:=tk}) (ch:=[z,ti,to,i1,i2]) I1 (λb o hb q=>?_) eV
   have n1:b≠z:=λe=>hb (by simp[e])
   have n2:b≠to:=λe=>hb (by simp[e])
   have n3:b≠i1:=λe=>hb (by simp[e])
   have n4:b≠i2:=λe=>hb (by simp[e])
   refine(c_.2 b n1).trans ?_;rcases rE q with⟨rfl,rfl⟩|q'
   ·exact i7
   ·exact iN b o n1 n2 n3 n4 q'
  refine⟨.ref s.heap.objs.size,_,I2,rfl,⟨s.heap.objs.size,x,λzs dM=>by rw[I.list_inj dM hq];exact hx,hp,rfl,rfl⟩,⟨z4,?_,⟨u',v,?_⟩,?_,?_⟩,λb hb=>(eV b hb).1⟩
  ·exact(c_.2 ti D.a1).trans (iN ti _ D.a1 D.a5 D.a6 D.a7 b9)
  ·exact(c_.2 to D.a2).trans kH
  ·exact gq.1.extBut c_.extBut D.a3
  ·exact gp.extBut c_.extBut D.a4
 done:=by
  intro X hP hw hK hc i pins s σ H E I hf st hg;subst hP hw hK;obtain⟨xs,hq,hx⟩:=hg;obtain⟨aa,rv,p,hz0⟩:=I.list hq;obtain⟨hz,b9,⟨a,c,cq⟩,h1,h2⟩:=st;have hl:=rv.length;refine zmo_ (Draws.list (A:=X.A.in1) (show X.A.in1.handled=vk from I.ok.hd hc) i1 l fP aa.toArray) (zbF_ (t:=t) X.A.in1 (I.ok.hd hc)) D hz b9 cq ⟨h1,p.isList⟩ h2 (by rw[hl]at hx;simpa using hx) λh' tk eb=>⟨rfl,?_⟩
  exact Inv.turnedL (s:=s) (t':=tk) (ch:=[z,ti,to,i1,i2]) I (λb o hb q=>eb b o (λe=>hb (by simp[e])) (λe=>hb (by simp[e])) (λe=>hb (by simp[e])) (λe=>hb (by simp[e])) q) hf
 self:=λ_ _ _ _ _ st h=>wpAny_pyIter_zip st.1 h
theorem zjT_ {N l:Nat}(hl:l<N):ZpAp (N+4) (N+2) (N+3) N (N+1) [N,l] [N+1]:=by
 have q:∀{a b:Nat},a≠b->(a:lE)≠(b:lE):=λh=>h
 have m1:∀{a b:Nat},a≠b->(a:lE)∉([b]:List lE):=λh e=>h (mz.mp e)
 have m2:∀{a b c:Nat},a≠b->a≠c->(a:lE)∉([b,c]:List lE):=λh1 h2 e=>by
  rcases lQ.mp e with e |e
  ·exact h1 e
  ·exact h2 (mz.mp e)
 exact⟨q (by lia),q (by lia),q (by lia),q (by lia),q (by lia),q (by lia),q (by lia),q (by lia),q (by lia),q (by lia),m2 (by lia) (by lia),m1 (by lia),m2 (by lia) (by lia),m1 (by lia),m2 (by lia) (by lia),m1 (by lia)⟩
section
end
section
variable {α:Type}
def OwAll (O:Own α)(F:Hp):List α->List V->Hp->Prop
 |[],[],h=>∀p,h p=vk
 |x::xs,v::vs,h=>∃h1 h2,Jn h1 h2 h/\O.O x v F h1/\OwAll O F xs vs h2
 |_,_,_=>False
variable {O:Own α}
theorem OwAll.mono:∀{xs:List α}{vs:List V}{F F' h:Hp},Same F F'->OwAll O F xs vs h->OwAll O F' xs vs h
 |[],[],_,_,_,_,q=>q
 |x::xs,v::vs,F,F',h,g,q_=>by obtain⟨h1,h2,j,o,r⟩:=q_;exact⟨h1,h2,j,O.mono g o,r.mono g⟩
 |[],_::_,_,_,_,_,q=>q.elim
 |_::_,[],_,_,_,_,q=>q.elim
theorem OwAll.notup:∀{xs:List α}{vs:List V}{F h:Hp},OwAll O F xs vs h->∀p ys,h p≠vj (.tup ys)
 |[],[],_,_,q,p,ys=>by rw[q p];exact λz=>by cases z
 |x::xs,v::vs,F,h,q_,p,ys=>by
  obtain⟨h1,h2,j,o,r⟩:=q_;rcases j p with⟨_,b⟩|⟨_,b⟩
  ·rw[b];exact r.notup p ys
  ·rw[b];exact O.notup o p ys
 |[],_::_,_,_,q,_,_=>q.elim
 |_::_,[],_,_,q,_,_=>q.elim
theorem OwAll.len:∀{xs:List α}{vs:List V}{F h:Hp},OwAll O F xs vs h->xs.length=vs.length
 |[],[],_,_,_=>rfl
 |x::xs,v::vs,F,h,q_=>by obtain⟨h1,h2,j,o,r⟩:=q_;rw[lG,lG,r.len]
 |[],_::_,_,_,q=>q.elim
 |_::_,[],_,_,q=>q.elim
theorem zfW_ {F h1 h:Hp}(d:Dj F h)(s:Same h1 h):Same (un F h1) (un F h):=λp o e=>by
 unfold un at e ⊢;cases z:F p with
 |some w=>rw[z]at e;exact e
 |none=>rw[z]at e;exact s _ _ e
theorem OwAll.prs:∀{xs:List α}{vs:List V}{F h G:Hp},Dj F h->Same (un F h) G->OwAll O F xs vs h->Prs O.fr G xs vs
 |[],[],_,_,_,_,_,_=>.nil
 |x::xs,v::vs,F,h,G,d,g,q_=>by
  obtain⟨h1,h2,j,o,r⟩:=q_;have d1:Dj F h1:=λp=>by
   rcases d p with z |z
   ·exact .inl z
   ·exact .inr (j.l.free z)
  have d2:Dj F h2:=λp=>by
   rcases d p with z |z
   ·exact .inl z
   ·exact .inr (j.r.free z)
  exact .cons (O.fr.mono ((zfW_ d j.l).trans g) (O.frz d1 o)) (r.prs d2 ((zfW_ d j.r).trans g))
 |[],_::_,_,_,_,_,_,q=>q.elim
 |_::_,[],_,_,_,_,_,q=>q.elim
theorem z8_ {h1 h2 h:Hp}(j:Jn h1 h2 h):Jn h2 h1 h:=λp=>by
 rcases j p with⟨a,b⟩|⟨a,b⟩
 ·exact .inr ⟨a,b⟩
 ·exact .inl ⟨a,b⟩
theorem zm_ {h1 h2 iY h3 h:Hp}(j:Jn h1 h2 iY)(k:Jn iY h3 h):∃iX,Jn h2 h3 iX/\Jn h1 iX h:=by
 have d:Dj h2 h3:=λp=>by
  rcases k.dj p with z |z
  ·exact .inl (j.r.free z)
  ·exact .inr z
 refine⟨un h2 h3,zah_ d,λp=>?_⟩
 unfold un;rcases k p with⟨a,b⟩|⟨a,b⟩
 ·refine .inl ⟨j.l.free a,?_⟩
  rw[j.r.free a];exact b
 ·rcases j p with⟨c,e⟩|⟨c,e⟩
  ·refine .inl ⟨c,?_⟩
   rw[b,e];cases z:h2 p with
   |none=>exact a.symm ▸ rfl
   |some w=>rfl
  ·refine .inr ⟨?_,by rw[b,e]⟩
   rw[c];exact a
theorem OwAll.snoc:∀{xs:List α}{vs:List V}{F h:Hp}{x:α}{v:V}{hn:Hp},OwAll O F xs vs h->O.O x v F hn->Dj h hn->OwAll O F (xs++[x]) (vs++[v]) (un h hn)
 |[],[],F,h,x,v,hn,q,o,d=>by
  refine⟨hn,λ_=>vk,λp=>.inr ⟨rfl,?_⟩,o,λ_=>rfl⟩
  unfold un;rw[q p]
 |y::xs,w::vs,F,h,x,v,hn,q_,o,d=>by
  obtain⟨h1,h2,j,o1,r⟩:=q_;obtain⟨m,jm,jh⟩:=zm_ j (zah_ d);have d2:Dj h2 hn:=jm.dj;have e:m=un h2 hn:=by
   funext p;unfold un;rcases jm p with⟨a,b⟩|⟨a,b⟩
   ·rw[a];exact b
   ·rw[b]
    cases z:h2 p with
    |none=>exact a.symm ▸ rfl
    |some w=>rfl
  rw[e]at jh;exact⟨h1,_,jh,o1,r.snoc o d2⟩
 |[],_::_,_,_,_,_,_,q,_,_=>q.elim
 |_::_,[],_,_,_,_,_,q,_,_=>q.elim
abbrev owLO (O:Own α):Own (List α):=⟨λxs v F h=>∃p vs h2,v=.ref p/\Jn (one p (.lst vs)) h2 h/\OwAll O F xs vs h2,tyL O.fr,λg ⟨p,vs,h2,e,j,q⟩=>⟨p,vs,h2,e,j,q.mono g⟩,
 λ{a v F h} d ⟨p,vs,h2,e,j,q⟩=>⟨p,vs,e,zdJ_ d _ _ (j.l _ _ zp_),q.prs (λb=>by
  rcases d b with z |z
  ·exact .inl z
  ·exact .inr (j.r.free z)) (zfW_ d j.r)⟩,
 λ⟨p,vs,h2,e,j,q⟩ b xs y=>by
  rcases j b with⟨_,z⟩|⟨_,z⟩
  ·rw[z]at y;exact q.notup b xs y
  ·rw[z]at y;unfold one at y;split at y<;>cases y⟩
end
section
end
def mFld (C:lE)(te:TE)(f:Str):TE:=λσ H Q=>te σ H λx H1=>match x with
 |.ref a=>∃dx fs v,H1 a=vj (.ins C dx fs)/\fs.lookup f=vj v/\Q v H1
 |_=>False
def mSFld (C:lE)(te tv:TE)(f:Str):TS:=λD σ H=>tv σ H λy H1=>te σ H1 λx H2=>match x with
 |.ref a=>∃dx fs,H2 a=vj (.ins C dx fs)/\fs.length<1000/\D.nx σ (upd H2 a (.ins C dx (putF f y fs)))
 |_=>False
section
variable {X:Cx}{e value o:lP}{f x:Str}{pos pos':Pos}{ta tv:TE}{C:lE}
theorem zlV_ (c:Cls X.K C)(n:NoAttr X.K C f)(he:PE X e ta)(hb:attributeBase e f X.env (eval e X.env)=eval e X.env:=by rfl):PE X (.Attribute e f pos) (mFld C ta f):=by
 intro pins s σ H Q I h;refine zn3_ hb (thn (he pins s σ H _ I h) λu s1 af=>?_)
 obtain⟨x,H1,I1,rx,q1⟩:=af;cases x with
 |ref a=>
  obtain⟨dx,fs,v,ea,l,q⟩:=q1;obtain rfl:u=mT a:=rx;exact zgc_ I1 ea c n l λu' s2 I2 ru=>⟨v,H1,I2,ru,q⟩
 |_=>exact q1.elim
theorem zmL_ (c:Cls X.K C)(n:NoAttr X.K C f)(ha:PE X o ta)(hv:PE X value tv)(hs:swapsWith value (vj (.Attribute o f pos')) pos.line X.env=pure vn:=by rfl):PS X (.Assign [.Attribute o f pos'] value pos) (mSFld C ta tv f):=by
 intro pins s σ H D I h;refine plainObj_wpAny_Assign_Attribute (thn (hv pins s σ H _ I h) λu s1 ⟨y,H1,I1,ry,q⟩=>thn (ha pins s1 σ H1 _ I1 q) λov s2 af=>?_) hs
 obtain⟨x,H2,I2,rx,q2⟩:=af;cases x with
 |ref a=>
  obtain⟨dx,fs,ea,l,q3⟩:=q2;obtain rfl:ov=mT a:=rx;exact zgz_ I2 ea c n l ry λs3 I3=>⟨σ,_,I3,q3⟩
 |_=>exact q2.elim
end
theorem zgi_:∀{ns:List Str}{vs:List V}{f:Str}(v:V),f∉ns->vs.length=ns.length->putF f v (ns.zip vs)=(ns++[f]).zip (vs++[v])
 |[],[],f,v,_,_=>rfl
 |[],_::_,_,_,_,h=>by simp at h
 |_::_,[],_,_,_,h=>by simp at h
 |n::ns,w::vs,f,v,h,hl=>by
  have bW:¬n=f:=λz=>h (z ▸ lW ..)
  rw[mf,putF,if_neg bW,zgi_ v (λz=>h (lV _ z)) (by simpa using hl)];rfl
section
variable {α:Type}
theorem dj_l {F h1 h2 h:Hp}(d:Dj F h)(j:Jn h1 h2 h):Dj F h1:=λp=>by
 rcases d p with z |z
 ·exact .inl z
 ·exact .inr (j.l.free z)
theorem dj_r {F h1 h2 h:Hp}(d:Dj F h)(j:Jn h1 h2 h):Dj F h2:=λp=>by
 rcases d p with z |z
 ·exact .inl z
 ·exact .inr (j.r.free z)
def two (p dx:lE)(o:HO):Hp:=λq=>if q=p then vj o else if q=dx then vj (.own p)else vk
theorem zp6_ {p dx:lE}{o:HO}:two p dx o p=vj o:=if_pos rfl
noncomputable abbrev owAt (u:V)(O:Own α):Own α:=⟨λa v F h=>v=u/\O.O a v F h,O.fr,λg q=>⟨q.1,O.mono g q.2⟩,λd q=>O.frz d q.2,λq=>O.notup q.2⟩
theorem jn_re {b t m a h:Hp}(jm:Jn b t m)(j:Jn a m h):Jn t (un a b) h:=λq=>by
 rcases j q with⟨x,y⟩|⟨x,y⟩
 ·rcases jm q with⟨c,e⟩|⟨c,e⟩
  ·right
   refine⟨by unfold un;rw[x,c],by rw[y,e]⟩
  ·left
   refine⟨c,by unfold un;rw[x,y,e]⟩
 ·left
  refine⟨jm.r.free x,?_⟩;unfold un;rw[y];cases z:a q with
  |none=>exact(jm.l.free x).symm ▸ rfl
  |some w=>rfl
theorem dj_of {a b t m h:Hp}(jm:Jn b t m)(j:Jn a m h):Dj a b:=λq=>by
 rcases j.dj q with z |z
 ·exact .inl z
 ·exact .inr (jm.l.free z)
variable {F0 H0 F h H:Hp}
theorem zc9_ {k:Hp}(ok:Okk F0 H0 F h H)(s:Same k h):Okk F0 H0 F k H:=by
 refine⟨ok.1,λp=>?_,s.trans ok.2.2.1,λp z=>ok.2.2.2.1 p λy=>z (s.free y),λp xs z=>ok.2.2.2.2 p xs (s _ _ z)⟩
 rcases ok.2.1 p with z |z
 ·exact .inl z
 ·exact .inr (s.free z)
theorem zhG_ {h:Hp}(p:lE)(z:h p≠vk):less H h p=vk:=by
 unfold less;cases y:h p with
 |none=>exact absurd y z
 |some w=>rfl
theorem zmp_:Same (less H h) H:=λp o z=>by
 unfold less at z;split at z
 ·exact z
 ·cases z
theorem zbq_ (hs:Same F H)(dj:Dj F h)(hh:Same h H)(nt:∀p xs,h p≠vj (.tup xs)):Okk F (less H h) F h H:=by
 refine⟨⟨Same.refl _,hs,zmp_,λp a b=>absurd a b⟩,dj,hh,λp z=>zhG_ p z,nt⟩
end
section
variable {X:Cx}
def mTrL (K:Fgg)(t:TE):TT:=λσ H Q=>t σ H λx H'=>match x with
 |.bl k=>Q k H'
 |.ref a=>∃xs,SqL K H' a xs/\Q (!xs.isEmpty) H'
 |_=>False
theorem zpA_ {e:lP}{t:TE}(h:PE X e t)(he:∀whole,isTrue e X.env whole=(do let v <- whole;standAt e.pos;holding [v] (truthy v)):=by intro _;rfl):PT X e (mTrL X.K t):=by
 intro pins s σ H Q I hw;refine isTrue_plain (thn (h pins s σ H _ I hw) λv s1 af=>?_) (he _)
 obtain⟨x,H1,I1,r1,q1⟩:=af;cases x with
 |bl c=>cases r1;exact mr ⟨H1,I1,q1⟩
 |ref a=>
  cases r1;obtain⟨xs,hq,q⟩:=q1;obtain⟨aa,rv,p,hz⟩:=I1.list hq;have hl:=rv.length;refine wpAny_truthy_list p.isList (by rw[lD,<- hl];rw[sizeLine_eq]at hz;lia) ?_
  have e:aa.isEmpty=xs.isEmpty:=by cases rv<;>rfl
  refine⟨H1,I1.tok _,?_⟩
  simpa [e]using q
 |_=>exact q1.elim
end
section
variable {K:Fgg}{E:XK}{α β:Type}{F0 H0 F h:Hp}{L:List Sl}{e te:TE}{T:Ty α}{r:Mo α}{t:TS}{σ:St}{f m:Str}{i n w j:Nat}
theorem zkc_ {lv:List Str}{fr:List (Str×Nat)}{wi:TI}{g:TG}{tt:TT}{te:TE}{r:Mo (List α)}{ss:α->List (Nat×Sl)}{c:α->Mo Bool}{f:α->Mo β}{O':Own β}
  (hi:EvI K wi E L r T) (hg:TgR K g T ss) (hd:∀a,DeadAt (cL lv fr L) ((ss a).map (·.1))) (ht:∀a,EvT K tt E0 (setL (cL lv fr L) (ss a)) (c a)) (he:∀a,EvO K te E0 (setL (cL lv fr L) (ss a)) (f a) O'):
  EvO K (tComp lv fr wi g tt te) E L (r.bind λxs=>compM (λx=>cond1 (c x) (f x)) xs []) (owLO O'):=by
 intro σ F0 H0 Q hL hs q;refine hi σ F0 H0 _ hL hs (q.bind.imp λxs F1 H1 x1 k1 J Y D hD=>?_)
 have av:=hL.mono x1.1
 refine⟨λi m ys ah H'=>m=xs.length-i/\i<=xs.length/\∃acc Fi hh,Ext F1 H1 Fi H'/\Fi D=vk/\hh D=vk/\H' D=vj (.lst ys)/\OwAll O' Fi acc ys hh/\Dj Fi hh/\Same hh H'/\(∀p,hh p≠vk->H1 p=vk)/\HoldF (cL lv fr L) ah F1/\ah.length=(cL lv fr L).length/\After K (compM (λx=>cond1 (c x) (f x)) (xs.drop i) acc) E F1 H1 (OwnK (owLO O') H0 Q),
  ⟨_,rfl,mq _,[],F1,λ_=>vk,.heap x1.2.1 (zU_ hD _),x1.2.1.free hD,rfl,zh_,λ_=>rfl,λ_=>.inr rfl,(λp o z=>by cases z),λp z=>absurd rfl z,zfo_ av,zkY_.symm,k1⟩,?_⟩
 rintro i m ys ah H' ⟨rfl,hi,acc,Fi,hh,xi,hDi,hDh,hy,hp,dj,sh,fresh,hσ,cI,A⟩;by_cases aB:i<xs.length
 ·right
  have ex:xs[i]?=vj xs[i]:=lA aB;obtain⟨g1,g2⟩:=Y.go i H' xs[i] (xi.1.trans xi.2.1) ex;refine⟨g1,λcz cX fY=>i+1<=xs.length/\∃acc Fi hh,Ext F1 H1 Fi fY/\Fi D=vk/\hh D=vk/\fY D=vj (.lst cz)/\OwAll O' Fi acc cz hh/\Dj Fi hh/\Same hh fY/\(∀p,hh p≠vk->H1 p=vk)/\HoldF (cL lv fr L) cX F1/\cX.length=(cL lv fr L).length/\After K (compM (λx=>cond1 (c x) (f x)) (xs.drop (i+1)) acc) E F1 H1 (OwnK (owLO O') H0 Q),λcz cX fY z=>⟨xs.length-(i+1),by omega,rfl,z⟩,λv H2 jq=>?_⟩
  obtain⟨F2,x2,hv⟩:=g2 v H2 jq Fi xi.1 xi.2.1;have keep:∀{Fa Ha Fb Hb:Hp},Ext Fa Ha Fb Hb->Fa D=vk->Ha D=vj (.lst ys)->Dj Fa hh->Same hh Ha->(Fb D=vk/\Hb D=vj (.lst ys))/\Dj Fb hh/\Same hh Hb:=by
   intro Fa Ha Fb Hb x h1 h2 h3 h4;refine⟨⟨?_,x.2.2.1 _ _ h2⟩,λp=>?_,h4.trans x.2.2.1⟩
   ·cases z:Fb D with
    |none=>rfl
    |some o=>have:=x.2.2.2 D h1 (by rw[z];exact sN _);rw[h2]at this;cases this
   ·cases y:hh p with
    |none=>exact .inr rfl
    |some w=>
     left;rcases h3 p with z |z
     ·cases zz:Fb p with
      |none=>rfl
      |some o=>have:=x.2.2.2 p z (by rw[zz];exact sN _);rw[h4 _ _ y]at this;cases this
     ·rw[z]at y;cases y
  obtain⟨⟨fk,hy2⟩,h_,sh2⟩:=keep x2 hDi hy dj sh;refine hg xs[i] v ah F2 H2 _ x2.2.1 hv λvs aN=>?_
  have gw:HoldF (cL lv fr L) ah F2:=hσ.mono (xi.1.trans x2.1);obtain⟨a1,a2,a3⟩:=zeY_ aN cI.symm gw;have eD:HoldF (cL lv fr L) (setS ah vs) F1:=by
   have eZ:=hd xs[i];refine λj s e=>?_
   by_cases hj:∃q∈(ss xs[i]).map (·.1),q=j
   ·obtain⟨q,hq,rfl⟩:=hj
    rw[eZ q hq s e];trivial
   ·have:((setS ah vs)[j]?)=ah[j]?:=zjR_ aN (λhq=>hj ⟨j,hq,rfl⟩)
    rw[this];exact hσ j s e
  have eX:xs.drop i=xs[i]::xs.drop (i+1):=pI aB;rw[eX]at A;unfold compM at A;cases ec:c xs[i]with
  |no=>unfold cond1 at A;rw[ec]at A;exact A.elim
  |ex cc=>unfold cond1 at A;rw[ec]at A;exact A.elim
  |ok bb=>
   refine ht xs[i] _ F2 H2 _ a1 x2.2.1 ?_;rw[ec];intro F3 H3 x3;obtain⟨⟨dU,hy3⟩,dj3,sh3⟩:=keep x3 fk hy2 h_ sh2;have fZ:=(xi.trans x2).trans x3;cases bb with
   |false=>
    rw[if_neg (by decide)]
    refine⟨aB,acc,F3,hh,fZ,dU,hDh,hy3,hp.mono (x2.1.trans x3.1),dj3,sh3,fresh,eD,by rw[a2];exact cI,?_⟩
    unfold cond1 at A;rw[ec]at A;exact A
   |true=>
    rw[if_pos rfl];cases ef:f xs[i]with
    |no=>unfold cond1 at A;rw[ec,ef]at A;exact A.elim
    |ex cc=>unfold cond1 at A;rw[ec,ef]at A;exact A.elim
    |ok y=>
     unfold cond1 at A;rw[ec,ef]at A;have A':After K (Mo.lim (acc.length+1) (compM (λx=>cond1 (c x) (f x)) (xs.drop (i+1)) (acc++[y]))) E F1 H1 (OwnK (owLO O') H0 Q):=A
     obtain⟨hz,A'⟩:=A'.lim;refine he xs[i] _ F3 H3 _ (a1.mono x3.1) x3.2.1 ?_;rw[ef];intro F4 H4 x4 v4 hn hJ hX i5 dO;obtain⟨⟨iW,hy4⟩,ky,sh4⟩:=keep x4 dU hy3 dj3 sh3;have hlen:=hp.len;have iJ:hn D=vk:=by
      cases z:hn D with
      |none=>rfl
      |some w=>have:=hJ D (by rw[z];exact sN _);rw[hy3]at this;cases this
     have kr:Dj hh hn:=λp=>by
      cases z:hn p with
      |none=>exact .inr rfl
      |some w=>exact .inl (sh3.free (hJ p (by rw[z];exact sN _)))
     have fA:=fZ.trans x4;refine⟨hy4,by omega,aB,acc++[y],F4,un hh hn,?_,iW,by unfold un;rw[hDh];exact iJ,zh_,(hp.mono ((x2.1.trans x3.1).trans x4.1)).snoc dO kr,λp=>?_,λp o z=>?_,λp z=>?_,eD,by rw[a2];exact cI,A'⟩
     ·refine⟨fA.1,λb o z=>?_,λb o z=>?_,fA.2.2.2⟩
      ·unfold upd;split
       ·rename_i w;rw[w,iW]at z;cases z
       ·exact fA.2.1 _ _ z
      ·unfold upd;split
       ·rename_i w;rw[w,hD]at z;cases z
       ·exact fA.2.2.1 _ _ z
     ·unfold un
      cases z:hh p with
      |some w=>
       rcases ky p with y |y
       ·exact .inl y
       ·rw[y]at z;cases z
      |none=>exact hX p
     ·have jH:p≠D:=λw=>by
       unfold un at z;rw[w,hDh,iJ]at z;cases z
      unfold upd;rw[if_neg jH];unfold un at z;cases w:hh p with
      |some o'=>rw[w]at z;cases z;exact sh4 _ _ w
      |none=>rw[w]at z;exact i5 _ _ z
     ·unfold un at z
      cases w:hh p with
      |some o'=>exact fresh p (by rw[w];exact sN _)
      |none=>rw[w]at z;exact fZ.2.2.1.free (hJ p z)
 ·left
  have e:i=xs.length:=by omega
  subst e;refine⟨Y.stop H' (xi.1.trans xi.2.1),?_⟩;rw[qJ]at A;have A':OwnK (owLO O') H0 Q acc Fi H':=A Fi H' xi;have dD:Dj (one D (.lst ys)) hh:=λp=>by
   unfold one;split
   ·rename_i w;rw[w];exact .inr hDh
   ·exact .inl rfl
  refine A' (.ref D) (un (one D (.lst ys)) hh) (λp z=>?_) (λp=>?_) (λp o z=>?_) ⟨D,ys,hh,rfl,zah_ dD,hp⟩
  ·unfold un one at z
   by_cases w:p=D
   ·rw[w];exact x1.2.2.1.free hD
   ·simp only[if_neg w]at z;exact x1.2.2.1.free (fresh p z)
  ·by_cases w:p=D
   ·rw[w];exact .inl hDi
   ·unfold un one;simp only[if_neg w];exact dj p
  ·unfold un one at z
   by_cases w:p=D
   ·simp only[if_pos w]at z;rw[w];cases z;exact hy
   ·simp only[if_neg w]at z;exact sh _ _ z
theorem jn_no {h1 h2 h:Hp}(j:Jn h1 h2 h)(n:∀p,h2 p=vk):h=h1:=funext λp=>by
 rcases j p with⟨a,b⟩|⟨_,b⟩
 ·rw[b,n,a]
 ·exact b
section
open PySem PySem.Spec PyProof.Rows PySem.W
end
theorem zO_ {α:Type}{us:List α}{n:Nat}(h:us.length=n+1):∃a t,us=a::t/\t.length=n:=by
 cases us with
 |nil=>cases h
 |cons a t=>exact⟨a,t,rfl,nh h⟩
theorem Fun.binds1 {x qual:Str}{st:mC}{f:lE}{fd:mW}{ps:List Str}(hp:ps.length=1)(F:Fun K x qual st f fd)(h:∀(kV doc pm:aV) (an:Option lE) (ae ct:aV) (ua:aV),bindArgs (W.fnOf x qual (defArgs st) (defBody st) (defScope st) .none kV doc pm an ae ct) ⟨[ua],[]⟩=pure (ps.zip [ua])):Binds K fd ps []:=by
 refine F.binds λkV doc pm an ae ct us hl=>?_
 have h0:=hl.trans hp;obtain⟨ua,t1,rfl,h1⟩:=zO_ h0;cases mJ.mp h1;exact h kV doc pm an ae ct ua
theorem Fun.binds2 {x qual:Str}{st:mC}{f:lE}{fd:mW}{ps:List Str}(hp:ps.length=2)(F:Fun K x qual st f fd)(h:∀(kV doc pm:aV) (an:Option lE) (ae ct:aV) (ua ub:aV),bindArgs (W.fnOf x qual (defArgs st) (defBody st) (defScope st) .none kV doc pm an ae ct) ⟨[ua,ub],[]⟩=pure (ps.zip [ua,ub])):Binds K fd ps []:=by
 refine F.binds λkV doc pm an ae ct us hl=>?_
 have h0:=hl.trans hp;obtain⟨ua,t1,rfl,h1⟩:=zO_ h0;obtain⟨ub,t2,rfl,h2⟩:=zO_ h1;cases mJ.mp h2;exact h kV doc pm an ae ct ua ub
theorem Fun.binds3 {x qual:Str}{st:mC}{f:lE}{fd:mW}{ps:List Str}(hp:ps.length=3)(F:Fun K x qual st f fd)(h:∀(kV doc pm:aV) (an:Option lE) (ae ct:aV) (ua ub uc:aV),bindArgs (W.fnOf x qual (defArgs st) (defBody st) (defScope st) .none kV doc pm an ae ct) ⟨[ua,ub,uc],[]⟩=pure (ps.zip [ua,ub,uc])):Binds K fd ps []:=by
 refine F.binds λkV doc pm an ae ct us hl=>?_
 have h0:=hl.trans hp;obtain⟨ua,t1,rfl,h1⟩:=zO_ h0;obtain⟨ub,t2,rfl,h2⟩:=zO_ h1;obtain⟨uc,t3,rfl,h3⟩:=zO_ h2;cases mJ.mp h3;exact h kV doc pm an ae ct ua ub uc
theorem Fun.binds4 {x qual:Str}{st:mC}{f:lE}{fd:mW}{ps:List Str}(hp:ps.length=4)(F:Fun K x qual st f fd)(h:∀(kV doc pm:aV) (an:Option lE) (ae ct:aV) (ua ub uc ud:aV),bindArgs (W.fnOf x qual (defArgs st) (defBody st) (defScope st) .none kV doc pm an ae ct) ⟨[ua,ub,uc,ud],[]⟩=pure (ps.zip [ua,ub,uc,ud])):Binds K fd ps []:=by
 refine F.binds λkV doc pm an ae ct us hl=>?_
 have h0:=hl.trans hp;obtain⟨ua,t1,rfl,h1⟩:=zO_ h0;obtain⟨ub,t2,rfl,h2⟩:=zO_ h1;obtain⟨uc,t3,rfl,h3⟩:=zO_ h2;obtain⟨ud,t4,rfl,h4⟩:=zO_ h3;cases mJ.mp h4;exact h kV doc pm an ae ct ua ub uc ud
end
section
end
section
variable {κ:Type}[DecidableEq κ]
end
section
end
def mSetD (td ty tz:TE):TE:=λσ H Q=>td σ H λx H1=>(match x with |.ref a=>∃kvs,H1 a=vj (.dK kvs)|_=>False)/\ty σ H1 λy H2=>tz σ H2 λz H3=>atD x y H3 λa kvs k=>
 match valV kvs k with |some v=>Q v H3 |none=>kvs.length<lL/\Q z (upd H3 a (.dK (putK kvs k z)))
section
variable {X:Cx}{o e f:lP}{apos ak:Pos}{td ty tz:TE}
theorem zkf_ (hu:X.A.units+60<cLine)(ho:PE X o td)(he:PE X e ty)(hf:PE X f tz)(m:M2 X o "setdefault" apos e f ak:=by exact⟨rfl,rfl,rfl,rfl⟩):PE X (.Call (.Attribute o "setdefault" apos) [e,f] [] ak) (mSetD td ty tz):=by
 intro pins s σ H Q I h;refine wpAny_Call_method m.base m.few m.line PySem.F.plainAttrs_dict qe PySem.F.type_dict_setdefault (thn (ho pins s σ H _ I h) λu s1 af=>?_)
 obtain⟨x,H1,I1,rx,hx,q1⟩:=af;cases x with
 |ref a=>
  obtain⟨gj,hd0⟩:=hx;obtain rfl:u=mT a:=rx;obtain⟨t1,t2,_⟩:=zrs_ I1 (.inl ⟨gj,.inl hd0⟩);refine⟨t1,t2,?_⟩;rw[m.trees];refine Calls.callWith_builtin rfl (Calls.evalArgs_plain (Calls.spliced_cons (thn (he pins s1 σ H1 _ I1 q1) λiv s2 ⟨y,H2,I2,ry,q2⟩=>
   Calls.spliced_cons (thn (hf pins s2 σ H2 _ I2 q2) λfv s3 ⟨z,H3,I3,rz,q3⟩=>Calls.spliced_nil ?_))))
  obtain⟨a',kvs,k,ea,rfl,hd,q⟩:=zg1_ q3;cases ea;obtain⟨hz,hsys,vs,rel,dd⟩:=znI_ I3.hok hd;have jo:vs.length<=lL:=by rw[<- rel.length];exact hz
  have rk:=rel.val k;refine call_meetsIn qe dd.typeIs PySem.F.entry_dict_setdefault (PySem.F.args_dict_setdefault_3 _ _ _) (kt_meets_setdefault (mixKind X.prog X.w) a (zjv_ ry) hsys fv) ⟨vs,dd,jo,λv hv=>?_,λhn h' cy hs=>?_⟩
  ·rw[hv]at rk
   cases g:valV kvs k with
   |none=>rw[g]at rk;exact rk.elim
   |some v0=>rw[g]at rk q;exact⟨v0,H3,I3.tok _,rk,q⟩
  ·rw[hn]at rk
   cases g:valV kvs k with
   |some v0=>rw[g]at rk;exact rk.elim
   |none=>
    rw[g]at q;have hl:(putK kvs k z).length<=lL:=by have:=zaO_ kvs k z;have:=q.1;lia
    have hq:∃q,h'.get? a=vj q:=let⟨q,_,_,hq,_⟩:=cy;⟨q,hq⟩
    exact⟨z,_,zeP_ I3 (by rw[hd];exact m7) hs hq (zkx_ hl hsys (rel.put k rz) cy),rz,q.2⟩
 |_=>exact hx.elim
end
section
variable {κ:Type}[DecidableEq κ]
end
section
end
section
variable {κ:Type}
variable [DecidableEq κ]
end
section
variable {κ:Type}[DecidableEq κ]
end
section
end
def Fi (K:Fgg)(x q:Str)(st:mC)(f:lE):Prop:=∃(oc:aV) (od:Option lE) (kV doc pm:aV) (an:Option lE) (ae ct:aV) (aq:Array (Option aV)),
 K.lookup f=vj ⟨oc,od,.func (W.fnOf x q (defArgs st) (defBody st) (defScope st) .none kV doc pm an ae ct),aq⟩/\p7 K ae q=vm/\oQ K (.ref f)=vm
def Fg (K:Fgg)(x:Str)(st:mC):Prop:=∃f,nH K lU x=vj (vj (.ref f))/\Fi K x x st f
def Fm (K:Fgg)(c m q:Str)(st:mC):Prop:=∃cw f,nH K lU c=vj (vj (.ref cw))/\n5 K (.ref cw) m=vj (vj (.ref f))/\uj K (.ref f)=vm/\Fi K m q st f
def Fc (K:Fgg)(c:Str):Prop:=∃cw,nH K lU c=vj (vj (.ref cw))/\qT K cw t7=vm/\qt K cw=vm/\rB K cw=vm /\
 n5 K (.ref cw) "__setattr__"=vj (vj (.builtin "object.__setattr__"))/\sM K cw=vm/\oQ K (.ref cw)=vm
def Fa (K:Fgg)(c a:Str):Prop:=∃cw,nH K lU c=vj (vj (.ref cw))/\n5 K (.ref cw) a=vj vk
def Fb (K:Fgg)(x:Str):Prop:=nH K lU x=vj vk
def Fv (K:Fgg)(x:Str)(v:V):Prop:=∃u,nH K lU x=vj (vj u)/\RelV v u
def Fk (K:Fgg)(x:Str):Prop:=∃c,nH K lU x=vj (vj (.ref c))
def Mgo (K:Fgg)(mg:Str->Option aV):Prop:=∃h:Heap,K.In h/\h.Ns lU mg
section
variable {P:l5}{w:mx}{K:Fgg}{mg:Str->Option aV}{base:Heap}{CX:CXT}{x q c m a:Str}{st:mC}{f:lE}{fd:mW}{ps:List Str}{k:Nat}{sp:Sp}{v:V}
theorem Fg.mk_ {oc:aV}{od:Option lE}{kV doc pm:aV}{an:Option lE}{ae ct:aV}{aq:Array (Option aV)}(h:nH K lU x=vj (vj (.ref f)))(l:K.lookup f=vj ⟨oc,od,.func (W.fnOf x x (defArgs st) (defBody st) (defScope st) .none kV doc pm an ae ct),aq⟩)(c:p7 K ae x=vm)(k:oQ K (.ref f)=vm):Fg K x st:=⟨f,h,oc,od,kV,doc,pm,an,ae,ct,aq,l,c,k⟩
theorem Fm.mk_ {cw:lE}{oc:aV}{od:Option lE}{kV doc pm:aV}{an:Option lE}{ae ct:aV}{aq:Array (Option aV)}(h:nH K lU c=vj (vj (.ref cw)))(h1:n5 K (.ref cw) m=vj (vj (.ref f)))(h2:uj K (.ref f)=vm)(l:K.lookup f=vj ⟨oc,od,.func (W.fnOf m q (defArgs st) (defBody st) (defScope st) .none kV doc pm an ae ct),aq⟩)(h3:p7 K ae q=vm)(k:oQ K (.ref f)=vm):Fm K c m q st:=⟨cw,f,h,h1,h2,oc,od,kV,doc,pm,an,ae,ct,aq,l,h3,k⟩
theorem Fc.mk_ {cw:lE}(h:nH K lU c=vj (vj (.ref cw)))(h1:qT K cw t7=vm)(h2:qt K cw=vm)(h3:rB K cw=vm)(h4:n5 K (.ref cw) "__setattr__"=vj (vj (.builtin "object.__setattr__")))(h5:sM K cw=vm)(h6:oQ K (.ref cw)=vm):Fc K c:=⟨cw,h,h1,h2,h3,h4,h5,h6⟩
theorem Fa.mk_ {cw:lE}(h:nH K lU c=vj (vj (.ref cw)))(h1:n5 K (.ref cw) a=vj vk):Fa K c a:=⟨cw,h,h1⟩
theorem Fv.mk_ {u:aV}(h:nH K lU x=vj (vj u))(h1:RelV v u):Fv K x v:=⟨u,h,h1⟩
theorem Fk.mk_ {cw:lE}(h:nH K lU x=vj (vj (.ref cw))):Fk K x:=⟨cw,h⟩
theorem Fi.fun_ (h:Fi K x q st f):∃fd,Fun K x q st f fd:=by
 obtain⟨oc,od,kV,doc,pm,an,ae,ct,aq,l,c,k⟩:=h;exact⟨_,zl4_ l c k⟩
theorem Mgo.gb (M:Mgo K mg)(h:Fb K x):Gb mg x:=by
 obtain⟨_,X,G⟩:=M;exact W.mg_none_of X G h
theorem Mgo.gv (M:Mgo K mg)(h:Fv K x v):Gc mg x v:=by
 obtain⟨_,X,G⟩:=M;obtain⟨u,e,r⟩:=h;exact⟨u,sx X G e,r⟩
theorem Mgo.gk (M:Mgo K mg)(h:Fk K x):mg x=vj (.ref (gA K x)):=by
 obtain⟨_,X,G⟩:=M;obtain⟨u,e⟩:=h;rw[zmf_ e];exact sx X G e
theorem Mgo.gkc (M:Mgo K mg)(h:Fk K x):Gc mg x (.ref (gA K x)):=⟨_,M.gk h,rfl⟩
theorem Fc.cls (h:Fc K c):Cls K (gA K c):=by
 obtain⟨cw,e,h1,h2,h3,h4,_⟩:=h;rw[zmf_ e];exact⟨h1,h2,h3,h4⟩
theorem Fa.no (h:Fa K c a):NoAttr K (gA K c) a:=by
 obtain⟨cw,e,h⟩:=h;rw[zmf_ e];exact h
abbrev OkF (P:l5)(w:mx)(K:Fgg)(mg:Str->Option aV)(base:Heap)(CX:CXT)(k:Nat)(x q:Str)(st:mC)(ps:List Str)(sp:Sp):Prop:=∀f fd,Fun K x q st f fd->FnOk P w K mg base CX k f fd ps sp/\Binds K fd ps []
theorem zJ_ (M:Mgo K mg)(F:Fg K x st)(h:OkF P w K mg base CX k x x st ps sp):Gd P w K mg base CX k x ps sp:=by
 obtain⟨_,X,G⟩:=M;obtain⟨f,e,i⟩:=F;obtain⟨fd,F⟩:=i.fun_;exact⟨f,fd,(h f fd F).1,sx X G e,F.kp,(h f fd F).2⟩
end
section
variable {K:Fgg}{x q:Str}{st:mC}{ps:List Str}
abbrev Bnd (K:Fgg)(x q:Str)(st:mC)(ps:List Str):Prop:=∀f fd,Fun K x q st f fd->Binds K fd ps []
variable {l:PySem.W.OpenLaw}{w:mx}{mg:Str->Option aV}{k:Nat}{sp:Sp}{fa:lE}
theorem okLaw (M:Mgo K mg)(F:Fg K "law" st)(gQ:mg "law"=vj (.ref fa))(hb:∀(kV doc pm:aV) (an:Option lE) (ae ct:aV) (s:lu) (v:aV),bindArgs (W.fnOf "law" "law" (defArgs st) (defBody st) (defScope st) .none kV doc pm an ae ct) ⟨[v],[]⟩=pure [(x,v)])
  (h:∀(base:Heap) (f:lE) (fd:mW),Fun K "law" "law" st f fd->FnOk l.prog w K mg base CX0 k f fd [x] sp):
  ∃fd:mW,(∀(s:lu) (v:aV),BindsTo s fd ⟨[v],[]⟩ [(x,v)])/\∀base:Heap,K.In base->base.Ns lU mg->FnOk l.prog w K mg base CX0 k fa fd [x] sp:=by
 obtain⟨_,X,G⟩:=M;obtain⟨f,e,oc,od,kV,doc,pm,an,ae,ct,aq,l',c,kk⟩:=F;cases gQ.symm.trans (sx X G e);exact⟨_,λs v=>.of_eq (hb kV doc pm an ae ct s v),λbase _ _=>h base _ _ (zl4_ l' c kk)⟩
def spL (K:Fgg):Sp:=λvs H Q _=>∃(a:lE) (ns:List Int),vs=[.ref a]/\SqL K H a (ns.map V.int)/\ns.length<=63/\BitsOk ns/\∀H',Q (.bl vm) H'
end
abbrev zdK_:=@PySem.F.slot_str_zfill
abbrev zdW_:=@PySem.F.type_str_zfill
abbrev zdR_:=@PySem.F.slot_str_index
abbrev zea_:=@PySem.F.type_str_index
abbrev zfb_:=@PySem.F.slot_str_join
abbrev ze2_:=@PySem.F.type_str_join
abbrev zeA_:=@PySem.F.plainAttrs_list
abbrev zbd_:=@PySem.F.slot_list_append
abbrev zbb_:=@PySem.F.type_list_append
abbrev zbf_:=@PySem.F.slot_list_extend
abbrev zbe_:=@PySem.F.type_list_extend
section
end
def Fe1 (K:Fgg)(a:Str)(P:lE->Prop):Prop:=∃v,nH K lU a=vj (vj (.ref v))/\P v
theorem Fe1.mk_ {K:Fgg}{a:Str}{P:lE->Prop}{v:lE}(h:nH K lU a=vj (vj (.ref v)))(p:P v):Fe1 K a P:=⟨v,h,p⟩
def Fe2 (K:Fgg)(a b:Str)(P:lE->lE->Prop):Prop:=∃v w,nH K lU a=vj (vj (.ref v))/\nH K lU b=vj (vj (.ref w))/\P v w
theorem Fe2.mk_ {K:Fgg}{a b:Str}{P:lE->lE->Prop}{v w:lE}(h:nH K lU a=vj (vj (.ref v)))(h2:nH K lU b=vj (vj (.ref w)))(p:P v w):Fe2 K a b P:=⟨v,w,h,h2,p⟩
section
end
open PySem.SeqAt
open PySem.AutoSeq1 (wpAny_loadPart')
open PySem.MeetsSeq PySem.MeetsSeq2 PySem.MeetsSeq3
section
variable {X:Cx}{pins:Pnn}{σ:St}{H:Hp}{s:lu}{A:my}
theorem zlT_ {x y:V}{v u:aV}(rx:RelV x v)(ry:RelV y u)(fx:flatV x=vm)(fy:flatV y=vm):oV A s v u (eqV x y):=by
 cases x with
 |non=>
  cases rx;cases y with
  |non=>cases ry;exact SeqAt.RcAt.none_none
  |bl b=>cases ry;exact SeqAt.RcAt.none_bool _
  |int b=>obtain⟨t,rfl⟩:=ry;exact SeqAt.RcAt.none_int _ _
  |str b=>obtain⟨t,rfl⟩:=ry;exact SeqAt.RcAt.none_str _ _
  |_=>cases fy
 |bl a=>
  cases rx;cases y with
  |non=>cases ry;exact SeqAt.RcAt.bool_none _
  |bl b=>cases ry;exact SeqAt.RcAt.bool_bool _ _
  |int b=>obtain⟨t,rfl⟩:=ry;exact SeqAt.RcAt.bool_int _ _ _
  |str b=>obtain⟨t,rfl⟩:=ry;exact SeqAt.RcAt.bool_str _ _ _
  |_=>cases fy
 |int a=>
  obtain⟨t',rfl⟩:=rx;cases y with
  |non=>cases ry;exact SeqAt.RcAt.int_none _ _
  |bl b=>cases ry;exact SeqAt.RcAt.int_bool _ _ _
  |int b=>obtain⟨t,rfl⟩:=ry;exact SeqAt.RcAt.int_int _ _ _ _
  |str b=>obtain⟨t,rfl⟩:=ry;exact SeqAt.RcAt.int_str _ _ _ _
  |_=>cases fy
 |str a=>
  obtain⟨t',rfl⟩:=rx;cases y with
  |non=>cases ry;exact SeqAt.RcAt.str_none _ _
  |bl b=>cases ry;exact SeqAt.RcAt.str_bool _ _ _
  |int b=>obtain⟨t,rfl⟩:=ry;exact SeqAt.RcAt.str_int _ _ _ _
  |str b=>obtain⟨t,rfl⟩:=ry;exact SeqAt.RcAt.str_str _ _ _ _
  |_=>cases fy
 |_=>cases fx
theorem zkl_ {x y:V}{v u:aV}(rx:RelV x v)(ry:RelV y u)(fx:flatV x=vm)(fy:flatV y=vm):pD A s v u (!eqV x y):=by
 cases x with
 |non=>
  cases rx;cases y with
  |non=>cases ry;exact uk
  |bl b=>cases ry;exact um _
  |int b=>obtain⟨t,rfl⟩:=ry;exact uC _ _
  |str b=>obtain⟨t,rfl⟩:=ry;exact uD _ _
  |_=>cases fy
 |bl a=>
  cases rx;cases y with
  |non=>cases ry;exact uo _
  |bl b=>cases ry;exact uq _ _
  |int b=>obtain⟨t,rfl⟩:=ry;exact uE _ _ _
  |str b=>obtain⟨t,rfl⟩:=ry;exact uF _ _ _
  |_=>cases fy
 |int a=>
  obtain⟨t',rfl⟩:=rx;cases y with
  |non=>cases ry;exact uG _ _
  |bl b=>cases ry;exact uH _ _ _
  |int b=>obtain⟨t,rfl⟩:=ry;exact uT _ _ _ _
  |str b=>obtain⟨t,rfl⟩:=ry;exact uU _ _ _ _
  |_=>cases fy
 |str a=>
  obtain⟨t',rfl⟩:=rx;cases y with
  |non=>cases ry;exact uI _ _
  |bl b=>cases ry;exact uJ _ _ _
  |int b=>obtain⟨t,rfl⟩:=ry;exact uV _ _ _ _
  |str b=>obtain⟨t,rfl⟩:=ry;exact uW _ _ _ _
  |_=>cases fy
 |_=>cases fx
theorem rc_lf {p:lE}{aa:Array aV}{y:V}{u:aV}(hp:s.heap.IsList p aa)(ry:RelV y u)(fy:flatV y=vm)(hu:A.units<cLine):oV A s (.ref p) u vn:=by
 cases y with
 |non=>cases ry;exact SeqAt.RcAt.list_none hp hu
 |bl b=>cases ry;exact SeqAt.RcAt.list_bool _ hp hu
 |int b=>obtain⟨t,rfl⟩:=ry;exact SeqAt.RcAt.list_int _ _ hp hu
 |str b=>obtain⟨t,rfl⟩:=ry;exact SeqAt.RcAt.list_str _ _ hp hu
 |_=>cases fy
theorem rc_lF {p:lE}{aa:Array aV}{y:V}{u:aV}(hp:s.heap.IsList p aa)(ry:RelV y u)(fy:flatV y=vm)(hu:A.units<cLine):oV A s u (.ref p) vn:=by
 cases y with
 |non=>cases ry;exact SeqAt.RcAt.none_list hp hu
 |bl b=>cases ry;exact SeqAt.RcAt.bool_list _ hp hu
 |int b=>obtain⟨t,rfl⟩:=ry;exact SeqAt.RcAt.int_list _ _ hp hu
 |str b=>obtain⟨t,rfl⟩:=ry;exact SeqAt.RcAt.str_list _ _ hp hu
 |_=>cases fy
theorem rc_tf {p:lE}{aa:Array aV}{y:V}{u:aV}(hp:s.heap.IsTuple p aa)(ry:RelV y u)(fy:flatV y=vm)(hu:A.units<cLine):oV A s (.ref p) u vn:=by
 cases y with
 |non=>cases ry;exact SeqAt.RcAt.tuple_none hp hu
 |bl b=>cases ry;exact SeqAt.RcAt.tuple_bool _ hp hu
 |int b=>obtain⟨t,rfl⟩:=ry;exact SeqAt.RcAt.tuple_int _ _ hp hu
 |str b=>obtain⟨t,rfl⟩:=ry;exact SeqAt.RcAt.tuple_str _ _ hp hu
 |_=>cases fy
theorem rc_tF {p:lE}{aa:Array aV}{y:V}{u:aV}(hp:s.heap.IsTuple p aa)(ry:RelV y u)(fy:flatV y=vm)(hu:A.units<cLine):oV A s u (.ref p) vn:=by
 cases y with
 |non=>cases ry;exact SeqAt.RcAt.none_tuple hp hu
 |bl b=>cases ry;exact SeqAt.RcAt.bool_tuple _ hp hu
 |int b=>obtain⟨t,rfl⟩:=ry;exact SeqAt.RcAt.int_tuple _ _ hp hu
 |str b=>obtain⟨t,rfl⟩:=ry;exact SeqAt.RcAt.str_tuple _ _ hp hu
 |_=>cases fy
theorem zqR_ {p:lE}{aa:Array aV}{y:V}{u:aV}(hp:s.heap.IsList p aa)(ry:RelV y u)(fy:flatV y=vm)(hu:A.units<cLine):pD A s (.ref p) u vm:=by
 cases y with
 |non=>cases ry;exact ur hp hu
 |bl b=>cases ry;exact uu _ hp hu
 |int b=>obtain⟨t,rfl⟩:=ry;exact uK _ _ hp hu
 |str b=>obtain⟨t,rfl⟩:=ry;exact uL _ _ hp hu
 |_=>cases fy
theorem zqo_ {p:lE}{aa:Array aV}{y:V}{u:aV}(hp:s.heap.IsList p aa)(ry:RelV y u)(fy:flatV y=vm)(hu:A.units<cLine):pD A s u (.ref p) vm:=by
 cases y with
 |non=>cases ry;exact uv hp hu
 |bl b=>cases ry;exact uw _ hp hu
 |int b=>obtain⟨t,rfl⟩:=ry;exact uM _ _ hp hu
 |str b=>obtain⟨t,rfl⟩:=ry;exact uN _ _ hp hu
 |_=>cases fy
theorem zpU_ {p:lE}{aa:Array aV}{y:V}{u:aV}(hp:s.heap.IsTuple p aa)(ry:RelV y u)(fy:flatV y=vm)(hu:A.units<cLine):pD A s (.ref p) u vm:=by
 cases y with
 |non=>cases ry;exact ue hp hu
 |bl b=>cases ry;exact uf _ hp hu
 |int b=>obtain⟨t,rfl⟩:=ry;exact ux _ _ hp hu
 |str b=>obtain⟨t,rfl⟩:=ry;exact uy _ _ hp hu
 |_=>cases fy
theorem zpj_ {p:lE}{aa:Array aV}{y:V}{u:aV}(hp:s.heap.IsTuple p aa)(ry:RelV y u)(fy:flatV y=vm)(hu:A.units<cLine):pD A s u (.ref p) vm:=by
 cases y with
 |non=>cases ry;exact ug hp hu
 |bl b=>cases ry;exact uh _ hp hu
 |int b=>obtain⟨t,rfl⟩:=ry;exact uz _ _ hp hu
 |str b=>obtain⟨t,rfl⟩:=ry;exact uA _ _ hp hu
 |_=>cases fy
theorem zol_ (I:Inv X pins σ H s){n:Nat}{x y:V}{b:Bool}(h:EqD X.K H n x y b):∀(A:my) (v u:aV),A.units+n<cLine->RelV x v->RelV y u->oV A s v u b:=by
 induction h with
 |flat hx hy=>exact λA v u _ rx ry=>zlT_ rx ry hx hy
 |lst e hp hq hl h ih=>exact λA v u hu rx ry=>(zc4_ I (.lst e hp hq hl h) A v u hu rx ry).2 _ _ rfl rfl
 |lstN hp hq hl=>exact λA v u hu rx ry=>(zc4_ I (.lstN hp hq hl) A v u hu rx ry).2 _ _ rfl rfl
 |tup e hp hq h ih=>exact λA v u hu rx ry=>(zc4_ I (.tup e hp hq h) A v u hu rx ry).2 _ _ rfl rfl
 |lt hp hq=>exact λA v u hu rx ry=>(zc4_ I (.lt hp hq) A v u hu rx ry).2 _ _ rfl rfl
 |tl hp hq=>exact λA v u hu rx ry=>(zc4_ I (.tl hp hq) A v u hu rx ry).2 _ _ rfl rfl
 |lf hp hy=>intro A v u hu rx ry;cases rx;obtain⟨aa,_,p1,_⟩:=I.list hp;exact rc_lf p1.isList ry hy (by lia)
 |fl hp hy=>intro A v u hu rx ry;cases ry;obtain⟨aa,_,p1,_⟩:=I.list hp;exact rc_lF p1.isList rx hy (by lia)
 |tf hp hy=>intro A v u hu rx ry;cases rx;obtain⟨aa,_,p1,_⟩:=I.tuple hp;exact rc_tf p1 ry hy (by lia)
 |ft hp hy=>intro A v u hu rx ry;cases ry;obtain⟨aa,_,p1,_⟩:=I.tuple hp;exact rc_tF p1 rx hy (by lia)
 |up h ih=>exact λA v u hu rx ry=>ih A v u (by lia) rx ry
def mEqA (K:Fgg):R2:=λx y H Q=>∃n b,n<=50/\EqD K H n x y b/\Q (.bl b) H
theorem zpB_ (hu:X.A.units+60<cLine):OpR X (l4 .Eq) (mEqA X.K):=by
 intro pins s σ H x y v u Q I rx ry h;obtain⟨n,b,hn,h,q⟩:=h;exact(zol_ I h X.A v u (by lia) rx ry) X.prog X.w X.xe _ ⟨.bl b,H,I,rfl,q⟩
theorem zj7_ (I:Inv X pins σ H s){n:Nat}{x y:V}{b:Bool}(h:EqD X.K H n x y b):∀(A:my) (v u:aV),A.units+n<cLine->RelV x v->RelV y u->pD A s v u (!b):=by
 induction h with
 |flat hx hy=>exact λA v u _ rx ry=>zkl_ rx ry hx hy
 |lst e hp hq hl h ih=>exact λA v u hu rx ry=>zgd_ I (.lst e hp hq hl h) A v u hu rx ry _ _ rfl rfl
 |lstN hp hq hl=>exact λA v u hu rx ry=>zgd_ I (.lstN hp hq hl) A v u hu rx ry _ _ rfl rfl
 |tup e hp hq h ih=>exact λA v u hu rx ry=>zgd_ I (.tup e hp hq h) A v u hu rx ry _ _ rfl rfl
 |lt hp hq=>exact λA v u hu rx ry=>zgd_ I (.lt hp hq) A v u hu rx ry _ _ rfl rfl
 |tl hp hq=>exact λA v u hu rx ry=>zgd_ I (.tl hp hq) A v u hu rx ry _ _ rfl rfl
 |lf hp hy=>intro A v u hu rx ry;cases rx;obtain⟨aa,_,p1,_⟩:=I.list hp;exact zqR_ p1.isList ry hy (by lia)
 |fl hp hy=>intro A v u hu rx ry;cases ry;obtain⟨aa,_,p1,_⟩:=I.list hp;exact zqo_ p1.isList rx hy (by lia)
 |tf hp hy=>intro A v u hu rx ry;cases rx;obtain⟨aa,_,p1,_⟩:=I.tuple hp;exact zpU_ p1 ry hy (by lia)
 |ft hp hy=>intro A v u hu rx ry;cases ry;obtain⟨aa,_,p1,_⟩:=I.tuple hp;exact zpj_ p1 rx hy (by lia)
 |up h ih=>exact λA v u hu rx ry=>ih A v u (by lia) rx ry
def mNeA (K:Fgg):R2:=λx y H Q=>∃n b,n<=50/\EqD K H n x y b/\Q (.bl (!b)) H
theorem zqQ_ (hu:X.A.units+60<cLine):OpR X (l4 .NotEq) (mNeA X.K):=by
 intro pins s σ H x y v u Q I rx ry h;obtain⟨n,b,hn,h,q⟩:=h;exact(zj7_ I h X.A v u (by lia) rx ry) X.prog X.w X.xe _ ⟨.bl (!b),H,I,rfl,q⟩
end
def Fs (K:Fgg)(c m q:Str)(st:mC):Prop:=∃cw f,nH K lU c=vj (vj (.ref cw))/\tq K (.ref cw) "__getattribute__"=vj (vj (.builtin "type.__getattribute__"))/\W.readsIn K cw (.type "type")=vm/\W.findCls K (.ref cw) (.type "type") m=vj (.val (.ref f))/\Fi K m q st f
section
variable {K:Fgg}{q c m:Str}{st:mC}{f:lE}
theorem Fs.mk_ {cw:lE}{oc:aV}{od:Option lE}{kV doc pm:aV}{an:Option lE}{ae ct:aV}{aq:Array (Option aV)}(h:nH K lU c=vj (vj (.ref cw)))(h1:tq K (.ref cw) "__getattribute__"=vj (vj (.builtin "type.__getattribute__")))(h2:W.readsIn K cw (.type "type")=vm)(h3:W.findCls K (.ref cw) (.type "type") m=vj (.val (.ref f)))
  (l:K.lookup f=vj ⟨oc,od,.func (W.fnOf m q (defArgs st) (defBody st) (defScope st) .none kV doc pm an ae ct),aq⟩) (hc:p7 K ae q=vm) (hk:oQ K (.ref f)=vm):Fs K c m q st:=⟨cw,f,h,h1,h2,h3,oc,od,kV,doc,pm,an,ae,ct,aq,l,hc,hk⟩
end
section
variable {κ:Type}
section
variable [DecidableEq κ]
end
end
section
end
noncomputable def Xc.c:Xc->String
 |.pl c=>c
 |.at c _=>c
section
end
structure FunD (K:Fgg)(T:lE)(x qual:Str)(st:mC)(f:lE)(fd:mW):Prop where
 ex:∃(oc:aV) (od:Option lE) (kV doc pm:aV) (an:Option lE) (ae ct:aV) (aq:Array (Option aV)),
  fd=W.fnOf x qual (defArgs st) (defBody st) (defScope st) (.ref T) kV doc pm an ae ct/\K.lookup f=vj ⟨oc,od,.func fd,aq⟩/\p7 K ae qual=vm
 kp:oQ K (.ref f)=vm
section
end
noncomputable def relB:V->aV->Bool
 |.non,.none=>vm
 |.int i,.int j _=>i == j
 |.bl a,.bool b=>a == b
 |_,_=>vn
def relsB:List V->List aV->Bool
 |[],[]=>vm
 |x::xs,v::vs=>relB x v && relsB xs vs
 |_,_=>vn
theorem zni_ {x:V}{v:aV}(h:relB x v=vm):RelV x v:=by
 unfold relB at h;split at h
 ·rfl
 ·exact⟨_,by rw[eq_of_beq h]⟩
 ·rw[eq_of_beq h];rfl
 ·cases h
theorem zgp_:∀{xs:List V}{vs:List aV},relsB xs vs=vm->Vals xs vs
 |[],[],_=>.nil
 |x::xs,v::vs,h=>by
  unfold relsB at h;obtain⟨a,b⟩:=ml.mp h;exact .cons (zni_ a) (zgp_ b)
 |[],_::_,h=>by cases h
 |_::_,[],h=>by cases h
def FmD (K:Fgg)(c m q:Str)(st:mC)(au:List V):Prop:=∃cw f T fd arr n oc od aq,nH K lU c=vj (vj (.ref cw))/\n5 K (.ref cw) m=vj (vj (.ref f))/\uj K (.ref f)=vm/\FunD K T m q st f fd /\
 K.lookup T=vj ⟨oc,od,.seq arr n,aq⟩/\Vals au arr.toList
section
variable {P:l5}{w:mx}{K:Fgg}{mg:Str->Option aV}{base:Heap}{CX:CXT}{x q c m:Str}{st:mC}{f:lE}{fd:mW}{ps:List Str}{k:Nat}{sp:Sp}
theorem FmD.mk_ {cw T:lE}{oc dI:aV}{od fG:Option lE}{kV doc pm:aV}{an:Option lE}{ae ct:aV}{aq d5:Array (Option aV)}{arr:Array aV}{n:Nat}{au:List V}(h:nH K lU c=vj (vj (.ref cw)))(h1:n5 K (.ref cw) m=vj (vj (.ref f)))(h2:uj K (.ref f)=vm)
  (l:K.lookup f=vj ⟨oc,od,.func (W.fnOf m q (defArgs st) (defBody st) (defScope st) (.ref T) kV doc pm an ae ct),aq⟩) (c1:p7 K ae q=vm) (k1:oQ K (.ref f)=vm) (lT:K.lookup T=vj ⟨dI,fG,.seq arr n,d5⟩) (hv:relsB au arr.toList=vm):FmD K c m q st au:=
 ⟨cw,f,T,_,arr,n,dI,fG,d5,h,h1,h2,⟨⟨oc,od,kV,doc,pm,an,ae,ct,aq,rfl,l,c1⟩,k1⟩,lT,zgp_ hv⟩
def GkD (P:l5)(w:mx)(K:Fgg)(mg:Str->Option aV)(base:Heap)(CX:CXT)(k:Nat)(x:Str)(C:lE)(ps:List Str)(au:List V)(sp:Sp):Prop:=
 ∃f fd ds,FnOk P w K mg base CX k f fd ps sp/\Mk K C f/\mg x=vj (.ref C)/\Vals au ds/\Binds K fd ps ds
abbrev OkFD (P:l5)(w:mx)(K:Fgg)(mg:Str->Option aV)(base:Heap)(CX:CXT)(k:Nat)(x q:Str)(st:mC)(ps:List Str)(sp:Sp):Prop:=∀T f fd,FunD K T x q st f fd->FnOk P w K mg base CX k f fd ps sp
end
section
variable {X:Cx}{e:lP}{es:List lP}{x:Str}{p pos:Pos}{t:TA}{C:lE}{k:Nat}{ps:List Str}{sp:Sp}{E:XK}{CX:CXT}{au:List V}
theorem zkC_ (G:GkD X.prog X.w X.K X.mg X.base CX k x C ps au sp)(hr:Room (k+1) X.A)(hx:Passes CX X E)(ha:PA X (e::es) t)(hg:Gl X x:=by rfl)(a_:(x==("__debug__":Str))=vn:=by decide)
  (he:me (e::es) X.env=(vn,eval e X.env)::me es X.env:=by rfl) (aN:(oM pos (me es X.env)).any (·.1)=vn:=by rfl):
  PE X (.Call (.Name x p) (e::es) [] pos) (tMake C sp au E t):=by
 obtain⟨f,fd,ds,F,M,hm,hd,hb⟩:=G;exact zmQ_ M F hr hg hm hb hd hx ha a_ he aN
end
section
variable {P:l5}{w:mx}{K:Fgg}{mg:Str->Option aV}{base:Heap}{q c:Str}{st:mC}{ps:List Str}{k:Nat}
theorem zrd_ {CX:CXT}{sp:Sp}{au:List V}(j:Nat)(M:Mgo K mg)(C:Fc K c)(F:FmD K c "__init__" q st au)(hb:∀T f fd arr n oc od aq,FunD K T "__init__" q st f fd->K.lookup T=vj ⟨oc,od,.seq arr n,aq⟩->arr.toList.length=au.length->Binds K fd ps (arr.toList.drop j))
  (h:OkFD P w K mg base CX k "__init__" q st ps sp):GkD P w K mg base CX k c (gA K c) ps (au.drop j) sp:=by
 obtain⟨cw,f,T,fd,arr,n,oc,od,aq,e,e2,e3,F,lT,hv⟩:=F;obtain⟨lh,e',_,_,_,_,h5,h6⟩:=C;cases e.symm.trans e';have hd:∀{xs:List V}{vs:List aV}(j:Nat),Vals xs vs->Vals (xs.drop j) (vs.drop j):=λ{xs vs} j r=>by
  induction j generalizing xs vs with
  |zero=>exact r
  |succ j ih=>cases r with |nil=>exact .nil |cons a t=>exact ih t
 exact⟨f,fd,arr.toList.drop j,h T f fd F,by rw[zmf_ e];exact⟨h5,e2,e3,h6⟩,M.gk ⟨_,e⟩,hd j hv,hb T f fd arr n oc od aq F lT hv.length.symm⟩
theorem arr5 {arr:Array aV}(h:arr.toList.length=5):∃d0 d1 d2 d3 d4,arr=#[d0,d1,d2,d3,d4]:=by
 obtain⟨l⟩:=arr;obtain⟨d0,l,rfl⟩:=mE h;obtain⟨d1,l,rfl⟩:=mE (nh h);obtain⟨d2,l,rfl⟩:=mE (nh (nh h));obtain⟨d3,l,rfl⟩:=mE (nh (nh (nh h)));obtain⟨d4,rfl⟩:=nE.mp (nh (nh (nh (nh h))));exact⟨d0,d1,d2,d3,d4,rfl⟩
end
noncomputable def strsB:List (List Nat)->List aV->Bool
 |[],[]=>vm
 |x::xs,.str z _::vs=>z == ⟨x.toArray⟩ && strsB xs vs
 |_,_=>vn
theorem zha_:∀{xs:List (List Nat)}{vs:List aV},strsB xs vs=vm->Vals (xs.map tx) vs
 |[],[],_=>.nil
 |x::xs,v::vs,h=>by
  unfold strsB at h;split at h
  ·rename_i e1 _;cases e1
  ·rename_i e1 e2
   cases e1;cases e2;obtain⟨a,b⟩:=ml.mp h;exact .cons ⟨_,by rw[eq_of_beq a]⟩ (zha_ b)
  ·cases h
 |[],_::_,h=>by cases h
 |_::_,[],h=>by cases h
def FtT (K:Fgg)(x:Str)(xs:List (List Nat)):Prop:=∀H:Hp,SqT K H (gA K x) (xs.map tx)
theorem FtT.mk_ {K:Fgg}{x:Str}{xs:List (List Nat)}{a:lE}{od:Option lE}{aa:Array aV}{n:Nat}{aq:Array (Option aV)}(h:nH K lU x=vj (vj (.ref a)))(l:K.lookup a=vj ⟨.type "tuple",od,.seq aa n,aq⟩)(hv:strsB xs aa.toList=vm)(hs:aa.toList.length<=1000):FtT K x xs:=λH=>by
 rw[zmf_ h];exact .inr ⟨_,aa,n,l,rfl,rfl,by rw[mQ]at hs;exact m5 hs (by rw[sizeLine_eq];decide),zha_ hv⟩
section
end
instance:Inhabited V:=⟨.non⟩
section
variable {K:Fgg}{x q:Str}{st:mC}{ps:List Str}{f:lE}{fd:mW}
theorem zj0_ {T:lE}{oc:aV}{od:Option lE}{aq:Array (Option aV)}{d0 d1 d2 d3 d4:aV}{n:Nat}(hp:ps.length=10)(F:FunD K T x q st f fd)(lT:K.lookup T=vj ⟨oc,od,.seq #[d0,d1,d2,d3,d4] n,aq⟩)
  (h:∀(kV doc pm:aV) (an:Option lE) (ae ct:aV) (u0 u1 u2 u3 u4:aV) (s:lu),(∃o,s.heap.get? T=vj o/\o.data=.seq #[d0,d1,d2,d3,d4] n)->BindsTo s (W.fnOf x q (defArgs st) (defBody st) (defScope st) (.ref T) kV doc pm an ae ct) ⟨[u0,u1,u2,u3,u4],[]⟩ (ps.zip [u0,u1,u2,u3,u4,d0,d1,d2,d3,d4])):
  Binds K fd ps [d0,d1,d2,d3,d4]:=by
 obtain⟨oc,od,kV,doc,pm,an,ae,ct,aq,rfl,lk,aC⟩:=F.ex;intro s us hK hl;rw[hp,lF]at hl;have hl:us.length=5:=by simpa using hl
 match us,hl with
 |[u0,u1,u2,u3,u4],_=>exact h kV doc pm an ae ct u0 u1 u2 u3 u4 s ⟨_,hK _ _ lT,rfl⟩
end
section
variable {lt:Nat->Nat->Bool}{n:Nat}
def sl (lt:Nat->Nat->Bool)(a b:Nat):Prop:=lt b a=vn/\(lt a b=vm\/a<b)
theorem WOr.st (w:WOr lt){a b c:Nat}(h:lt a b=vm)(g:lt c b=vn):lt a c=vm:=by
 cases e:lt a c with
 |true=>rfl
 |false=>rw[w.tr g e]at h;cases h
theorem WOr.st' (w:WOr lt){a b c:Nat}(h:lt a b=vm)(g:lt a c=vn):lt c b=vm:=by
 cases e:lt c b with
 |true=>rfl
 |false=>rw[w.tr e g]at h;cases h
theorem WOr.sl (w:WOr lt){a b:Nat}(h:lt a b=vm):sl lt a b:=⟨w.asym h,.inl h⟩
def Rest (p:Array Nat)(n m:Nat):Prop:=∀i,m<=i->i<n->p.getD i 0=i
theorem zp4_ {p:Array Nat}(h:Pm p n){i j:Nat}(hi:i<n)(hj:j<n)(e:p.getD i 0=p.getD j 0):i=j:=by
 have hs:=zbm_ h;have nd:p.toList.Nodup:=h.nodup_iff.mpr List.nodup_range;have e':∀k (hk:k<n),p.getD k 0=p.toList[k]'(by rw[mQ,hs];exact hk):=λk hk=>by simp[rY,hs,hk]
 rw[e' i hi,e' j hj]at e;exact(sL nd).mp e
theorem Rest.below {p:Array Nat}{m:Nat}(r:Rest p n m)(h:Pm p n){i:Nat}(hi:i<m)(hm:m<=n):p.getD i 0<m:=by
 have h1:=zhp_ h (show i<n by lia)
 cases Nat.lt_or_ge (p.getD i 0) m with
 |inl z=>exact z
 |inr z=>
  have:=r _ z h1;have:=zp4_ h (by lia) h1 this.symm
  lia
theorem Rest.mono {p:Array Nat}{m k:Nat}(r:Rest p n m)(h:m<=k):Rest p n k:=λi hi=>r i (by lia)
theorem Rest.rev {p:Array Nat}{m i j:Nat}(r:Rest p n m)(hp:Pm p n)(hj:j<=m)(hm:m<=n):Rest (kas_rev p i j) n m:=λk hk hn=>by
 have hs:=zbm_ hp;rw[zb9_ (by lia),if_neg (by lia)];exact r k hk hn
def As (lt:Nat->Nat->Bool)(p:Array Nat)(k:Nat):Prop:=∀i j,i<j->j<k->sl lt (p.getD i 0) (p.getD j 0)
def Ds (lt:Nat->Nat->Bool)(p:Array Nat)(k:Nat):Prop:=∀i j,i<j->j<k->sl lt (p.getD j 0) (p.getD i 0)
theorem zfD_ (w:WOr lt){p:Array Nat}(hp:Pm p n):∀(f m:Nat),1<=m->m+f<=n->As lt p m->Rest p n m->okT lt n (kas_asc p f m) (λr=>m<=r/\r<=m+f/\As lt p r/\(r<m+f->lt (p.getD r 0) (p.getD (r-1) 0)=vm))
 |0,m,h1,hm,ha,hr=>⟨lC _,lC _,ha,λh=>absurd h (oY _)⟩
 |f+1,m,h1,hm,ha,hr=>by
  refine⟨zhp_ hp (by lia),zhp_ hp (by lia),?_⟩
  show okT lt n (if lt (p.getD m 0) (p.getD (m-1) 0)=vm then KasT.ret m else kas_asc p f (m+1)) _
  cases h:lt (p.getD m 0) (p.getD (m-1) 0)with
  |true=>rw[if_pos rfl];exact⟨lC _,by lia,ha,λ_=>h⟩
  |false=>
   rw[if_neg (by decide)]
   refine zaW_ (λr q=>⟨by lia,by lia,q.2.2.1,λz=>q.2.2.2 (by lia)⟩) _ (zfD_ w hp f (m+1) (by lia) (by lia) (λi j aO hj=>?_) (hr.mono (by lia)))
   by_cases e:j<m
   ·exact ha i j aO e
   ·obtain rfl:j=m:=by lia
    have l:=hr.below hp aO (by lia)
    refine⟨?_,.inr (by rw[hr j (lC _) (by lia)];exact l)⟩
    by_cases e2:i=j-1
    ·rw[e2];exact h
    ·exact w.tr (ha i (j-1) (by lia) (by lia)).1 h
structure Dwn (lt:Nat->Nat->Bool)(n:Nat)(p:Array Nat)(m q:Nat):Prop where
 pm:Pm p n
 hq:q+1<=m
 hm:m<=n
 rest:Rest p n m
 a:∀i j,i<j->j<m-(q+1)->sl lt (p.getD j 0) (p.getD i 0)
 b:∀i j,i<m-(q+1)->m-(q+1)<=j->j<m->lt (p.getD j 0) (p.getD i 0)=vm
 c:∀i j,m-(q+1)<=i->i<j->j<m->p.getD i 0<p.getD j 0
 d:∀i j,m-(q+1)<=i->i<m->m-(q+1)<=j->j<m->lt (p.getD i 0) (p.getD j 0)=vn
theorem Dwn.ds0 (w:WOr lt){p:Array Nat}{m:Nat}(d:Dwn lt n p m 0):Ds lt p m:=λi j aO hj=>by
 by_cases e:j<m-1
 ·exact d.a i j aO e
 ·exact w.sl (d.b i j (by lia) (by lia) hj)
theorem Dwn.ds (w:WOr lt){p:Array Nat}{m q:Nat}(d:Dwn lt n p m q):Ds lt (kas_rev p (m-(q+1)) m) m:=λi j aO hj=>by
 have hs:=zbm_ d.pm;have hq:=d.hq;have hm:=d.hm;rw[zb9_ (by lia),zb9_ (by lia)]
 by_cases a:m-(q+1)<=i
 ·rw[if_pos ⟨by lia,hj⟩,if_pos ⟨a,by lia⟩]
  exact⟨d.d _ _ (by lia) (by lia) (by lia) (by lia),.inr (d.c _ _ (by lia) (by lia) (by lia))⟩
 ·rw[if_neg (λz:m-(q+1)<=i/\_=>a z.1)]
  by_cases b:m-(q+1)<=j
  ·rw[if_pos ⟨b,hj⟩];exact w.sl (d.b _ _ (by lia) (by lia) (by lia))
  ·rw[if_neg (λz=>b z.1)];exact d.a _ _ aO (by lia)
theorem Dwn.next (w:WOr lt){p:Array Nat}{m:Nat}(hp:Pm p n)(hm:m+1<=n)(hr:Rest p n m)(h1:1<=m)(ds:Ds lt p m)(hl:∀i,i<m->lt (p.getD m 0) (p.getD i 0)=vm):Dwn lt n p (m+1) 0 where
 pm:=hp
 hq:=by lia
 hm:=hm
 rest:=hr.mono (by lia)
 a:=λi j aO hj=>ds i j aO (by lia)
 b:=λi j hi hj fS=>by
  obtain rfl:j=m:=by lia
  exact hl i (by lia)
 c:=λi j h1 h2 h3=>by lia
 d:=λi j h1 h2 h3 h4=>by
  obtain rfl:j=m:=by lia
  obtain rfl:i=j:=by lia
  exact w.refl _
theorem zcI_ (w:WOr lt):∀(f:Nat) (p:Array Nat) (m q:Nat),Dwn lt n p m q->m+f<=n->okT lt n (kas_desc f p m q) (λr=>Dwn lt n r.1 r.2.1 r.2.2)
 |0,p,m,q,d,hm=>d
 |f+1,p,m,q,d,hm=>by
  have hp:=d.pm;have hs:=zbm_ hp;have hq:=d.hq;have up:∀i,i<m->lt (p.getD (m-1) 0) (p.getD i 0)=vm\/(m-(q+1)<=i/\lt (p.getD (m-1) 0) (p.getD i 0)=vn/\lt (p.getD i 0) (p.getD (m-1) 0)=vn):=λi hi=>by
   by_cases e:m-(q+1)<=i
   ·exact .inr ⟨e,d.d _ _ (by lia) (by lia) e hi,d.d _ _ e hi (by lia) (by lia)⟩
   ·exact .inl (d.b _ _ (by lia) (by lia) (by lia))
  refine⟨zhp_ hp (by lia),zhp_ hp (by lia),?_⟩
  cases h:lt (p.getD m 0) (p.getD (m-1) 0)with
  |true=>
   dsimp only;rw[if_pos rfl];have hl:∀i,i<m->lt (p.getD m 0) (p.getD i 0)=vm:=λi hi=>by
    rcases up i hi with z |⟨_,z,z'⟩
    ·exact w.st h (w.asym z)
    ·exact w.st h z'
   by_cases hq0:q > 0
   ·rw[if_pos hq0]
    refine zcI_ w f _ (m+1) 0 (.next w (zgY_ hp _ _) (by lia) (d.rest.rev hp (lC _) (by lia)) (by lia) (d.ds w) λi hi=>?_) (by lia)
    rw[zb9_ (by lia),zb9_ (by lia),if_neg (by lia)]
    split
    ·exact hl _ (by lia)
    ·exact hl _ hi
   ·rw[if_neg hq0]
    obtain rfl:q=0:=by lia
    exact zcI_ w f p (m+1) 0 (.next w hp (by lia) d.rest (by lia) (d.ds0 w) hl) (by lia)
  |false=>
   dsimp only;rw[if_neg (by decide)]
   refine⟨zhp_ hp (by lia),zhp_ hp (by lia),?_⟩
   cases h2:lt (p.getD (m-1) 0) (p.getD m 0)with
   |true=>dsimp only;rw[if_pos rfl];exact d
   |false=>
    dsimp only;rw[if_neg (by decide)]
    have em:m+1-(q+1+1)=m-(q+1):=by lia
    refine zcI_ w f p (m+1) (q+1) ⟨hp,by lia,by lia,d.rest.mono (by lia),?_,?_,?_,?_⟩ (by lia)
    ·rw[em];exact d.a
    ·rw[em]
     intro i j hi hj fS;by_cases e:j<m
     ·exact d.b i j hi hj e
     ·obtain rfl:j=m:=by lia
      exact w.st' (d.b i (j-1) hi (by lia) (by lia)) h2
    ·rw[em]
     intro i j hi aO hj;by_cases e:j<m
     ·exact d.c i j hi aO e
     ·obtain rfl:j=m:=by lia
      rw[d.rest j (lC _) (by lia)]
      exact d.rest.below hp aO (by lia)
    ·rw[em]
     have al:∀i,m-(q+1)<=i->i<m+1->lt (p.getD i 0) (p.getD (m-1) 0)=vn/\lt (p.getD (m-1) 0) (p.getD i 0)=vn:=λi h1 aK=>by
      by_cases e:i<m
      ·exact⟨d.d _ _ h1 e (by lia) (by lia),d.d _ _ (by lia) (by lia) h1 e⟩
      ·obtain rfl:i=m:=by lia
       exact⟨h,h2⟩
     intro i j h1 h2 h3 h4;exact w.tr (al j h3 h4).2 (al i h1 h2).1
abbrev SGot (lt:Nat->Nat->Bool)(n:Nat)(r:Nat×Array Nat):Prop:=Pm r.2 n/\r.1<=n/\As lt r.2 r.1/\Rest r.2 n r.1
theorem zeL_ (w:WOr lt){p:Array Nat}{m:Nat}(hp:Pm p n)(h1:1<=m)(hm:m<=n)(hd:Ds lt p m)(hr:Rest p n m):okT lt n (kas_tail3 m n p) (SGot lt n):=by
 have hsz:=zbm_ hp;have dc:Rest (kas_rev p 0 m) n m:=hr.rev hp (lC _) hm;refine zby_ _ (zaW_ (λr q=>?_) _ (zfD_ w (zgY_ hp 0 m) (n-m) m h1 (by lia) (λi j aO hj=>?_) dc))
 ·exact⟨zgY_ hp 0 m,by show r<=n;lia,q.2.2.1,dc.mono q.1⟩
 ·rw[zb9_ (by lia),zb9_ (by lia),if_pos (by lia),if_pos (by lia)]
  exact hd _ _ (by lia) (by lia)
theorem zb3_ (w:WOr lt){p:Array Nat}{m:Nat}(d:Dwn lt n p (m+1) 0):okT lt n (kas_descPart m n p) (SGot lt n):=by
 have:=d.hm;refine zby_ _ (zaW_ (λr q=>?_) _ (zcI_ w (n-(m+1)) p (m+1) 0 d (by lia)))
 have h1:=q.hq;by_cases z:r.2.2 > 0
 ·rw[if_pos z]
  exact zeL_ w (zgY_ q.pm _ _) (by lia) q.hm (q.ds w) (q.rest.rev q.pm (lC _) q.hm)
 ·rw[if_neg z]
  obtain⟨p',m',q'⟩:=r;obtain rfl:q'=0:=by have:¬q' > 0:=z;lia
  exact zeL_ w q.pm (by have:0+1<=m':=h1;show 1<=m';lia) q.hm (q.ds0 w) q.rest
theorem zht_ (w:WOr lt){p:Array Nat}(hp:Pm p n)(hr:Rest p n 0)(hn:1<=n):okT lt n (kas_count n p) (SGot lt n):=by
 have hsz:=zbm_ hp;refine zby_ _ (zaW_ (λm q=>?_) _ (zfD_ w hp (n-1) 1 (lC _) (by lia) (λi j aO hj=>by lia) (hr.mono (by lia))))
 obtain⟨q1,q2,q3,q4⟩:=q;have dc:=hr.mono (mq m);by_cases e:m=n
 ·rw[if_pos (by simp[e])];exact⟨hp,by show m<=n;lia,q3,dc⟩
 ·rw [if_neg (by simp[e])]
  have hl:=q4 (by lia)
  by_cases z:m > 1
  ·rw[if_pos z]
   refine⟨zhp_ hp (by lia),zhp_ hp (by lia),?_⟩
   cases c:lt (p.getD 0 0) (p.getD (m-1) 0)with
   |true=>dsimp only;rw[if_pos rfl];exact⟨hp,by show m<=n;lia,q3,dc⟩
   |false=>
    dsimp only;rw[if_neg (by decide)]
    have eo:∀a b,a<=b->b<m->lt (p.getD b 0) (p.getD a 0)=vn:=λa b h1 h2=>by
     by_cases e:a=b
     ·rw[e];exact w.refl _
     ·exact(q3 a b (by lia) h2).1
    have bB:∀a b,a<m->b<m->lt (p.getD b 0) (p.getD a 0)=vn:=λa b ha hb=>w.tr (w.tr (eo a (m-1) (by lia) (by lia)) c) (eo 0 b (by lia) hb)
    refine zb3_ w (.next w (zgY_ hp 0 m) (by lia) (dc.rev hp (lC _) (by lia)) (by lia) (λi j aO hj=>?_) λi hi=>?_)
    ·rw[zb9_ (by lia),zb9_ (by lia),if_pos (by lia),if_pos (by lia)]
     refine⟨bB _ _ (by lia) (by lia),.inr ?_⟩
     rw[hr _ (mq _) (by lia),hr _ (mq _) (by lia)]
     lia
    ·rw[zb9_ (by lia),zb9_ (by lia),if_neg (by lia),if_pos (by lia)]
     exact w.st hl (bB _ _ (by lia) (by lia))
  ·rw[if_neg z]
   obtain rfl:m=1:=by lia
   refine zb3_ w (.next w hp (by lia) dc (by lia) (λi j aO hj=>by lia) λi hi=>?_)
   obtain rfl:i=0:=by lia
   exact hl
theorem zcv_ (w:WOr lt){p:Array Nat}{k:Nat}(hp:Pm p n)(hk:k<n)(ha:As lt p k):∀(f l r:Nat),l<=r->r<=k->r-l<=f->(∀i,i<l->lt (p.getD k 0) (p.getD i 0)=vn)->(∀i,r<=i->i<k->lt (p.getD k 0) (p.getD i 0)=vm) ->
  okT lt n (kas_place p k f l r) (λm=>m<=k/\(∀i,i<m->lt (p.getD k 0) (p.getD i 0)=vn)/\∀i,m<=i->i<k->lt (p.getD k 0) (p.getD i 0)=vm)
 |0,l,r,h1,h2,h3,h4,h5=>⟨by show l<=k;lia,h4,λi a b=>h5 i (by lia) b⟩
 |f+1,l,r,h1,h2,h3,h4,h5=>by
  have eo:∀a b,a<=b->b<k->lt (p.getD b 0) (p.getD a 0)=vn:=λa b h1 h2=>by
   by_cases e:a=b
   ·rw[e];exact w.refl _
   ·exact(ha a b (by lia) h2).1
  unfold kas_place;by_cases e:l ≥ r
  ·rw[if_pos e];exact⟨by show l<=k;lia,h4,λi a b=>h5 i (by lia) b⟩
  ·rw[if_neg e]
   refine⟨zhp_ hp hk,zhp_ hp (by lia),?_⟩
   cases c:lt (p.getD k 0) (p.getD ((l+r) / 2) 0)with
   |true=>
    dsimp only;rw[if_pos rfl];refine zcv_ w hp hk ha f l ((l+r) / 2) (by lia) (by lia) (by lia) h4 λi a b=>?_
    exact w.st c (eo _ _ a b)
   |false=>
    dsimp only;rw[if_neg (by decide)]
    refine zcv_ w hp hk ha f ((l+r) / 2+1) r (by lia) h2 (by lia) (λi hi=>?_) h5
    exact w.tr (eo i ((l+r) / 2) (by lia) (by lia)) c
theorem zjo_ (w:WOr lt):∀(f:Nat) (p:Array Nat) (k:Nat),Pm p n->k+f=n->As lt p k->Rest p n k->okT lt n (kas_bin f p k) (λr=>Pm r n/\As lt r n)
 |0,p,k,hp,hk,ha,hr=>⟨hp,(show k=n by lia) ▸ ha⟩
 |f+1,p,k,hp,hk,ha,hr=>by
  have hsz:=zbm_ hp;refine zby_ _ (zaW_ (λl q=>?_) _ (zcv_ w hp (by lia) ha k 0 k (by lia) (lC _) (by lia) (λi hi=>absurd hi (by lia)) λi a b=>absurd b (by lia)))
  obtain⟨q1,q2,q3⟩:=q;have hb:∀i,(bubble p k (k-l)).getD i 0=if i=l then p.getD k 0 else if l<i/\i<=k then p.getD (i-1) 0 else p.getD i 0:=λi=>by
   have:=getElem?_bubble (xs:=p) (src:=k) (by lia) (k-l) (by lia) i
   rw[show k-(k-l)=l by lia]at this
   split
   ·rename_i z;rw[if_pos z]at this;exact zaB_ this
   ·rename_i z
    rw[if_neg z]at this;split
    ·rename_i y;rw[if_pos y]at this;exact zaB_ this
    ·rename_i y;rw[if_neg y]at this;exact zaB_ this
  refine zjo_ w f _ (k+1) ((ql.mp (bubble_perm p k _)).trans hp) (by lia) (λi j aO hj=>?_) λi hi eU=>?_
  ·rw [hb,hb]
   by_cases e1:i=l
   ·rw[if_pos e1,if_neg (by lia),if_pos (by lia)];exact w.sl (q3 _ (by lia) (by lia))
   ·rw[if_neg e1]
    by_cases e2:j=l
    ·rw[if_pos e2,if_neg (by lia)]
     refine⟨q2 _ (by lia),.inr ?_⟩
     rw[hr k (lC _) (by lia)]
     exact hr.below hp (by lia) (by lia)
    ·rw[if_neg e2]
     by_cases e3:l<i
     ·rw[if_pos (by lia),if_pos (by lia)];exact ha _ _ (by lia) (by lia)
     ·rw[if_neg (by lia)]
      by_cases e4:l<j
      ·rw[if_pos (by lia)];exact ha _ _ (by lia) (by lia)
      ·rw[if_neg (by lia)];exact ha _ _ aO (by lia)
  ·rw[hb,if_neg (by lia),if_neg (by lia)];exact hr i (by lia) eU
theorem zkw_ (w:WOr lt)(hn:1<=n):okT lt n (kas_sort n) (λr=>Pm r n/\As lt r n):=by
 have h0:Pm (sy (mj n)) n:=by simp[Pm]
 have hr:Rest (sy (mj n)) n 0:=λi _ hi=>by simp[rY,hi]
 refine zby_ _ (zaW_ (λr q=>?_) _ (zht_ w h0 hr hn))
 obtain⟨q1,q2,q3,q4⟩:=q;by_cases e:r.1<n
 ·rw[if_pos e]
  refine zjo_ w _ _ _ q1 (by lia) ?_ (q4.mono (Nat.le_max_left _ _))
  by_cases e1:r.1=0
  ·rw[e1];exact λi j aO hj=>by lia
  ·rw[Nat.max_eq_left (by lia)];exact q3
 ·rw[if_neg e]
  obtain e:r.1=n:=by lia
  rw[e]at q3;exact⟨q1,q3⟩
end
def cxLam (X:Cx)(A:my)(qual:Str)(scope:Scope)(cl:List (Str×lE))(f:lE)(ae:aV)(N:List Str)(s2:lu)(H2:Hp):Cx where
 prog:=X.prog
 w:=X.w
 K:=X.K
 mg:=X.mg
 base:=X.base
 A:=A.deeper (W.envX qual scope s2.heap.objs.size f ae cl)
 N:=N
 s₀:=s2
 H₀:=H2
 env:=W.envX qual scope s2.heap.objs.size f ae cl
 outer:=X.stack
 stack:=W.envX qual scope s2.heap.objs.size f ae cl::X.stack
 ex:=[]
 fn:=λ_=>vn
 calm:=vm
 pn:=[]
 xe:=λ_ _=>False
structure LScope (X:Cx)(scope:Scope)(cl:List (Str×lE))(p:Str)(fr:List (Str×Nat)):Prop where
 clos:closeL X.env.cells scope.names []=vj cl
 cell:∀y∈scope.names,y.2≠.cell
 kind:scope.kind=.function
 co:scope.isCoroutine=vn
 gen:scope.isGenerator=vn
 loc:scope.names.lookup p=vj .local
 fr:∀q∈fr,X.N[q.2]?=vj q.1/\scope.names.lookup q.1=vj .free/\(X.env.kindOf q.1=vj .cell\/X.env.kindOf q.1=vj .free)
def lS (fr:List (Str×Nat))(σ:St):St:=fr.map λq=>(σ[q.2]?).join
section
variable {X:Cx}{pins:Pnn}{σ:St}{H:Hp}{s:lu}{A:my}{scope:Scope}{cl:List (Str×lE)}{p:Str}{fr:List (Str×Nat)}{qual name:Str}{f c':lE}{ae pm aD:aV}{params:Arguments}{body:lP}{x:V}{u:aV}{te:TE}
theorem zlM_ {h1:Heap}{tk:Nat}(I:Inv X pins σ H s)(S:LScope X scope cl p fr)(hA:A.frames=vj X.stack)(hh:A.handled=vk)(rx:RelV x u)
  (cR:h1.Ns s.heap.objs.size (λy=>[(p,u)].reverse.lookup y)) (hk:∀b o,s.heap.get? b=vj o->h1.get? b=vj o):
  Inv (cxLam X A qual scope cl f ae (p::fr.map (·.1)) s H) [] (vj x::lS fr σ) H {s with heap:=h1,toks:=tk}:=by
 have aT:=zai_ scope.names [] cl S.clos (λx c e=>by cases e)
 have aS:=z4_ scope.names [] cl S.clos;have cC:∀b:lE,b∉(cxLam X A qual scope cl f ae (p::fr.map (·.1)) s H).ex:=λb z=>absurd (show b∈([]:List lE)from z) (by simp)
 refine⟨⟨I.ok.mod,S.kind,rfl,rfl,lC _,λy z c h1 h2=>I.ok.inj y z c (aT y c h1) (aT z c h2),λy hy=>?_,λy c dw=>(by cases dw),λ_=>hh,Around.frames_deeper hA,.inr ⟨rfl,rfl⟩,λb z=>absurd z (cC b),I.bs,m5 I.ok.bsz I.sz,λb _ _=>cC b,λb z=>absurd z (cC b),I.stack,I.stkFree,I.tb⟩,
  rfl,I.bare,Un.kept hk,⟨_,cR,λi y v h1 h2 h3=>?_⟩,λy c e=>?_,I.hok.fresh (lC _),λy c e=>I.freeC y c (aT y c e),λp hp=>absurd (show p∈([]:Pnn)from hp) (by simp),I.hok.kept hk,?_⟩
 ·rcases(show scope.names.lookup y=vj .cell\/scope.names.lookup y=vj .free from hy)with z |z
  ·exact absurd rfl (S.cell _ (mF z))
  ·exact aS y (.inl (mF z))
 ·cases i with
  |zero=>
   have e1:p=y:=l9 h1;have e2:x=v:=l9 (l9 h2);subst e1 e2;exact⟨u,rx,.inl ⟨S.loc,by simp⟩⟩
  |succ i=>
   have h1':(fr.map (·.1))[i]?=vj y:=h1;have aK:(fr.map λq=>(σ[q.2]?).join)[i]?=vj (vj v):=h2
   rw[lK]at h1' aK;cases hq:fr[i]? with
   |none=>rw[hq]at h1';cases h1'
   |some q=>
    rw[hq]at h1' aK;have e1:q.1=y:=l9 h1';have e2:(σ[q.2]?).join=vj v:=l9 aK;have e3:σ[q.2]?=vj (vj v):=by
     cases hz:σ[q.2]? with
     |none=>rw[hz]at e2;cases e2
     |some z=>rw[hz]at e2;exact congrArg vj e2
    obtain⟨g1,g2,g3⟩:=S.fr q (m8 hq);obtain⟨m0,hn0,dt⟩:=I.loc;have f6:Vis X.env.scope q.1:=by
     rcases g3 with g3 |g3
     ·exact .inr (.inl g3)
     ·exact .inr (.inr g3)
    obtain⟨u,r,l⟩:=dt q.2 q.1 v g1 e3 f6;refine⟨u,r,.inr ⟨.inr (by rw[<- e1];exact g2),?_⟩⟩
    rcases l with⟨lk,_⟩|⟨_,c,ec,ic⟩
    ·rcases g3 with g3 |g3<;>(rw[lk]at g3;cases g3)
    ·obtain⟨c',ec'⟩:=aS q.1 (.inl (mF g2))
     have:c'=c:=by
      have:=aT q.1 c' ec';rw[ec]at this;exact(l9 this).symm
     subst this;obtain⟨o,ho,hd⟩:=ic;exact⟨c',by rw[<- e1];exact ec',o,hk _ _ ho,hd⟩
 ·obtain⟨v,o,ho,hd⟩:=I.cell y c (aT y c e)
  exact⟨v,o,hk _ _ ho,hd⟩
 ·show _=(p::fr.map (·.1)).length
  unfold lS;simp
def LEnd (X:Cx)(H:Hp)(s:lu)(Q:VK)(ku:aV)(s':lu):Prop:=∃k H',s'.os=s.os/\AllBare s'.gens/\Un (frs X.stack) [] H H' s.heap s'.heap/\HOk X.prog X.w H' s'.heap/\RelV k ku/\Q k H'
theorem zjV_ {Q:VK}(I:Inv X pins σ H s)(S:LScope X scope cl p fr)(hA:A.frames=vj X.stack)(hh:A.handled=vk)(aG:A.depth<recursionLimit)
  {o:tT}(ho:s.heap.get? f=vj o) (df:o.data=.func (qo name qual params body scope cl pm (.ref c') aD)) (aC:s.heap.CodeRec (.ref c') qual)
  (hb:bindArgs (qo name qual params body scope cl pm (.ref c') aD) ⟨[u],[]⟩=pure [(p,u)]) (rx:RelV x u)
  (he:∀f ae s2 H2,PE (cxLam X A qual scope cl f ae (p::fr.map (·.1)) s2 H2) body te) (q:te (vj x::lS fr σ) H Q):
  lX (model X.prog X.w) A (call (.ref f) [u]) (LEnd X H s Q) (λ_ _=>False) s:=by
 refine wpAny_call (W.kla_callFunE aG ho df S.co S.gen rfl aC ?_);rw[hb];refine lM (wpAny_newFunctionEnv S.cell (λy hy=>?_) (λaz cR jE=>?_) S.kind)
 ·have e:y=(p,u):=by simpa using hy
  subst e;exact S.loc
 ·have hk:∀b o,s.heap.get? b=vj o->az.get? b=vj o:=λb o e=>jE.extBut b o (l0 (lH e)) (lp _ e)
  refine⟨I.nolimit.keeps hk,W.kla_codeExpr ?_⟩;have J:Inv (cxLam X A qual scope cl f (.ref c') (p::fr.map (·.1)) s H) [] (vj x::lS fr σ) H {s with heap:=az,toks:=s.toks+[(p,u)].length}:=zlM_ I S hA hh rx cR hk;exact m4 (he f (.ref c') s H [] _ _ H Q J q) (λv s' ⟨k,H',J',r,q'⟩=>⟨k,H',J'.os,J'.bare,J'.base,J'.hok,r,q'⟩) λ_ _ z=>z.elim
end
def KeysAt (K:Fgg)(H:Hp):List V->List (List Int)->Prop:=Paired λk ns=>∃a,k=.ref a/\SqL K H a (ns.map V.int)
abbrev ltKs (aj:List (List Int))(i j:Nat):Bool:=HT.lexLt (aj.getD i []) (aj.getD j [])
def SrtS (lt:Nat->Nat->Bool)(n:Nat)(p:List Nat):Prop:=p.Perm (mj n)/\p.Pairwise (sl lt)
def mSrt (K:Fgg)(xs:List V)(b:V)(H:Hp)(Q:VK):Prop:=
 ∃kS ks aj,b=.ref kS/\H kS=vj (.lst ks)/\ks.length=xs.length/\KeysAt K H ks aj /\
  ∀idx,SrtS (ltKs aj) xs.length idx->∀l,H l=vk->Q (.ref l) (upd (upd H kS (.lst [])) l (.lst (idx.map λi=>xs.getD i .non)))
def LamUp (H H2:Hp):Prop:=H2=H\/∃c o,H c=vk/\H2=upd H c o
def tSrt (K:Fgg)(fr:List (Str×Nat))(i:Nat)(te:TE):TE:=λσ H Q=>∃p xs,σ[i]?=vj (vj (.ref p))/\SqL K H p xs/\xs.length<64 /\
 ∀H2,LamUp H H2->tCompR (Itp xs.length λj=>xs.getD j .non) (gName 0) tTrue te (vk::lS fr σ) H2 λb H3=>mSrt K xs b H3 Q
theorem zfy_:∀{a b:List Int},HT.lexLt a b=vm->HT.lexLt b a=vn
 |[],[],h=>by cases h
 |[],_::_,_=>rfl
 |_::_,[],h=>by cases h
 |x::a,y::b,h=>by
  rw[HT.lexLt_cons]at h ⊢;by_cases e:x=y
  ·rw[if_pos e]at h;rw[if_pos e.symm];exact zfy_ h
  ·rw[if_neg e]at h;rw[if_neg (pN e)]
   have:=of_decide_eq_true h;exact decide_eq_false (by lia)
theorem zmn_:∀{a b c:List Int},HT.lexLt b a=vn->HT.lexLt c b=vn->HT.lexLt c a=vn
 |[],_,[],_,_=>rfl
 |[],_,_::_,_,_=>rfl
 |_::_,[],_,h,_=>by cases h
 |_::_,_::_,[],_,g=>by cases g
 |x::a,y::b,z::c,h,g=>by
  rw[HT.lexLt_cons]at h g ⊢;by_cases e:y=x
  ·rw[if_pos e]at h
   by_cases e2:z=y
   ·rw[if_pos e2]at g;rw[if_pos (e2.trans e)];exact zmn_ h g
   ·rw[if_neg e2]at g;rw[if_neg (λz'=>e2 (z'.trans e.symm))];rw[<- e];exact g
  ·rw[if_neg e]at h
   have h':=of_decide_eq_false h;by_cases e2:z=y
   ·rw[if_neg (λz'=>e (e2.symm.trans z'))];rw[e2];exact h
   ·rw[if_neg e2]at g
    have g':=of_decide_eq_false g;rw[if_neg (by lia)];exact decide_eq_false (by lia)
theorem zfp_ (aj:List (List Int)):WOr (ltKs aj):=⟨λh=>zfy_ h,λh g=>zmn_ h g⟩
def cdB (K:Fgg)(c P:lE):Bool:=match K.lookup c with
 |some ⟨.type T,_,.fields vs,_⟩=>T=="code" && vs[11]?==vj (.ref P) && (match vs.getD 18 .none,vs.getD 7 .none,vs.getD 9 .none,vs.getD 10 .none with |.str _ _,.int _ _,.bool _,.int _ _=>vm |_,_,_,_=>vn) && c != P
 |_=>vn
theorem cd_hd {K:Fgg}{h:Heap}{c P:lE}(X:K.In h)(e:cdB K c P=vm):CodeHd h c P:=by
 unfold cdB at e;split at e
 ·rename_i T od vs sl lk
  simp only[lj]at e;obtain⟨⟨⟨e1,e2⟩,e3⟩,e4⟩:=e;have e2:vs[11]?=vj (.ref P):=eq_of_beq e2;split at e3
  ·rename_i z1 z2 z3 z4
   exact⟨_,vs,_,_,_,_,_,_,_,X _ _ lk,by rw[eq_of_beq e1],rfl,e2,by rw[m6,e2];rfl,z1,z2,z3,z4,bne_iff_ne.mp e4⟩
  ·cases e3
 ·cases e
section
variable {X:Cx}{pins:Pnn}{σ:St}{H:Hp}{s:lu}{scope:Scope}{cl:List (Str×lE)}{p:Str}{fr:List (Str×Nat)}{qual name:Str}{f c':lE}{ae pm aD:aV}{params:Arguments}{body:lP}{x:V}{u:aV}{te:TE}{xs:List V}
theorem zgT_ {K:Fgg}:∀{ks:List V}{aj:List (List Int)},KeysAt K H ks aj->∀i,i<ks.length->∃a,ks.getD i .non=.ref a/\SqL K H a ((aj.getD i []).map V.int)
 |_,_,.nil,i,h=>by simp at h
 |_,_,.cons q_ r,0,h=>by obtain⟨a,e,q⟩:=q_;exact⟨a,e,q⟩
 |_,_,.cons _ r,i+1,h=>zgT_ r i (by simpa using h)
theorem zoh_ {A:my}{E:aV->lu->Prop}{l b:lE}{items ai:Array aV}{ns ms:List Int}{Q:Bool->lu->Prop}(hl:s.heap.IsList l items)(hb:s.heap.IsList b ai)(hi:IntsAre items.toList ns)(hj:IntsAre ai.toList ms)
  (hu:A.units<cLine) (h:Q (HT.lexLt ns ms) s):lX (model X.prog X.w) A (oneLt' vm (.ref l) (.ref b)) Q E s:=by
 obtain⟨⟨cls,dd,data,sl⟩,ho,hc,n,hd⟩:=id hl;obtain⟨⟨ia,cK,data2,cA⟩,bG,bI,n2,hd2⟩:=id hb;simp only at hc hd bI hd2;subst hc hd bI hd2;rw[oneLt'_eq];simp only[if_true];refine ll (wpAny_cRoomFor hu ?_);refine ll (wpAny_callSpecialIfBound?_slot ⟨_,ho,rfl⟩ rG (call_meets rG ⟨_,ho,rfl⟩ PySem.F.entry_list_lt (PySem.F.args_list_lt_2 _ _) (zd2_ l b items ai n n2 dd cK sl cA ns ms hi hj) ⟨ho,bG,?_⟩));exact mr h
theorem Un.lay {fs ex:List lE}{H H1:Hp}{h h1 h2:Heap}{a:lE}{o:HO}(u:Un fs ex H H1 h h1)(ha:h.objs.size<=a)(hn:H a=vk)(k:∀b o,b≠a->h1.get? b=vj o->h2.get? b=vj o):Un fs ex H (upd H1 a o) h h2 where
 keep:=λb ob q n hb hx=>k b ob (l0 (lY (lH q) ha)) (u.keep b ob q n hb hx)
 slot:=λb ob q n hb hx=>let⟨sl,e⟩:=u.slot b ob q n hb hx;⟨sl,k b _ (l0 (lY (lH q) ha)) e⟩
 free:=λb ob q n hx=>by rw[zd_ (l0 (lY (lH q) ha))];exact u.free b ob q n hx
 there:=λb ob q hx=>let⟨o',e⟩:=u.there b ob q hx;⟨o',k b _ (l0 (lY (lH q) ha)) e⟩
 tups:=λb xs q=>by rw[zd_ (ze_ q hn)];exact u.tups b xs q
 frzs:=λb ob v q=>by rw[zd_ (ze_ q hn)];exact u.frzs b ob v q
 tbls:=λb p' q' q=>by rw[zd_ (ze_ q hn)];exact u.tbls b p' q' q
theorem HOk.lay {P:l5}{w:mx}{H:Hp}{h h':Heap}{a:lE}{o:HO}(x:HOk P w H h)(hn:H a=vk)(k:∀b u,b≠a->h.get? b=vj u->h'.get? b=vj u)(new:ObjOk P w (upd H a o) h' a o):HOk P w (upd H a o) h':=λb u e=>by
 by_cases hb:b=a
 ·subst hb;rw[zh_]at e;cases e;exact new
 ·rw[zd_ hb]at e
  refine(x b u e).stay (λc v hc q=>k c v ?_ q) (λc q=>by rw[zd_ (ze_ q hn)];exact q) (λc xs q=>by rw[zd_ (ze_ q hn)];exact q) λc ob q=>by rw[zd_ (ze_ q hn)];exact q
  rcases hc with rfl |hc
  ·exact hb
  ·exact ze_ hc hn
theorem zme_ {lt:Nat->Nat->Bool}{n:Nat}{p:Array Nat}(h:Pm p n/\As lt p n):SrtS lt n p.toList:=by
 refine⟨h.1,qr.mpr λi j hi hj aO=>?_⟩
 have hs:=zbm_ h.1;rw[mQ]at hi hj;have:=h.2 i j aO (by lia)
 have e:∀k (hk:k<p.size),p.getD k 0=p.toList[k]'(by simpa using hk):=λk hk=>by simp[rY,hk]
 rwa[e i hi,e j hj]at this
theorem zfw_ {Q:VK}{o oc:tT}{P D:lE}{bc:Array aV}{ct:Tok}{vs:List aV}{hA:Heap}{E:aV->lu->Prop}(I:Inv X pins σ H s)(S:LScope X scope cl p fr)(hh:X.A.handled=vk)(aG:X.A.depth<recursionLimit)(hu:X.A.units+10<cLine)
  (ho:s.heap.get? f=vj o) (df:o.data=.func (tQ name qual params body scope cl pm (.ref c') aD)) (hf:H f=vk) (aI:H c'=vj (.frz oc (.own P))) (aC:oc.data=.fields bc) (cU:bc[1]?=vj (.str qual ct))
  (hb:∀u,bindArgs (tQ name qual params body scope cl pm (.ref c') aD) ⟨[u],[]⟩=pure [(p,u)])
  (he:∀f ae s2 H2,PE (cxLam X X.A.in1.in1 qual scope cl f ae (p::fr.map (·.1)) s2 H2) body te)
  (rv:Vals xs vs) (dA:xs.length<64) (eB:∀b o,s.heap.get? b=vj o->hA.get? b=vj o) (hD:hA.get? D=vj (seqObj "list" vs.toArray 0)) (fU:s.heap.objs.size<=D)
  (q:tCompR (Itp xs.length λj=>xs.getD j .non) (gName 0) tTrue te (vk::lS fr σ) H λb H3=>mSrt X.K xs b H3 Q):
  lX (model X.prog X.w) X.A.in1.in1 (ksk_tree D (.ref f) vn) (λfin s'=>fin=.done (.ret .none)/\∃H',Inv X pins σ H' s'/\Q (.ref D) H') E {s with heap:=hA}:=by
 have hlen:=rv.length;have k_:s.heap.objs.size<=hA.objs.size:=m5 fU (oE (lH hD));have s1:=pM hA D (l8 λ_=>(#[]:Array aV))
 obtain⟨e1,ho1⟩:∃e1,(hA.update D (l8 λ_=>(#[]:Array aV))).get? D=vj (seqObj "list" #[] e1):=⟨_,get?_update_seq hD λ_=>#[]⟩
 have nD:∀b o,s.heap.get? b=vj o->b≠D:=λb o e=>l0 (lY (lH e) fU)
 unfold ksk_tree;refine ll (listItems_at hD rfl ?_);refine ll (listUpdate_at hD rfl ?_ (by rw[lD,sizeLine_eq];lia) (mq _))
 refine ll (seqEpoch_at (s:={s with heap:=hA.update D (l8 λ_=>(#[]:Array aV))}) ho1 rfl ?_)
 refine ll (wpAny_newTuple ?_ (by show vs.length<=_;rw[sizeLine_eq];lia))
 refine ll (wpAny_newList ?_ (mq _));refine wpAny_holding ?_;have dR:((hA.update D (l8 λ_=>(#[]:Array aV))).push (seqObj "tuple" vs.toArray 0)).objs.size=hA.objs.size+1:=by rw[size_push',sX]
 show lX (model X.prog X.w) X.A.in1.in1 (ksk_rest D (.ref f) vn vs.toArray e1 (.ref ((hA.update D (l8 λ_=>(#[]:Array aV))).push (seqObj "tuple" vs.toArray 0)).objs.size)) _ E {s with heap:=((hA.update D (l8 λ_=>(#[]:Array aV))).push (seqObj "tuple" vs.toArray 0)).push (seqObj "list" #[] 0)}
 have bq:(((hA.update D (l8 λ_=>(#[]:Array aV))).push (seqObj "tuple" vs.toArray 0)).push (seqObj "list" #[] 0)).get? ((hA.update D (l8 λ_=>(#[]:Array aV))).push (seqObj "tuple" vs.toArray 0)).objs.size=vj (seqObj "list" #[] 0):=lN _ rfl
 have bo:∀b o,s.heap.get? b=vj o->(((hA.update D (l8 λ_=>(#[]:Array aV))).push (seqObj "tuple" vs.toArray 0)).push (seqObj "list" #[] 0)).get? b=vj o:=λb o e=>lp _ (lp _ ((s1.2 b (nD b o e)).trans (eB b o e)))
 have fk:(((hA.update D (l8 λ_=>(#[]:Array aV))).push (seqObj "tuple" vs.toArray 0)).push (seqObj "list" #[] 0)).get? D=vj (seqObj "list" #[] e1):=lp _ (lp _ ho1)
 rw[dR]at bq ⊢
 generalize k8:((hA.update D (l8 λ_=>(#[]:Array aV))).push (seqObj "tuple" vs.toArray 0)).push (seqObj "list" #[] 0)=h2 at bq bo fk ⊢
 have fW:D≠hA.objs.size+1:=l0 (pj (lH hD));have eM:s.heap.objs.size<=hA.objs.size+1:=by lia
 generalize hA.objs.size+1=kS at bq fW eM ⊢
 have fQ:H kS=vk:=I.hok.fresh eM;have fV:H D=vk:=I.hok.fresh fU;have I2:Inv X pins σ (upd H kS (.lst [])) {s with heap:=h2}:=I.laid (t':=s.toks) bo eM ⟨mq _,[],0,.nil,bq⟩;obtain⟨W,⟨m0,w0⟩,turn⟩:=q kS fQ;have i_:f≠kS:=l0 (lY (lH ho) eM);have bG:h2.get? f=vj o:=bo _ _ ho;have jU:upd H kS (.lst []) f=vk:=by rw[zd_ i_];exact hf
 have bI:upd H kS (.lst []) c'=vj (.frz oc (.own P)):=by rw[zd_ (ze_ aI fQ)];exact aI
 have fj:upd H kS (.lst []) D=vk:=by rw[zd_ fW];exact fV
 have j_:D∉frs X.stack:=λz=>by
  have:=(I.stack.mem z);obtain⟨_,o',e',_⟩:=this;exact nD _ _ e' rfl
 unfold ksk_rest;refine ll (wpAny_rule ?_)
 first
  |rw[List.forIn_toArray]
  |(rw[<- Array.forIn_toList];simp only[List.toList_toArray])
 refine ll (ksk_fold (λj s'=>∃H' ys m τ,s'.os=s.os/\AllBare s'.gens/\Un (frs X.stack) [] (upd H kS (.lst [])) H' h2 s'.heap/\HOk X.prog X.w H' s'.heap/\W j m ys (τ::lS fr σ) H') vs 0 {s with heap:=h2}
  ⟨_,[],m0,vk,rfl,I2.bare,Un.refl,I2.hok,w0⟩ ?step ?done)
 case step=>
  rintro j v s' hx ⟨H',ys,m,τ,os,bare,un,hok,w1⟩;simp only[rf]at w1 ⊢;have hj:j<vs.length:=(lO.mp hx).1;have J:Inv X pins σ H' s':=I2.call' (s':=s') os un hok bare (λb z=>absurd z (by simp))
  rcases turn j m ys _ H' w1 with⟨st,_⟩|⟨go,N,hN,step⟩
  ·exact absurd (show xs.length<=j from st) (by lia)
  ·obtain⟨xv,ev,rx⟩:∃xv,xs.getD j .non=xv/\RelV xv v:=by
    have fS:j<xs.length:=by lia
    obtain⟨u,e1,e2⟩:=rv.get (lA fS);rw[hx]at e1;cases e1;exact⟨_,rfl,by rw[lZ,lA fS];exact e2⟩
   have dY:=step xv H' ⟨rfl,ev.symm⟩;have q1:te (vj xv::lS fr σ) H' λk H4=>H4 kS=vj (.lst ys)/\ys.length<lL/\N (ys++[k]) (vj xv::lS fr σ) (upd H4 kS (.lst (ys++[k]))):=by
    have z:=dY;simp only[gName,tTrue,oq,if_true]at z;exact z
   obtain⟨sl,aH⟩:=un.any bG jU (by simp)
   have jY:s'.heap.CodeRec (.ref c') qual:=by
    obtain⟨e',_⟩:=hok c' _ (un.frzs _ _ _ bI);exact⟨c',oc,bc,ct,rfl,e',aC,cU⟩
   refine ll (wpAny_attempt (m4 (zjV_ (A:=X.A.in1.in1) J S J.ok.frames hh aG aH df jY (hb v) rx he q1) (λku s4 jV=>?_) λ_ _ hF=>hF.elim))
   obtain⟨k,H4,os4,bare4,un4,hok4,rk,hk4,hl4,n4⟩:=jV;dsimp only;obtain⟨z,aa,n,ri,ek⟩:=hok4 kS _ hk4;have sb:=pM s4.heap kS (l8 (·.push ku));obtain⟨c2,hc2'⟩:∃c2,(s4.heap.update kS (l8 (·.push ku))).get? kS=vj (seqObj "list" (aa.toArray.push ku) c2):=⟨_,get?_update_seq (c:="list") ek (·.push ku)⟩;have kp:∀b u,b≠kS->s4.heap.get? b=vj u->(s4.heap.update kS (l8 (·.push ku))).get? b=vj u:=λb u hb e=>(sb.2 b hb).trans e
   have hil:aa.toArray.size=ys.length:=by rw[lD,ri.length]
   refine ll (listUpdate_at ek rfl ?_ (by rw[hil];lia) (by show(aa.toArray.push ku).size<=_;rw[Array.size_push,hil];lia))
   obtain⟨m',hm',w'⟩:=hN _ _ _ n4;have mu:Mut (H4 kS):=by rw[hk4];exact m7
   refine lM ⟨rfl,_,_,m',vj xv,os4.trans os,bare4,un.trans (un4.trans (Un.write mu (.inl rfl) kp ⟨_,hc2'⟩)),?_,w'⟩;refine hok4.write mu (.inl rfl) kp ⟨_,hc2'⟩ ⟨by rw[lF,pV];lia,aa++[ku],c2,ri.append (.cons rk .nil),?_⟩
   rw[hc2'];simp
 case done=>
  rintro s' ⟨H',ys,m,τ,os,bare,un,hok,w1⟩;rw[rf]at w1;rcases turn _ m ys _ H' w1 with⟨_,kS',ks,aj,ekS,hk,iM,hka,fin⟩|⟨go,_⟩
  rotate_left
  ·exact absurd (show vs.length<xs.length from go) (by lia)
  cases ekS;obtain⟨z,aa,n,ri,ek⟩:=hok kS _ hk;have hil:aa.length=vs.length:=by rw[<- ri.length];lia
  have dz:s'.heap.get? D=vj (seqObj "list" #[] e1):=un.keep _ _ fk fj j_ (by simp)
  refine ll (listItems_at ek rfl ?_)
  have tl:∀(st:SortSt) (idx:List Nat),(arrOf st).map (·.2)=(idx.map λi=>vs.getD i nz).toArray->failedOf st=vk->SrtS (ltKs aj) xs.length idx ->
    lX (model X.prog X.w) X.A.in1.in1 (ksk_tail D vn e1 (.ref kS) st) (λfin s'=>fin=.done (.ret .none)/\∃H',Inv X pins σ H' s'/\Q (.ref D) H') E s':=by
   intro st idx gX jT bA;have dS:∀j∈idx,j<xs.length:=λj hj=>mV.mp (bA.1.mem_iff.mp hj)
   have iH:idx.length=xs.length:=by rw[bA.1.length_eq,mM]
   have sk:=pM s'.heap kS (l8 λ_=>(#[]:Array aV))
   obtain⟨c2,fR⟩:∃c2,(s'.heap.update kS (l8 λ_=>(#[]:Array aV))).get? kS=vj (seqObj "list" #[] c2):=⟨_,get?_update_seq (c:="list") ek λ_=>#[]⟩
   have dU:(s'.heap.update kS (l8 λ_=>(#[]:Array aV))).get? D=vj (seqObj "list" #[] e1):=(sk.2 D fW).trans dz
   unfold ksk_tail;dsimp only;rw[gX,jT];refine ll (listUpdate_at ek rfl ?_ (by rw[lD,hil,sizeLine_eq];lia) (mq _))
   refine ll (wpAny_letGo ?_);refine ll (seqEpoch_at (s:={s' with heap:=s'.heap.update kS (l8 λ_=>(#[]:Array aV))}) dU rfl ?_)
   refine ll (listUpdate_at (s:={s' with heap:=s'.heap.update kS (l8 λ_=>(#[]:Array aV))}) dU rfl ?_ (mq _) (by
    simp only[qp,if_false,lD,lq];rw[iH,sizeLine_eq];lia))
   simp only[bne_self_eq_false,qp,if_false];have sd:=pM (s'.heap.update kS (l8 λ_=>(#[]:Array aV))) D (l8 λ_=>(idx.map λi=>vs.getD i nz).toArray)
   obtain⟨c3,hd2⟩:∃c3,((s'.heap.update kS (l8 λ_=>(#[]:Array aV))).update D (l8 λ_=>(idx.map λi=>vs.getD i nz).toArray)).get? D=vj (seqObj "list" (idx.map λi=>vs.getD i nz).toArray c3):=⟨_,get?_update_seq dU λ_=>(idx.map λi=>vs.getD i nz).toArray⟩
   have mu:Mut (H' kS):=by rw[hk];exact m7
   have k1:∀b u,b≠kS->s'.heap.get? b=vj u->(s'.heap.update kS (l8 λ_=>(#[]:Array aV))).get? b=vj u:=λb u hb e=>(sk.2 b hb).trans e
   have k2:∀b u,b≠D->(s'.heap.update kS (l8 λ_=>(#[]:Array aV))).get? b=vj u->((s'.heap.update kS (l8 λ_=>(#[]:Array aV))).update D (l8 λ_=>(idx.map λi=>vs.getD i nz).toArray)).get? b=vj u:=λb u hb e=>(sd.2 b hb).trans e
   have fh:H' D=vk:=un.free _ _ fk fj (by simp)
   have u1:Un (frs X.stack) [] H (upd H' kS (.lst [])) s.heap (s'.heap.update kS (l8 λ_=>(#[]:Array aV))):=(Un.laid bo eM fQ).trans (un.trans (Un.write mu (.inl rfl) k1 ⟨_,fR⟩))
   have o1:HOk X.prog X.w (upd H' kS (.lst [])) (s'.heap.update kS (l8 λ_=>(#[]:Array aV))):=hok.write mu (.inl rfl) k1 ⟨_,fR⟩ ⟨mq _,[],c2,.nil,fR⟩
   have o2:=o1.lay (a:=D) (o:=.lst (idx.map λi=>xs.getD i .non)) (by rw[zd_ fW];exact fh) k2 ⟨by rw[lq,iH,sizeLine_eq];lia,_,c3,zgW_ rv idx (λj hj=>by rw[<- hlen];exact dS j hj),hd2⟩
   exact lM ⟨rfl,_,I.call' (s':={s' with heap:=(s'.heap.update kS (l8 λ_=>(#[]:Array aV))).update D (l8 λ_=>(idx.map λi=>vs.getD i nz).toArray)}) os (u1.lay fU fV k2) o2 bare (λb z=>absurd z (by simp)),fin idx bA D fh⟩
  have J:Inv X pins σ H' s':=I2.call' (s':=s') os un hok bare (λb z=>absurd z (by simp))
  have bR:∀i,i<vs.length->∃a bS,aa.getD i nz=.ref a/\IntsAre (sy bS).toList (aj.getD i [])/\PlainL s'.heap a bS.toArray:=λi hi=>by
   obtain⟨a,e,sq⟩:=zgT_ hka i (by lia)
   obtain⟨bS,rK,pK,_⟩:=J.list sq;obtain⟨y,ey,ry,_⟩:=zeQ_ ri (show i<aa.length by lia)
   rw[lZ,ey]at e;cases e;exact⟨a,bS,ry,zgO_ rK,pK⟩
  unfold ksk_end;simp only[qp,if_false];by_cases aK:vs.toArray.size<2
  ·rw[if_pos aK,if_pos aK]
   refine ll (lM ?_);rw[StateT.run_pure];refine ll (lM ?_);rw[lD]at aK;refine tl _ (mj vs.length) ?_ rfl ⟨by rw[hlen],?_⟩
   ·apply Array.toList_inj.mp
    show((aa.toArray.zip vs.toArray).map (·.2)).toList=(mj vs.length).map λi=>vs.getD i nz
    rw[Array.toList_map,Array.toList_zip];show(aa.zip vs).map (·.2)=_
    rw[qL (by lia)]
    apply qy;intro i;by_cases hi:i<vs.length
    ·simp[hi]
    ·simp[pf,hi,pZ hi]
   ·rcases(show vs.length=0\/vs.length=1 by lia)with e |e
    ·rw[e];exact .nil
    ·rw[e];exact List.pairwise_singleton _ _
  ·rw[if_neg aK,if_neg aK]
   rw[lD]at aK;refine ll (kas_kind (vs:=aa) (T:=.type "list") (by lia) (λv hv=>?_) rfl rfl ?_)
   ·obtain⟨i,hi,rfl⟩:=qh hv
    obtain⟨a,bS,e,_,pK⟩:=bR i (by lia)
    rw[lZ,lA hi]at e;have e:aa[i]=.ref a:=e;rw[e];obtain⟨o',hoK,hcK,_⟩:=pK.isList;exact hcK ▸ (Looks.ld hoK).andThen .now
   ·refine ll (m4 (kat_run (ks:=aa) (vs:=vs) (Q:=λst' cB=>cB=s'/\∃p:Array Nat,p.size=vs.length/\arrOf st'=p.map (kas_item (aa.toArray.zip vs.toArray))/\failedOf st'=vk/\(Pm p vs.length/\As (ltKs aj) p vs.length)) (G:=λp cB=>cB=s'/\(Pm p vs.length/\As (ltKs aj) p vs.length))
     hil (by lia) (by lia) (λp' st' cB a1 a2 a3 a4=>⟨a4.1,p',a1,a2,a3,a4.2⟩) (zno_ (P:=λr=>Pm r vs.length/\As (ltKs aj) r vs.length) (λi j C hi hj hC=>?_) (λp hp=>⟨rfl,hp⟩) _ (zkw_ (zfp_ aj) (by lia)))) ?_ λ_ _ e=>e)
    ·obtain⟨a,k1,ea,i1,p1⟩:=bR i hi
     obtain⟨b,k2,eb,i2,p2⟩:=bR j hj;unfold kas_ask;rw[keyLt'_oneType,ea,eb];exact zoh_ (X:=X) p1.isList p2.isList i1 i2 (by show X.A.units+1+1<_;lia) hC
    ·rintro⟨⟨⟩,st'⟩ cB ⟨rfl,p,hp,gX,hf',hpp⟩
     exact tl st' p.toList (kat_snds hil gX) hf' (by rw[hlen];exact zme_ hpp)
theorem zgI_ {Q:VK}{o oc:tT}{P l:lE}{bc:Array aV}{ct:Tok}(I:Inv X pins σ H s)(S:LScope X scope cl p fr)(hh:X.A.handled=vk)(aG:X.A.depth<recursionLimit)(hu:X.A.units+10<cLine)
  (ho:s.heap.get? f=vj o) (df:o.data=.func (qo name qual params body scope cl pm (.ref c') aD)) (hf:H f=vk) (aI:H c'=vj (.frz oc (.own P))) (aC:oc.data=.fields bc) (cU:bc[1]?=vj (.str qual ct))
  (hb:∀u,bindArgs (qo name qual params body scope cl pm (.ref c') aD) ⟨[u],[]⟩=pure [(p,u)])
  (he:∀f ae s2 H2,PE (cxLam X X.A.in1.in1 qual scope cl f ae (p::fr.map (·.1)) s2 H2) body te)
  (hl:SqL X.K H l xs) (dA:xs.length<64)
  (q:tCompR (Itp xs.length λj=>xs.getD j .non) (gName 0) tTrue te (vk::lS fr σ) H λb H3=>mSrt X.K xs b H3 Q):
  lX (model X.prog X.w) X.A (call (.builtin "sorted") [.ref l] [(oG "key",.ref f)]) (EP X pins σ Q) X.xe s:=by
 obtain⟨vs,rv,pl,hz⟩:=I.list hl;have hlen:=rv.length;refine call_function_entry_kw kind_sorted plain_sorted entry_sorted (ksk_s1 _ _) ?_;unfold qw.«sorted»;refine ll (m:=checkCount "sorted" 1 1 _) (lM ?_);refine ll (collect_list pl.isList ?_ (by rw[sizeLine_eq];lia))
 refine ll (wpAny_newList ?_ (by rw[sizeLine_eq];lia))
 have hsz:((s.heap.push (seqObj "list" #[] 0)).update s.heap.objs.size (l8 (·++vs.toArray))).objs.size=s.heap.objs.size+1:=by
  rw[sX,size_push']
 have cQ:(((s.heap.push (seqObj "list" #[] 0)).update s.heap.objs.size (l8 (·++vs.toArray))).push (seqObj "list" vs.toArray 0)).get? (s.heap.objs.size+1)=vj (seqObj "list" vs.toArray 0):=by
  rw[<- hsz];exact lN _ rfl
 have keep:∀b o,s.heap.get? b=vj o->(((s.heap.push (seqObj "list" #[] 0)).update s.heap.objs.size (l8 (·++vs.toArray))).push (seqObj "list" vs.toArray 0)).get? b=vj o:=λb o q=>by
  have aB:b<s.heap.objs.size:=lH q;rw[sD _ _ _ (by rw[hsz];exact l0 (pj aB)),Heap.get?_update_ne _ _ _ _ (l0 aB),sD _ _ _ (l0 aB)]
  exact q
 show lX _ _ _ _ _ {s with heap:=((s.heap.push (seqObj "list" #[] 0)).update s.heap.objs.size (l8 (·++vs.toArray))).push (seqObj "list" vs.toArray 0)}
 rw[hsz];refine ll (wpAny_holding (wpAny_call_entry_kw slot_list_sort ⟨_,cQ,rfl⟩ entry_list_sort ?body (ksk_l1 _ _)))
 case body=>
  show lX (model X.prog X.w) X.A.in1.in1 (qw.«list.sort» ⟨[.ref (s.heap.objs.size+1)],[(oG "key",.ref f)]⟩) _ _ _
  rw[ksk_t1];refine m4 (zfw_ I S hh aG hu ho df hf aI aC cU hb he rv dA keep cQ (oF _) q) (λfin s' ⟨e,H',I',q'⟩=>⟨_,e,?_⟩) λ_ _ z=>z
  exact lM ⟨_,rfl,.ref (s.heap.objs.size+1),H',I',rfl,q'⟩
theorem zjM_ {Q:aV->lu->Prop}{E:aV->lu->Prop}{A:my}{c P:lE}{pos:Pos}{fl:Nat}(I:Inv X pins σ H s)(S:LScope X scope cl p fr)(bu:X.env.code=.ref c)(C:CodeHd X.base c P)(hP:H P=vj (.tbl pos qual))
  (h:∀f c' aD oc bc ct H2 s2 o,Inv X pins σ H2 s2->LamUp H H2->s2.heap.get? f=vj o->o.data=.func (qo name qual params body scope cl ((X.mg "__name__").getD .none) (.ref c') aD)->H2 f=vk ->
   H2 c'=vj (.frz oc (.own P))->oc.data=.fields bc->bc[1]?=vj (.str qual ct)->Q (.ref f) s2):
  lX (model X.prog X.w) A (makeFunction name qual params (.expr body) scope X.env [] [] [] pos fl) Q E s:=by
 obtain⟨ps,hp,ht,hq⟩:=I.hok P _ hP;have CH:CodeHd s.heap c P:=C.keeps I.bk;have gM:s.heap.Ns lU X.mg:=I.ok.mod.glob.keeps I.bk;obtain⟨bm,ob,b1,b2,b3,b4,b5,b6⟩:=I.ok.mod.bm;have jQ:lU≠P:=λz=>by
  obtain⟨o,es,ep,e,hd,_⟩:=gM;rw[z,hp]at e;cases e;cases hd
 have iR:bm≠P:=λz=>by
  have e:=I.bk _ _ b3;rw[z,hp]at e;cases e;cases b4
 have iS:bm≠lU:=λz=>by
  obtain⟨o,es,ep,e,hd,_⟩:=I.ok.mod.glob;rw[z,e]at b3;cases b3;rw[hd]at b6;cases b6
 cases hf:codeAmong pos ps.toList with
 |some cv=>
  obtain⟨c',oc,bc,ct,rfl,q1,q2,q3⟩:=hq cv hf;refine kla_makeFunctionHit (zbG_ S.clos) I.ok.glob gM bu CH hp ht hf ⟨bm,ob,b1,b2,iS,iR,I.bk _ _ b3,b4,b5,b6⟩ λaD h' tk hk hsz=>?_
  have kp:∀b u,s.heap.get? b=vj u->(h'.push {cls:=.type "function",data:=.func (qo name qual params body scope cl ((X.mg "__name__").getD .none) (.ref c') aD)}).get? b=vj u:=λb u e=>lp _ (hk b u e)
  exact h h'.objs.size c' aD oc bc ct H _ _ (I.kept (t':=tk) kp) (.inl rfl) (lN _ rfl) rfl (I.hok.fresh hsz) q1 q2 q3
 |none=>
  refine kla_makeFunction (zbG_ S.clos) I.ok.glob gM bu CH hp ht hf jQ ⟨bm,ob,b1,b2,iS,iR,I.bk _ _ b3,b4,b5,b6⟩ λc' aD h' tk hx gN aB gG jw=>?_
  obtain⟨c₂,oc,bc,ct,e2,hoc,q2,q3⟩:=gG;cases e2;have gS:H c'=vk:=I.hok.fresh gN;have k9:P≠c':=ze_ hP gS;have kp:∀b u,b≠P->s.heap.get? b=vj u->(h'.push (kla_obj name qual params body scope cl ((X.mg "__name__").getD .none) c' aD)).get? b=vj u:=λb u hb e=>lp _ (hx b u hb e)
  have nP:∀b,H b=vk->b≠P:=λb n z=>by rw[z,hP]at n;cases n
  have nc:∀b u,H b=vj u->b≠c':=λb u e=>ze_ e gS
  have iT:(h'.push (kla_obj name qual params body scope cl ((X.mg "__name__").getD .none) c' aD)).get? P=vj (tabObj (ps++#[rawInt pos.line,rawInt pos.col,.ref c'])):=lp _ jw;have tl:(ps++#[rawInt pos.line,rawInt pos.col,.ref c']).toList=ps.toList++[rawInt pos.line,rawInt pos.col,.ref c']:=by simp
  have u:Un X.fs [] H (upd H c' (.frz oc (.own P))) s.heap (h'.push (kla_obj name qual params body scope cl ((X.mg "__name__").getD .none) c' aD)):=by
   refine⟨λb o q n _ _=>kp b o (nP b n) q,λb o q n _ _=>⟨o.slots,kp b o (nP b n) q⟩,λb o q n _=>?_,λb o q _=>?_,λb xs q=>?_,λb o v q=>?_,λb p' q' q=>?_⟩
   ·rw[zd_ (l0 (lY (lH q) gN))];exact n
   ·by_cases hb:b=P
    ·rw[hb];exact⟨_,iT⟩
    ·exact⟨o,kp b o hb q⟩
   ·rw[zd_ (nc b _ q)];exact q
   ·rw[zd_ (nc b _ q)];exact q
   ·rw[zd_ (nc b _ q)];exact q
  have hok:HOk X.prog X.w (upd H c' (.frz oc (.own P))) (h'.push (kla_obj name qual params body scope cl ((X.mg "__name__").getD .none) c' aD)):=λb v e=>by
   by_cases hb:b=c'
   ·subst hb
    rw[zh_]at e;cases e;have z:=lp (kla_obj name qual params body scope cl ((X.mg "__name__").getD .none) b aD) hoc;exact⟨z,_,z⟩
   ·rw[zd_ hb]at e
    by_cases hbP':b=P
    ·subst hbP'
     rw[hP]at e;cases e;refine⟨_,iT,?_,λcv cU=>?_⟩
     ·rw[tl];exact TriplesOk_snoc _ _ _ _ ht
     ·rw[tl,codeAmong_snoc _ ht hf]at cU
      cases cU;exact⟨c',oc,bc,ct,rfl,zh_,q2,q3⟩
    ·refine(I.hok b v e).stay (λd w hd q=>kp d w ?_ q) (λd q=>by rw[zd_ (nc d _ q)];exact q) (λd xs q=>by rw[zd_ (nc d _ q)];exact q) λd ob q=>by rw[zd_ (nc d _ q)];exact q
     rcases hd with rfl |hd
     ·exact hbP'
     ·rintro rfl
      rw[hP]at hd;cases hd
  refine h h'.objs.size c' aD oc bc ct _ _ _ (I.un (t':=tk) u hok) (.inr ⟨c',_,gS,rfl⟩) (lN _ rfl) rfl ?_ zh_ q2 q3;rw[zd_ (oT aB)];exact I.hok.fresh (m5 gN (oE aB))
theorem LamUp.same {H H2:Hp}(h:LamUp H H2):Same H H2:=λb o e=>by
 rcases h with rfl |⟨c,o',hn,rfl⟩
 ·exact e
 ·rw[zd_ (ze_ e hn)];exact e
theorem zlc_ {i:Nat}{y:Str}{p0 p1 cZ bP pos:Pos}{c P:lE}(S:LScope X scope cl p fr)(hh:X.A.handled=vk)(aG:X.A.depth<recursionLimit)(hu:X.A.units+10<cLine)
  (bu:X.env.code=.ref c) (C:cdB X.K c P=vm) (bZ:lamK X.K=vj (P,bP,X.env.qual ++ "<lambda>")) (hm:X.mg "sorted"=vk) (hg:Gl X "sorted") (hy:PE X (.Name y p1) (mVar i)) (hd:defaultsOf params X.env=([],[]))
  (hb:∀pm c' aD u,bindArgs (qo "<lambda>" (X.env.qual ++ "<lambda>") params body scope cl pm (.ref c') aD) ⟨[u],[]⟩=pure [(p,u)])
  (he:∀f ae s2 H2,PE (cxLam X X.A.in1.in1 (X.env.qual ++ "<lambda>") scope cl f ae (p::fr.map (·.1)) s2 H2) body te):
  PE X (.Call (.Name "sorted" p0) [.Name y p1] [⟨vj "key",.Lambda params body scope bP,cZ⟩] pos) (tSrt X.K fr i te):=by
 intro pins s σ H Q I h;obtain⟨a,xs,hσ,hl,dA,q⟩:=h;refine og (zc2_ (u:=.builtin "sorted") I hg hm rfl ?_);refine callWith_kw ?_;have pa:PA X [.Name y p1] (tCons (mVar i) tNil):=zb0_ hy zg6_;refine thn (pa pos pins s σ H (λvs H1=>vs=[V.ref a]/\H1=H) I ?_) λus s1 ⟨vs,H1,I1,r1,e1,e2⟩=>?_
 ·show mVar i σ H _
  unfold mVar;rw[hσ];exact⟨rfl,rfl⟩
 ·subst e1 e2
  obtain⟨u,rfl,ru⟩:=vals1 r1;cases ru;refine kws_cons (kla_eval hd (zjM_ I1 S bu (cd_hd I1.mod.kin C) (I1.tb _ _ _ bZ) λf c' aD oc bc ct H2 s2 o I2 up ho df hf aI aC cU=>kws_nil ?_))
  have dq:SqL X.K H2 a xs:=up.same.seq hl;exact zgI_ I2 S hh aG hu ho df hf aI aC cU (hb _ _ _) he dq dA (q H2 up)
end
def Fl (K:Fgg)(pos:Pos):Prop:=∃c P,tI K "put_in_order"=vj (c,P)/\cdB K c P=vm/\lamK K=vj (P,pos,oG "put_in_order" ++ ".<locals>." ++ "<lambda>")
theorem Fl.mk_ {K:Fgg}{pos:Pos}{f c P:lE}{oc:aV}{od gd:Option lE}{fd:mW}{vs:Array aV}{aq f_:Array (Option aV)}{a1:lP}{a2:List lP}{a3:Option Str}{a4 a5 a6:Pos}{b1:Arguments}{b2:lP}{b3:Scope}
  (h:nH K lU "put_in_order"=vj (vj (.ref f))) (l:K.lookup f=vj ⟨oc,od,.func fd,aq⟩) (e1:fd.code=.ref c) (l2:K.lookup c=vj ⟨.type "code",gd,.fields vs,f_⟩) (e2:vs[11]?=vj (.ref P))
  (e3:(match vs.getD 18 .none,vs.getD 7 .none,vs.getD 9 .none,vs.getD 10 .none with |.str _ _,.int _ _,.bool _,.int _ _=>vm |_,_,_,_=>vn)=vm) (e4:(c != P)=vm) (e5:fd.qualname="put_in_order")
  (e6:fd.body=.stmts [.Return (vj (.Call a1 a2 [⟨a3,.Lambda b1 b2 b3 pos,a4⟩] a5)) a6]):Fl K pos:=by
 have t:tI K "put_in_order"=vj (c,P):=by
  unfold tI;rw[h];dsimp only;rw[l];dsimp only;rw[e1];dsimp only;rw[l2];dsimp only;rw[e2]
 refine⟨c,P,t,?_,?_⟩
 ·unfold cdB
  rw[l2];dsimp only;rw[e2,e3,e4];simp
 ·unfold lamK
  rw[h];dsimp only;rw[l];dsimp only;rw[e6,t,e5]
def lamPos (st:mC):Pos:=match defBody st with
 |[.Return (vj (.Call _ _ [⟨_,.Lambda _ _ _ pos,_⟩] _)) _]=>pos
 |_=>⟨0,0,0,0⟩
def EqL (K:Fgg)(H:Hp)(n:Nat):List V->List V->List Bool->Prop
 |[],[],[]=>True
 |x::xs,y::ys,b::bs=>EqD K H n x y b/\EqL K H n xs ys bs
 |_,_,_=>False
def mNeDL (K:Fgg):R2:=λx y H Q=>match x,y with
 |.ref p,.ref q=>∃(ks:List Key) (xs ys:List V) (bs:List Bool),H p=vj (.dK (ks.zip xs))/\H q=vj (.dK (ks.zip ys))/\ks.Nodup/\ks.length=xs.length/\ks.length=ys.length/\EqL K H 12 xs ys bs/\Q (.bl (!(bs.all id))) H
 |_,_=>False
theorem zoF_ {k:Key}{y:V}:∀{ks:List Key}{ys:List V}{i:Nat},ks.Nodup->ks[i]?=vj k->ys[i]?=vj y->valV (ks.zip ys) k=vj y
 |[],_,_,_,h,_=>by simp at h
 |_::_,[],_,_,_,h=>by simp at h
 |k0::ks,y0::ys,0,_,h,g=>by simp at h g;subst h g;simp[valV]
 |k0::ks,y0::ys,i+1,nd,h,g=>by
  obtain⟨n1,n2⟩:=oz.mp nd;have h':ks[i]?=vj k:=by simpa using h
  have ne:¬k0=k:=λz=>n1 (z ▸ m8 h')
  have:=zoF_ (i:=i) n2 h' (by simpa using g)
  unfold valV at this ⊢;rw[mf,nX (by simpa using ne)];exact this
section
variable {X:Cx}{pins:Pnn}{σ:St}{H:Hp}{s:lu}
theorem zc3_ {A:my}{kb:List (Key×V)}{vb:List (Key×aV)}(I:Inv X pins σ H s)(rb:KV kb vb)(hu:A.units+12<cLine):∀{ks:List Key}{xs ys:List V}{bs:List Bool}{va:List (Key×aV)},KV (ks.zip xs) va->ks.length=xs.length->EqL X.K H 12 xs ys bs ->
  (∀(i:Nat) k y,ks[i]?=vj k->ys[i]?=vj y->valV kb k=vj y)->W.KeqHits A s vb va (bs.all id)
 |[],xs,ys,bs,va,r,hl,e,hv=>by
  cases xs with
  |cons=>cases hl
  |nil=>
   cases ys with
   |cons=>exact e.elim
   |nil=>
    cases bs with
    |cons=>exact e.elim
    |nil=>unfold KV at r;cases r;exact .nil
 |k::ks,[],_,_,_,_,hl,_,_=>by cases hl
 |k::ks,x::xs,ys,bs,va,r,hl,e,hv=>by
  cases ys with
  |nil=>exact e.elim
  |cons y ys=>
   cases bs with
   |nil=>exact e.elim
   |cons b bs=>
    unfold KV at r;rw[mf]at r;cases r with
    | @cons _ w _ _ h t=>
     obtain⟨kw,vw⟩:=w;obtain⟨rfl,h2⟩:k=kw/\RelV x vw:=h;have g:=hv 0 k y rfl rfl;have rk:=rb.val k;rw[g]at rk;cases g2:valueAt vb k with
     |none=>rw[g2]at rk;exact rk.elim
     |some u=>
      rw[g2]at rk;rw[mO];exact .hit g2 (zc4_ I e.1 A _ _ hu h2 rk).1 (zc3_ I rb hu t (by simpa using hl) e.2 λi k' y' h1 h2=>hv (i+1) k' y' (by simpa using h1) (by simpa using h2))
theorem zly_ (hu:X.A.units+60<cLine):OpR X (l4 .NotEq) (mNeDL X.K):=by
 intro pins s σ H x y v u Q I rx ry h;unfold mNeDL at h;split at h
 ·cases rx;cases ry
  obtain⟨ks,xs,ys,bs,hp,hq,nd,lx,ly,e,h⟩:=h;obtain⟨_,la,va,ra,da⟩:=znI_ I.hok hp;obtain⟨_,lb,vb,rb,db⟩:=znI_ I.hok hq;refine W.keq_ne la lb da db (by lia) (λ_=>zc3_ I rb (by show X.A.units+1+12<_;lia) ra lx e λi k y h1 h2=>zoF_ nd h1 h2) ?_
  have el:va.length=vb.length:=by rw[<- ra.length,<- rb.length,mX,mX,<- lx,<- ly]
  rw[el,beq_self_eq_true,tX];exact⟨.bl _,H,I,rfl,h⟩
 ·exact h.elim
end
end L2
namespace VI
open PySem PySem.Spec PyProof.Rows L2
inductive Nd where
 |tup |lst |dct (ks:List Key)|obj (c:Str) (ns:List Str)|scr |ktup
 deriving DecidableEq
inductive D where
 |non |bl (b:Bool)|int (i:Int)|str (l:List Nat)|nd (k:Nd) (ds:List D)|fz (d:D)|pin (v:V)|gone
def SqU (K:mh)(a:lE)(xs:List V):Prop:=∃(o:tT) (aa:Array aV) (n:Nat),K.lookup a=vj o/\o.cls=.type "tuple" /\ o.data=.seq aa n/\aa.size<=lL/\Vals xs aa.toList
def NdR (K:mh)(k:Nd)(p:lE)(us:List V)(H:Hp):Prop:=match k with
 |.tup=>H p=vj (.tup us)
 |.lst=>H p=vj (.lst us)
 |.scr=>SqL K H p us
 |.ktup=>SqU K p us
 |.dct ks=>H p=vj (.dK (ks.zip us))/\ks.length=us.length/\ks.Nodup
 |.obj c ns=>∃dx,H p=vj (.ins (gA K c) dx (ns.zip us))/\ns.length=us.length
theorem NdR.mono {K:mh}{k:Nd}{p:lE}{us:List V}{H H':Hp}(g:Same H H')(h:NdR K k p us H):NdR K k p us H':=by
 cases k with
 |tup=>exact g _ _ h
 |lst=>exact g _ _ h
 |scr=>exact g.seq h
 |ktup=>exact h
 |dct ks=>exact⟨g _ _ h.1,h.2⟩
 |obj c ns=>obtain⟨dx,e,l⟩:=h;exact⟨dx,g _ _ e,l⟩
mutual
def DR (K:mh):D->V->Hp->Prop
 |.non,v,_=>v=.non
 |.bl b,v,_=>v=.bl b
 |.int i,v,_=>v=.int i
 |.str l,v,_=>v=tx l
 |.nd k ds,v,H=>∃p us,v=.ref p/\NdR K k p us H/\DRs K ds us H
 |.fz d,v,H=>DR K d v H
 |.pin u,v,_=>v=u
 |.gone,_,_=>True
def DRs (K:mh):List D->List V->Hp->Prop
 |[],us,_=>us=[]
 |d::ds,us,H=>∃v vs,us=v::vs/\DR K d v H/\DRs K ds vs H
end
theorem DR.mono {K:mh}{H H':Hp}(g:Same H H'):∀{d:D}{v:V},DR K d v H->DR K d v H'
 |.non,_,h=>by unfold DR at h ⊢;exact h
 |.bl _,_,h=>by unfold DR at h ⊢;exact h
 |.int _,_,h=>by unfold DR at h ⊢;exact h
 |.str _,_,h=>by unfold DR at h ⊢;exact h
 |.pin _,_,h=>by unfold DR at h ⊢;exact h
 |.gone,_,h=>by unfold DR at h ⊢;exact h
 |.fz d,_,h=>by unfold DR at h ⊢;exact DR.mono g h
 |.nd k ds,_,h=>by unfold DR at h ⊢;obtain⟨p,us,e,n,r⟩:=h;exact⟨p,us,e,n.mono g,go r⟩
where go:∀{ds:List D}{us:List V},DRs K ds us H->DRs K ds us H'
 |[],_,h=>by unfold DRs at h ⊢;exact h
 |d::ds,_,h=>by unfold DRs at h ⊢;obtain⟨v,vs,e,a,r⟩:=h;exact⟨v,vs,e,DR.mono g a,go r⟩
theorem DRs.mono {K:mh}{H H':Hp}(g:Same H H'){ds:List D}{us:List V}(h:DRs K ds us H):DRs K ds us H':=DR.mono.go g h
theorem DRs.prs {K:mh}{H:Hp}:∀{ds:List D}{us:List V},DRs K ds us H↔Paired (λd v=>DR K d v H) ds us
 |[],us=>⟨λh=>by unfold DRs at h;subst h;exact .nil,λh=>by cases h;unfold DRs;rfl⟩
 |d::ds,us=>⟨λh=>by unfold DRs at h;obtain⟨v,vs,rfl,a,r⟩:=h;exact .cons a (DRs.prs.mp r),λh=>by
  cases h with |cons a r=>unfold DRs;exact⟨_,_,rfl,a,DRs.prs.mpr r⟩⟩
mutual
noncomputable def D.imm:D->Bool
 |.nd .tup ds=>D.imms ds
 |.nd .ktup ds=>D.imms ds
 |.nd _ _=>vn
 |.fz d=>d.imm
 |.pin _=>vn
 |.gone=>vn
 |_=>vm
noncomputable def D.imms:List D->Bool
 |[]=>vm
 |d::ds=>d.imm && D.imms ds
end
mutual
def D.new:D->Bool
 |.nd _ ds=>D.news ds
 |.fz d=>d.imm
 |.pin _=>vn
 |.gone=>vn
 |_=>vm
def D.news:List D->Bool
 |[]=>vm
 |d::ds=>d.new && D.news ds
end
def Cell (K:mh)(k:Nd)(p:lE)(us:List V)(F h:Hp):Prop:=match k with
 |.tup=>F p=vj (.tup us)/\∀q,h q=vk
 |.scr=>False
 |.ktup=>SqU K p us/\∀q,h q=vk
 |.lst=>h=one p (.lst us)
 |.dct ks=>h=one p (.dK (ks.zip us))/\ks.length=us.length/\ks.Nodup
 |.obj c ns=>∃dx,dx≠p/\h=two p dx (.ins (gA K c) dx (ns.zip us))/\ns.length=us.length
mutual
def OD (K:mh):D->V->Hp->Hp->Prop
 |.nd k ds,v,F,h=>∃p us h0 h2,v=.ref p/\Cell K k p us F h0/\Jn h0 h2 h/\ODs K ds us F h2
 |d,v,F,h=>(∀p,h p=vk)/\DR K d v F
def ODs (K:mh):List D->List V->Hp->Hp->Prop
 |[],us,_,h=>us=[]/\∀p,h p=vk
 |d::ds,us,F,h=>∃v vs h1 h2,us=v::vs/\Jn h1 h2 h/\OD K d v F h1/\ODs K ds vs F h2
end
section
variable {K:mR}{F F' h h1 h2 H:Hp}{d:D}{ds:List D}{v:V}{us:List V}{k:Nd}{p:lE}
theorem zb_ {p q:lE}{o:HO}:one p o q=if q=p then vj o else vk:=rfl
theorem Cell.mono (g:Tups F F')(c:Cell K k p us F h):Cell K k p us F' h:=by
 cases k with
 |tup=>exact⟨g _ _ c.1,c.2⟩
 |lst=>exact c
 |scr=>exact c
 |ktup=>exact c
 |dct ks=>exact c
 |obj c' ns=>exact c
theorem Cell.notup (c:Cell K k p us F h)(q:lE)(xs:List V):h q≠vj (.tup xs):=by
 cases k with
 |tup=>rw[c.2];exact λz=>by cases z
 |ktup=>rw[c.2];exact λz=>by cases z
 |scr=>exact mi c
 |lst=>rw[show h=_ from c,zb_];split<;>exact λz=>by cases z
 |dct ks=>rw[c.1,zb_];split<;>exact λz=>by cases z
 |obj c' ns=>
  obtain⟨dx,n,e,l⟩:=c;rw[e];unfold two;split
  ·exact λz=>by cases z
  ·split<;>exact λz=>by cases z
theorem Cell.nd (c:Cell K k p us F h)(g:Same F H)(g':Same h H):NdR K k p us H:=by
 cases k with
 |tup=>exact g _ _ c.1
 |ktup=>exact c.1
 |scr=>exact mi c
 |lst=>exact g' _ _ (by rw[show h=_ from c];exact zp_)
 |dct ks=>exact⟨g' _ _ (by rw[c.1];exact zp_),c.2⟩
 |obj c' ns=>obtain⟨dx,n,e,l⟩:=c;exact⟨dx,g' _ _ (by rw[e];exact zp6_),l⟩
theorem OD.mono (g:Same F F'):∀{d:D}{v:V}{h:Hp},OD K d v F h->OD K d v F' h
 |.nd k ds,_,_,q=>by unfold OD at q ⊢;obtain⟨p,us,h0,h2,e,c,j,r⟩:=q;exact⟨p,us,h0,h2,e,c.mono g.tups,j,go r⟩
 |.non,_,_,q=>by unfold OD at q ⊢;exact⟨q.1,q.2.mono g⟩
 |.bl _,_,_,q=>by unfold OD at q ⊢;exact⟨q.1,q.2.mono g⟩
 |.int _,_,_,q=>by unfold OD at q ⊢;exact⟨q.1,q.2.mono g⟩
 |.str _,_,_,q=>by unfold OD at q ⊢;exact⟨q.1,q.2.mono g⟩
 |.fz _,_,_,q=>by unfold OD at q ⊢;exact⟨q.1,q.2.mono g⟩
 |.pin _,_,_,q=>by unfold OD at q ⊢;exact⟨q.1,q.2.mono g⟩
 |.gone,_,_,q=>by unfold OD at q ⊢;exact⟨q.1,q.2.mono g⟩
where go:∀{ds:List D}{us:List V}{h:Hp},ODs K ds us F h->ODs K ds us F' h
 |[],_,_,q=>by unfold ODs at q ⊢;exact q
 |d::ds,_,_,q=>by unfold ODs at q ⊢;obtain⟨v,vs,h1,h2,e,j,a,r⟩:=q;exact⟨v,vs,h1,h2,e,j,OD.mono g a,go r⟩
theorem OD.notup:∀{d:D}{v:V}{h:Hp},OD K d v F h->∀p xs,h p≠vj (.tup xs)
 |.nd k ds,_,_,q,p,xs=>by
  unfold OD at q;obtain⟨_,us,h0,h2,e,c,j,r⟩:=q;rcases j p with⟨_,y⟩|⟨_,y⟩
  ·rw[y];exact go r p xs
  ·rw[y];exact c.notup p xs
 |.non,_,_,q,p,xs=>by unfold OD at q;rw[q.1];exact λz=>by cases z
 |.bl _,_,_,q,p,xs=>by unfold OD at q;rw[q.1];exact λz=>by cases z
 |.int _,_,_,q,p,xs=>by unfold OD at q;rw[q.1];exact λz=>by cases z
 |.str _,_,_,q,p,xs=>by unfold OD at q;rw[q.1];exact λz=>by cases z
 |.fz _,_,_,q,p,xs=>by unfold OD at q;rw[q.1];exact λz=>by cases z
 |.pin _,_,_,q,p,xs=>by unfold OD at q;rw[q.1];exact λz=>by cases z
 |.gone,_,_,q,p,xs=>by unfold OD at q;rw[q.1];exact λz=>by cases z
where go:∀{ds:List D}{us:List V}{h:Hp},ODs K ds us F h->∀p xs,h p≠vj (.tup xs)
 |[],_,_,q,p,xs=>by unfold ODs at q;rw[q.2];exact λz=>by cases z
 |d::ds,_,_,q,p,xs=>by
  unfold ODs at q;obtain⟨v,vs,h1,h2,e,j,a,r⟩:=q;rcases j p with⟨_,y⟩|⟨_,y⟩
  ·rw[y];exact go r p xs
  ·rw[y];exact OD.notup a p xs
theorem OD.view (g:Same F H):∀{d:D}{v:V}{h:Hp},Same h H->OD K d v F h->DR K d v H
 |.nd k ds,_,_,g',q=>by
  unfold OD at q;unfold DR;obtain⟨p,us,h0,h2,e,c,j,r⟩:=q;exact⟨p,us,e,c.nd g (j.l.trans g'),go (j.r.trans g') r⟩
 |.non,_,_,_,q=>by unfold OD at q;exact q.2.mono g
 |.bl _,_,_,_,q=>by unfold OD at q;exact q.2.mono g
 |.int _,_,_,_,q=>by unfold OD at q;exact q.2.mono g
 |.str _,_,_,_,q=>by unfold OD at q;exact q.2.mono g
 |.fz _,_,_,_,q=>by unfold OD at q;exact q.2.mono g
 |.pin _,_,_,_,q=>by unfold OD at q;exact q.2.mono g
 |.gone,_,_,_,q=>by unfold OD at q;exact q.2.mono g
where go:∀{ds:List D}{us:List V}{h:Hp},Same h H->ODs K ds us F h->DRs K ds us H
 |[],_,_,_,q=>by unfold ODs at q;unfold DRs;exact q.1
 |d::ds,_,_,g',q=>by
  unfold ODs at q;unfold DRs;obtain⟨v,vs,h1,h2,e,j,a,r⟩:=q;exact⟨v,vs,e,OD.view g (j.l.trans g') a,go (j.r.trans g') r⟩
theorem DR.imm (g:Tups F F'):∀{d:D}{v:V},d.imm=vm->DR K d v F->DR K d v F'
 |.nd .tup ds,_,z,q=>by unfold D.imm at z;unfold DR at q ⊢;obtain⟨p,us,e,n,r⟩:=q;exact⟨p,us,e,g _ _ n,go z r⟩
 |.nd .ktup ds,_,z,q=>by unfold D.imm at z;unfold DR at q ⊢;obtain⟨p,us,e,n,r⟩:=q;exact⟨p,us,e,n,go z r⟩
 |.nd .scr _,_,z,_=>by simp[D.imm]at z
 |.nd .lst _,_,z,_=>by simp[D.imm]at z
 |.nd (.dct _) _,_,z,_=>by simp[D.imm]at z
 |.nd (.obj _ _) _,_,z,_=>by simp[D.imm]at z
 |.non,_,_,q=>by unfold DR at q ⊢;exact q
 |.bl _,_,_,q=>by unfold DR at q ⊢;exact q
 |.int _,_,_,q=>by unfold DR at q ⊢;exact q
 |.str _,_,_,q=>by unfold DR at q ⊢;exact q
 |.fz d,_,z,q=>by unfold D.imm at z;unfold DR at q ⊢;exact DR.imm g z q
 |.pin _,_,z,_=>by simp[D.imm]at z
 |.gone,_,z,_=>by simp[D.imm]at z
where go:∀{ds:List D}{us:List V},D.imms ds=vm->DRs K ds us F->DRs K ds us F'
 |[],_,_,q=>by unfold DRs at q ⊢;exact q
 |d::ds,_,z,q=>by
  unfold D.imms at z;obtain⟨z1,z2⟩:=ml.mp z;unfold DRs at q ⊢;obtain⟨v,vs,e,a,r⟩:=q;exact⟨v,vs,e,DR.imm g z1 a,go z2 r⟩
theorem OD.of_imm (hn:∀p,h p=vk):∀{d:D}{v:V},d.imm=vm->DR K d v F->OD K d v F h
 |.nd .tup ds,_,z,q=>by
  unfold D.imm at z;unfold DR at q;unfold OD;obtain⟨p,us,e,n,r⟩:=q;exact⟨p,us,h,h,e,⟨n,hn⟩,λq=>.inl ⟨hn q,rfl⟩,go z r⟩
 |.nd .ktup ds,_,z,q=>by
  unfold D.imm at z;unfold DR at q;unfold OD;obtain⟨p,us,e,n,r⟩:=q;exact⟨p,us,h,h,e,⟨n,hn⟩,λq=>.inl ⟨hn q,rfl⟩,go z r⟩
 |.nd .scr _,_,z,_=>by simp[D.imm]at z
 |.nd .lst _,_,z,_=>by simp[D.imm]at z
 |.nd (.dct _) _,_,z,_=>by simp[D.imm]at z
 |.nd (.obj _ _) _,_,z,_=>by simp[D.imm]at z
 |.non,_,_,q=>by unfold OD;exact⟨hn,q⟩
 |.bl _,_,_,q=>by unfold OD;exact⟨hn,q⟩
 |.int _,_,_,q=>by unfold OD;exact⟨hn,q⟩
 |.str _,_,_,q=>by unfold OD;exact⟨hn,q⟩
 |.fz d,_,_,q=>by unfold OD;exact⟨hn,q⟩
 |.pin _,_,z,_=>by simp[D.imm]at z
 |.gone,_,z,_=>by simp[D.imm]at z
where go:∀{ds:List D}{us:List V},D.imms ds=vm->DRs K ds us F->ODs K ds us F h
 |[],_,_,q=>by unfold DRs at q;unfold ODs;exact⟨q,hn⟩
 |d::ds,_,z,q=>by
  unfold D.imms at z;obtain⟨z1,z2⟩:=ml.mp z;unfold DRs at q;unfold ODs;obtain⟨v,vs,e,a,r⟩:=q;exact⟨v,vs,h,h,e,λq=>.inl ⟨hn q,rfl⟩,OD.of_imm hn z1 a,go z2 r⟩
theorem OD.newImm (g:Tups F F'):∀{d:D}{v:V}{h:Hp},d.new=vm->OD K d v F h->OD K d v F' h
 |.nd k ds,_,_,z,q=>by unfold D.new at z;unfold OD at q ⊢;obtain⟨p,us,h0,h2,e,c,j,r⟩:=q;exact⟨p,us,h0,h2,e,c.mono g,j,go z r⟩
 |.non,_,_,_,q=>by unfold OD at q ⊢;exact⟨q.1,q.2.imm g rfl⟩
 |.bl _,_,_,_,q=>by unfold OD at q ⊢;exact⟨q.1,q.2.imm g rfl⟩
 |.int _,_,_,_,q=>by unfold OD at q ⊢;exact⟨q.1,q.2.imm g rfl⟩
 |.str _,_,_,_,q=>by unfold OD at q ⊢;exact⟨q.1,q.2.imm g rfl⟩
 |.fz d,_,_,z,q=>by unfold D.new at z;unfold OD at q ⊢;exact⟨q.1,q.2.imm g (by unfold D.imm;exact z)⟩
 |.pin _,_,_,z,_=>by simp[D.new]at z
 |.gone,_,_,z,_=>by simp[D.new]at z
where go:∀{ds:List D}{us:List V}{h:Hp},D.news ds=vm->ODs K ds us F h->ODs K ds us F' h
 |[],_,_,_,q=>by unfold ODs at q ⊢;exact q
 |d::ds,_,_,z,q=>by
  unfold D.news at z;obtain⟨z1,z2⟩:=ml.mp z;unfold ODs at q ⊢;obtain⟨v,vs,h1,h2,e,j,a,r⟩:=q;exact⟨v,vs,h1,h2,e,j,OD.newImm g z1 a,go z2 r⟩
end
abbrev tyD (K:mh):Ty D:=⟨DR K,λg h=>h.mono g⟩
abbrev owD (K:mh):Own D:=⟨OD K,tyD K,λg h=>h.mono g,λd h=>OD.view zW_ (zdJ_ d) h,λh=>h.notup⟩
noncomputable abbrev Env:=List (Option D)
def slot (K:mh):Option D->Sl
 |none=>.dead
 |some d=>.ow (owD K) d
abbrev Lof (K:mh)(env:Env):List Sl:=env.map (slot K)
noncomputable def D.un:D->D
 |.fz d=>d.un
 |d=>d
def D.vw (d:D):D:=if d.imm then d else match d with |.fz _=>d |_=>.fz d
section
variable {K:mR}{E:XK}{F h h1 h2 H:Hp}{d:D}{ds:List D}{v:V}{us:List V}{k:Nd}{p:lE}{Q:VK}
theorem DR.un:∀{d:D},DR K d v H->DR K d.un v H
 |.fz d,q=>by unfold DR at q;unfold D.un;exact DR.un q
 |.non,q=>q
 |.bl _,q=>q
 |.int _,q=>q
 |.str _,q=>q
 |.nd _ _,q=>q
 |.pin _,q=>q
 |.gone,q=>q
theorem DR.int {i:Int}(h:DR K (.int i) v H):v=.int i:=by unfold DR at h;exact h
theorem DR.str {l:List Nat}(h:DR K (.str l) v H):v=tx l:=by unfold DR at h;exact h
theorem DR.bl {b:Bool}(h:DR K (.bl b) v H):v=.bl b:=by unfold DR at h;exact h
theorem DR.non (h:DR K .non v H):v=.non:=by unfold DR at h;exact h
theorem DR.nd (h:DR K (.nd k ds) v H):∃p us,v=.ref p/\NdR K k p us H/\DRs K ds us H:=by unfold DR at h;exact h
theorem OD.vw (hn:∀p,h p=vk)(r:DR K d v F):OD K d.vw v F h:=by
 unfold D.vw;split
 ·exact OD.of_imm hn (by assumption) r
 ·split
  ·unfold OD;exact⟨hn,r⟩
  ·unfold OD;exact⟨hn,by unfold DR;exact r⟩
theorem ODs.vw (hn:∀p,h p=vk):∀{ds:List D}{us:List V},DRs K ds us F->ODs K (ds.map D.vw) us F h
 |[],_,q=>by unfold DRs at q;unfold ODs;exact⟨q,hn⟩
 |d::ds,_,q=>by
  unfold DRs at q;obtain⟨v,vs,e,a,r⟩:=q;rw[lB];unfold ODs;exact⟨v,vs,h,h,e,λq=>.inl ⟨hn q,rfl⟩,OD.vw hn a,ODs.vw hn r⟩
theorem DRs.len (h:DRs K ds us H):ds.length=us.length:=Paired.length (DRs.prs.mp h)
theorem DRs.get (h:DRs K ds us H)(i:Nat):(ds[i]?=vk/\us[i]?=vk)\/∃d v,ds[i]?=vj d/\us[i]?=vj v/\DR K d v H:=Prs.get (T:=tyD K) (DRs.prs.mp h) i
theorem DRs.app {es:List D}{ws:List V}(a:DRs K ds us H)(b:DRs K es ws H):DRs K (ds++es) (us++ws) H:=DRs.prs.mpr (Prs.append (T:=tyD K) (DRs.prs.mp a) (DRs.prs.mp b))
theorem DRs.atI (h:DRs K ds us H){i:Int}{d:D}(e:atI ds i=vj d):∃v,L2.atI us i=vj v/\DR K d v H:=zlA_ (T:=tyD K) (DRs.prs.mp h) e
theorem gotV (q:After K (.ok d.vw) E F H (OwnK (owD K) H Q))(hs:Same F H)(r:DR K d v F):Q v H:=
 q.ok hs v (λ_=>vk) (λp z=>absurd rfl z) (λp=>.inr rfl) (λp o z=>by cases z) (OD.vw (λ_=>rfl) r)
theorem got (q:After K (.ok d) E F H (OwnK (owD K) H Q))(hs:Same F H)(r:DR K d v F)(i:d.imm=vm:=by rfl):Q v H:=
 q.ok hs v (λ_=>vk) (λp z=>absurd rfl z) (λp=>.inr rfl) (λp o z=>by cases z) (OD.of_imm (λ_=>rfl) i r)
theorem gotI {i:Int}(q:After K (.ok (.int i)) E F H (OwnK (owD K) H Q))(hs:Same F H):Q (.int i) H:=got q hs (by unfold DR;rfl)
theorem gotS {i:List Nat}(q:After K (.ok (.str i)) E F H (OwnK (owD K) H Q))(hs:Same F H):Q (tx i) H:=got q hs (by unfold DR;rfl)
theorem gotB {i:Bool}(q:After K (.ok (.bl i)) E F H (OwnK (owD K) H Q))(hs:Same F H):Q (.bl i) H:=got q hs (by unfold DR;rfl)
theorem gotN (q:After K (.ok .non) E F H (OwnK (owD K) H Q))(hs:Same F H):Q .non H:=got q hs (by unfold DR;rfl)
theorem no_r {h:Hp}(z:Hp)(hz:∀p,z p=vk):Jn h z h:=λp=>.inr ⟨hz p,rfl⟩
theorem newL (q:After K (.ok (.nd .lst (ds.map .vw))) E F H (OwnK (owD K) H Q))(hs:Same F H)(hp:H p=vk)(r:DRs K ds us F):Q (.ref p) (upd H p (.lst us)):=by
 refine q F _ (.heap hs (zU_ hp _)) (.ref p) (one p (.lst us)) (λb z=>?_) (λb=>?_) (λb o z=>?_) ?_
 ·rw[zb_]at z;split at z
  ·rename_i e;rw[e];exact hp
  ·exact absurd rfl z
 ·rw[zb_];split
  ·rename_i e;rw[e];exact .inl (hs.free hp)
  ·exact .inr rfl
 ·rw[zb_]at z;split at z
  ·rename_i e;rw[e];cases z;exact zh_
  ·cases z
 ·show OD K _ _ _ _
  unfold OD;exact⟨p,us,_,λ_=>vk,rfl,rfl,no_r _ λ_=>rfl,ODs.vw (λ_=>rfl) r⟩
def addD (a b:D):Mo D:=match a.un,b.un with
 |.int i,.int j=>.ok (.int (i+j))
 |.str x,.str y=>.lim (x.length+y.length) (.ok (.str (x++y)))
 |.nd .lst xs,.nd .lst ys=>.lim (xs.length+ys.length) (.ok (.nd .lst ((xs++ys).map .vw)))
 |_,_=>.no
abbrev Op2D (K:mh)(m:R2)(E:XK)(g:D->D->Mo D):Prop:=Op2O K m E (tyD K) (tyD K) g (owD K)
theorem zrc_:Op2D K mAdd E addD:=by
 intro a b x y F H Q hs ha hb q;have ha:=DR.un ha;have hb:=DR.un hb;unfold addD at q;split at q
 ·rename_i e1 e2;rw[e1]at ha;rw[e2]at hb;cases ha.int;cases hb.int;exact gotI q hs
 ·rename_i e1 e2;rw[e1]at ha;rw[e2]at hb;cases ha.str;cases hb.str
  obtain⟨c,q⟩:=q.lim;exact⟨c,gotS q hs⟩
 ·rename_i e1 e2;rw[e1]at ha;rw[e2]at hb
  obtain⟨p,us,rfl,n,r⟩:=ha.nd;obtain⟨p2,ws,rfl,n2,r2⟩:=hb.nd;obtain⟨c,q⟩:=q.lim;exact⟨us,ws,hs _ _ n,hs _ _ n2,by rw[<- r.len,<- r2.len];exact c,λl hl=>newL q hs hl (r.app r2)⟩
 ·exact q.elim
def i2D (g:Int->Int->Mo D)(a b:D):Mo D:=match a.un,b.un with |.int i,.int j=>g i j |_,_=>.no
theorem zn8_ {g:Int->Int->V}{f:Int->Int->D}(h:∀i j F,DR K (f i j) (g i j) F)(im:∀i j,(f i j).imm=vm):Op2D K (mI0 g) E (i2D λi j=>.ok (f i j)):=by
 intro a b x y F H Q hs ha hb q;have ha:=DR.un ha;have hb:=DR.un hb;unfold i2D at q;split at q
 ·rename_i e1 e2;rw[e1]at ha;rw[e2]at hb;cases ha.int;cases hb.int;exact got q hs (h _ _ _) (im _ _)
 ·exact q.elim
theorem od_i {C:Int->Int->Prop}[∀i j,Decidable (C i j)]{g:Int->Int->V}{f:Int->Int->D}(h:∀i j F,DR K (f i j) (g i j) F)(im:∀i j,(f i j).imm=vm):Op2D K (mI C g) E (i2D λi j=>.grd (C i j) (.ok (f i j))):=by
 intro a b x y F H Q hs ha hb q;have ha:=DR.un ha;have hb:=DR.un hb;unfold i2D at q;split at q
 ·rename_i e1 e2;rw[e1]at ha;rw[e2]at hb;cases ha.int;cases hb.int
  obtain⟨c,q⟩:=q.grd;exact⟨c,got q hs (h _ _ _) (im _ _)⟩
 ·exact q.elim
abbrev subD:=i2D λi j=>.ok (.int (i-j))
abbrev modD:=i2D λi j=>.grd (0<j) (.ok (.int (i % j)))
abbrev divD:=i2D λi j=>.grd (CDivG i j) (.ok (.int (i / j)))
theorem zrm_:Op2D K mSub E subD:=zn8_ (λ_ _ _=>by unfold DR;rfl) λ_ _=>rfl
theorem zpV_:Op2D K mMod E modD:=od_i (C:=λ_ j=>0<j) (λ_ _ _=>by unfold DR;rfl) λ_ _=>rfl
theorem zqb_:Op2D K mDivG E divD:=od_i (λ_ _ _=>by unfold DR;rfl) λ_ _=>rfl
abbrev leD:=i2D λi j=>.ok (.bl (decide (i<=j)))
abbrev gtD:=i2D λi j=>.ok (.bl (decide (j<i)))
abbrev geD:=i2D λi j=>.ok (.bl (decide (j<=i)))
abbrev ltD:=i2D λi j=>.ok (.bl (decide (i<j)))
theorem od_le:Op2D K mLe E leD:=zn8_ (λ_ _ _=>by unfold DR;rfl) λ_ _=>rfl
theorem od_gt:Op2D K mGt E gtD:=zn8_ (λ_ _ _=>by unfold DR;rfl) λ_ _=>rfl
theorem od_ge:Op2D K mGe E geD:=zn8_ (λ_ _ _=>by unfold DR;rfl) λ_ _=>rfl
theorem od_lt:Op2D K mLt E ltD:=zn8_ (λ_ _ _=>by unfold DR;rfl) λ_ _=>rfl
def mulD (a b:D):Mo D:=match a.un,b.un with
 |.int i,.int j=>.grd (IntMulOk i j) (.ok (.int (i*j)))
 |.str x,.int n=>.grd (CRep x.length n) (.ok (.str (repL x n)))
 |.nd .lst xs,.int n=>.grd (CRep xs.length n) (.ok (.nd .lst ((repL xs n).map .vw)))
 |_,_=>.no
theorem DRs.rep (r:DRs K ds us H)(n:Int):DRs K (repL ds n) (repL us n) H:=DRs.prs.mpr (znj_ (T:=tyD K) (DRs.prs.mp r) n)
theorem DRs.cut (r:DRs K ds us H)(lo hi:Option Int):DRs K (cutG ds lo hi) (cutV us lo hi) H:=DRs.prs.mpr (zmE_ (T:=tyD K) (DRs.prs.mp r) lo hi)
theorem zpo_:Op2D K mMulX E mulD:=by
 intro a b x y F H Q hs ha hb q;have ha:=DR.un ha;have hb:=DR.un hb;unfold mulD at q;split at q
 ·rename_i e1 e2;rw[e1]at ha;rw[e2]at hb;cases ha.int;cases hb.int
  obtain⟨c,q⟩:=q.grd;exact⟨c,gotI q hs⟩
 ·rename_i e1 e2;rw[e1]at ha;rw[e2]at hb;cases ha.str;cases hb.int
  obtain⟨c,q⟩:=q.grd;exact⟨c,gotS q hs⟩
 ·rename_i e1 e2;rw[e1]at ha;rw[e2]at hb
  obtain⟨p,us,rfl,n,r⟩:=ha.nd;cases hb.int;obtain⟨c,q⟩:=q.grd;exact⟨us,hs _ _ n,by rw[<- r.len];exact c,λl hl=>newL q hs hl (r.rep _)⟩
 ·exact q.elim
def ixD (a b:D):Mo D:=match a.un,b.un with
 |.nd .lst xs,.int i=>.opt ((atI xs i).map .vw)
 |.nd .tup xs,.int i=>.opt ((atI xs i).map .vw)
 |.nd .scr xs,.int i=>.opt ((atI xs i).map .vw)
 |.nd .ktup xs,.int i=>.opt ((atI xs i).map .vw)
 |.str l,.int i=>.lim l.length (.opt ((atI l i).map λc=>.str [c]))
 |_,_=>.no
theorem zhz_ {ds:List D}{i:Int}(hs:Same F H)(n:SqL K H p us\/SqT K H p us)(r:DRs K ds us F)(q:After K (.opt ((atI ds i).map .vw)) E F H (OwnK (owD K) H Q)):mIx K (.ref p) (.int i) H Q:=by
 obtain⟨d,e,q⟩:=q.opt;obtain⟨d',e',rfl⟩:=lJ.mp e;obtain⟨v,e2,rv⟩:=r.atI e';refine⟨us,n,?_⟩;rw[e2];exact gotV q hs rv
theorem od_ix:Op2D K (mIx K) E ixD:=by
 intro a b x y F H Q hs ha hb q;have ha:=DR.un ha;have hb:=DR.un hb;unfold ixD at q;split at q
 ·rename_i e1 e2;rw[e1]at ha;rw[e2]at hb;obtain⟨p,us,rfl,n,r⟩:=ha.nd;cases hb.int;exact zhz_ hs (.inl (.of (hs _ _ n))) r q
 ·rename_i e1 e2;rw[e1]at ha;rw[e2]at hb;obtain⟨p,us,rfl,n,r⟩:=ha.nd;cases hb.int;exact zhz_ hs (.inr (.of (hs _ _ n))) r q
 ·rename_i e1 e2;rw[e1]at ha;rw[e2]at hb;obtain⟨p,us,rfl,n,r⟩:=ha.nd;cases hb.int;exact zhz_ hs (.inl (hs.seq n)) r q
 ·rename_i e1 e2;rw[e1]at ha;rw[e2]at hb;obtain⟨p,us,rfl,n,r⟩:=ha.nd;cases hb.int;exact zhz_ hs (.inr (.inr n)) r q
 ·rename_i l i e1 e2;rw[e1]at ha;rw[e2]at hb;cases ha.str;cases hb.int
  obtain⟨z,q⟩:=q.lim;obtain⟨d,e,q⟩:=q.opt;obtain⟨c,e',rfl⟩:=lJ.mp e;refine⟨z,?_⟩;show(match atI l i with |some c=>Q (tx [c]) H |none=>False)
  rw[e'];exact gotS q hs
 ·exact q.elim
def keyD (d:D):Option Key:=match d.un with
 |.int i=>vj (.inl i)
 |.str l=>vj (.inr ⟨l.toArray⟩)
 |_=>vk
theorem zld_ {k:Key}(e:keyD d=vj k)(h:DR K d v H):keyV v=vj k/\v=kV k:=by
 have h:=DR.un h;unfold keyD at e;cases hd:d.un with
 |int i=>rw[hd]at e h;cases e;cases h.int;exact⟨rfl,rfl⟩
 |str l=>rw[hd]at e h;cases e;cases h.str;exact⟨rfl,rfl⟩
 |_=>rw[hd]at e;cases e
def valD (ks:List Key)(ds:List D)(k:Key):Option D:=((ks.zip ds).find? λq=>decide (q.1=k)).map (·.2)
theorem zq8_ {k:Key}:∀{ks:List Key}{ds:List D}{us:List V},DRs K ds us H->(valD ks ds k=vk/\valV (ks.zip us) k=vk)\/∃d v,valD ks ds k=vj d/\valV (ks.zip us) k=vj v/\DR K d v H
 |[],ds,us,h=>.inl ⟨rfl,rfl⟩
 |k0::ks,[],us,h=>by unfold DRs at h;subst h;exact .inl ⟨rfl,rfl⟩
 |k0::ks,d::ds,us,h=>by
  unfold DRs at h;obtain⟨v,vs,rfl,a,r⟩:=h;by_cases e:k0=k
  ·subst e
   exact .inr ⟨d,v,by simp[valD],by simp[valV],a⟩
  ·rcases zq8_ (k:=k) (ks:=ks) r with⟨h1,h2⟩|⟨d',v',h1,h2,h3⟩
   ·exact .inl ⟨by unfold valD at h1 ⊢;rw[mf,nX (by simpa using e)];exact h1,by unfold valV at h2 ⊢;rw[mf,nX (by simpa using e)];exact h2⟩
   ·exact .inr ⟨d',v',by unfold valD at h1 ⊢;rw[mf,nX (by simpa using e)];exact h1,by unfold valV at h2 ⊢;rw[mf,nX (by simpa using e)];exact h2,h3⟩
def dgetD (a b:D):Mo D:=match a.un,keyD b with
 |.nd (.dct ks) ds,vj k=>.opt ((valD ks ds k).map .vw)
 |_,_=>.no
def dinD (neg:Bool)(b a:D):Mo D:=match a.un,keyD b with
 |.nd (.dct ks) ds,vj k=>.ok (.bl (if neg then !(valD ks ds k).isSome else(valD ks ds k).isSome))
 |_,_=>.no
theorem zdB_ {x y:V}{R:lE->List (Key×V)->Key->Prop}{kvs:List (Key×V)}{k:Key}(hx:x=.ref p)(hy:keyV y=vj k)(h:H p=vj (.dK kvs))(r:R p kvs k):atD x y H R:=by
 subst hx;unfold atD;dsimp only;rw[hy];exact⟨kvs,h,r⟩
section
variable {t t1 t2:TE}{r r1 r2:Mo D}{env:Env}
abbrev EvX (K:mh)(t:TE)(E:XK)(env:Env)(r:Mo D):Prop:=EvO K t E (Lof K env) r (owD K)
abbrev EvV (K:mh)(t:TE)(E:XK)(env:Env)(r:Mo D):Prop:=EvF K t E (Lof K env) r (tyD K)
theorem ex_v (h:EvX K t E env r):EvV K t E env r:=h.fr
theorem ex_op {m:R2}{g:D->D->Mo D}(o:Op2D K m E g)(h1:EvX K t1 E env r1)(h2:EvX K t2 E env r2):EvX K (tOp m t1 t2) E env (r1.bind λa=>r2.bind λb=>g a b):=zpd_ o (ex_v h1) (ex_v h2)
def getE (env:Env)(i:Nat):Mo D:=match env[i]? with |some (vj d)=>.ok d.vw |_=>.no
theorem znr_ (i:Nat):EvX K (mVar i) E env (getE env i):=by
 intro σ F H Q hL hs q;unfold getE at q;split at q
 ·rename_i d e
  obtain⟨v,ev,rv⟩:=hL i (slot K (vj d)) (by rw[lK,e];rfl)
  unfold mVar;cases z:σ[i]? with
  |none=>rw[z]at ev;cases ev
  |some o=>rw[z]at ev;cases(show o=vj v from ev);exact gotV q hs rv
 ·exact q.elim
theorem ex_c {d:D}{v:V}(h:∀F,DR K d v F)(i:d.imm=vm:=by rfl):EvX K (tC v) E env (.ok d):=λσ F H Q hL hs q=>got q hs (h F) i
def blD (d:D):Mo Bool:=match d.un with |.bl b=>.ok b |_=>.no
theorem zgQ_ (h:EvX K t E env r):EvT K (mTest t) E (Lof K env) (r.bind blD):=by
 intro σ F H Q hL hs q;refine ex_v h σ F H _ hL hs (q.bind.imp λa F1 H1 x1 k1 v1 aM=>?_)
 have ha:=DR.un aM;unfold blD at k1;split at k1
 ·rename_i b e;rw[e]at ha;cases ha.bl;exact k1.ok x1.2.1
 ·exact k1.elim
theorem zqU_ (h:EvX K t E env r):EvX K (mNotV t) E env (r.bind λa=>(blD a).bind λb=>.ok (.bl (!b))):=by
 intro σ F H Q hL hs q;refine ex_v h σ F H _ hL hs (q.bind.imp λa F1 H1 x1 k1 v1 aM=>?_)
 have ha:=DR.un aM;unfold blD at k1;split at k1
 ·rename_i b e;rw[e]at ha;cases ha.bl
  exact gotB (k1.imp λa F3 H3 x3 k3=>k3.back x1.2.2.1) x1.2.1
 ·exact k1.elim
def andD (a:D)(r:Mo D):Mo D:=(blD a).bind λb=>if b then r else .ok (.bl vn)
def orD (a:D)(r:Mo D):Mo D:=(blD a).bind λb=>if b then .ok (.bl vm)else r
theorem zq1_ (h1:EvX K t1 E env r1)(h2:EvX K t2 E env r2):EvX K (mAndV t1 t2) E env (r1.bind λa=>andD a r2):=by
 intro σ F H Q hL hs q;refine ex_v h1 σ F H _ hL hs (q.bind.imp λa F1 H1 x1 k1 v1 aM=>?_)
 have ha:=DR.un aM;unfold andD blD at k1;split at k1
 ·rename_i b e;rw[e]at ha;cases ha.bl
  refine⟨λz=>?_,λz=>?_⟩
  ·subst z;exact h2 σ F1 H1 _ (hL.mono x1.1) x1.2.1 (After.imp (show After K r2 E F1 H1 _ from k1) λa F3 H3 x3 k3=>k3.back x1.2.2.1)
  ·subst z;exact gotB (After.imp (show After K (.ok (D.bl vn)) E F1 H1 (OwnK (owD K) H Q)from k1) λa F3 H3 x3 k3=>k3.back x1.2.2.1) x1.2.1
 ·exact k1.elim
theorem ex_or (h1:EvX K t1 E env r1)(h2:EvX K t2 E env r2):EvX K (mOrV t1 t2) E env (r1.bind λa=>orD a r2):=by
 intro σ F H Q hL hs q;refine ex_v h1 σ F H _ hL hs (q.bind.imp λa F1 H1 x1 k1 v1 aM=>?_)
 have ha:=DR.un aM;unfold orD blD at k1;split at k1
 ·rename_i b e;rw[e]at ha;cases ha.bl
  refine⟨λz=>?_,λz=>?_⟩
  ·subst z;exact gotB (After.imp (show After K (.ok (D.bl vm)) E F1 H1 (OwnK (owD K) H Q)from k1) λa F3 H3 x3 k3=>k3.back x1.2.2.1) x1.2.1
  ·subst z;exact h2 σ F1 H1 _ (hL.mono x1.1) x1.2.1 (After.imp (show After K r2 E F1 H1 _ from k1) λa F3 H3 x3 k3=>k3.back x1.2.2.1)
 ·exact k1.elim
theorem ex_if {tt:TT}{b:Mo Bool}(ht:EvT K tt E (Lof K env) b)(h1:EvX K t1 E env r1)(h2:EvX K t2 E env r2):EvX K (mIf tt t1 t2) E env (b.bind λc=>if c then r1 else r2):=zpq_ ht h1 h2
def negD (a:D):Mo D:=match a.un with |.int i=>.ok (.int (-i))|_=>.no
theorem zqw_ (h:EvX K t E env r):EvX K (mNeg t) E env (r.bind negD):=by
 intro σ F H Q hL hs q;refine ex_v h σ F H _ hL hs (q.bind.imp λa F1 H1 x1 k1 v1 aM=>?_)
 have ha:=DR.un aM;unfold negD at k1;split at k1
 ·rename_i b e;rw[e]at ha;cases ha.int
  exact gotI (k1.imp λa F3 H3 x3 k3=>k3.back x1.2.2.1) x1.2.1
 ·exact k1.elim
end
end
section
variable {K:mR}{E:XK}{F F' h h1 h2 H H':Hp}{d:D}{ds:List D}{v:V}{us:List V}{k:Nd}{p:lE}{Q:VK}{env:Env}{t:TE}{r r1 r2:Mo D}{ta:TA}{ra:Mo (List D)}
def allT (f:D->D->Option Bool):List D->List D->Option Bool
 |a::as,b::bs=>(f a b).bind λx=>(allT f as bs).map λy=>x && y
 |_,_=>vj vm
def D.flat?:D->Option V
 |.non=>vj .non
 |.bl b=>vj (.bl b)
 |.int i=>vj (.int i)
 |.str l=>vj (tx l)
 |_=>vk
noncomputable def sqT:D->Option (Bool×List D)
 |.nd .lst xs=>vj (vm,xs)|.nd .tup xs=>vj (vn,xs)|_=>vk
def eqS (f:D->D->Option Bool)(a b:D):Option Bool:=match sqT a with
 |none=>(match sqT b with |none=>a.flat?.bind λx=>b.flat?.map λy=>eqV x y |some _=>a.flat?.map λ_=>vn)
 |some (k,xs)=>(match sqT b with
  |none=>b.flat?.map λ_=>vn
  |some (k',ys)=>bif k == k' then(bif k then(if xs.length=ys.length then allT f xs ys else vj vn)else(allT f xs ys).map λb=>b && xs.length == ys.length)else vj vn)
def eqT:Nat->D->D->Option Bool
 |0,a,b=>a.un.flat?.bind λx=>b.un.flat?.map λy=>eqV x y
 |n+1,a,b=>eqS (eqT n) a.un b.un
theorem zql_ {k:Bool}{xs:List D}(e:sqT d=vj (k,xs))(h:DR K d v H):∃p us,v=.ref p/\DRs K xs us H/\H p=vj (bif k then .lst us else .tup us):=by
 cases d with
 |nd k ds=>
  obtain⟨p,us,rfl,m,r⟩:=h.nd;cases k with
  |lst=>cases e;exact⟨p,us,rfl,r,m⟩
  |tup=>cases e;exact⟨p,us,rfl,r,m⟩
  |_=>cases e
 |_=>cases e
theorem zdy_ {x:V}(e:d.flat?=vj x)(h:DR K d v H):v=x/\flatV x=vm:=by
 cases d with
 |non=>cases e;exact⟨h.non,rfl⟩
 |bl=>cases e;exact⟨h.bl,rfl⟩
 |int=>cases e;exact⟨h.int,rfl⟩
 |str=>cases e;exact⟨h.str,rfl⟩
 |_=>cases e
theorem zjE_ {f:D->D->Option Bool}:∀{xs ys:List D}{b:Bool},allT f xs ys=vj b->∃e:Nat->Bool,(∀(i:Nat) x y,xs[i]?=vj x->ys[i]?=vj y->f x y=vj (e i))/\b=(mj (min xs.length ys.length)).all e
 |[],_,_,h=>by cases h;exact⟨λ_=>vm,λi x y hx=>by simp at hx,by simp⟩
 |_::_,[],_,h=>by cases h;exact⟨λ_=>vm,λi x y hx hy=>by simp at hy,by simp⟩
 |x::xs,y::ys,b,h=>by
  unfold allT at h;obtain⟨c,hc,h⟩:=lI.mp h;obtain⟨c',aI,rfl⟩:=lJ.mp h;obtain⟨e,h1,h2⟩:=zjE_ aI;refine⟨λi=>match i with |0=>c |i+1=>e i,λi u w hu hw=>?_,?_⟩
  ·cases i with
   |zero=>simp at hu hw;subst hu hw;exact hc
   |succ i=>exact h1 i u w (by simpa using hu) (by simpa using hw)
  ·rw[h2,lG,lG,Nat.succ_min_succ,List.range_succ_eq_map,mO,uB];rfl
theorem zpW_:∀{n:Nat}{a b:D}{x y:V}{c:Bool},eqT n a b=vj c->DR K a x H->DR K b y H->EqD K H n x y c:=by
 intro n;induction n with
 |zero=>
  intro a b x y c h ha hb;unfold eqT at h;obtain⟨x',hx,h⟩:=lI.mp h;obtain⟨y',hy,rfl⟩:=lJ.mp h;obtain⟨rfl,f1⟩:=zdy_ hx (DR.un ha);obtain⟨rfl,f2⟩:=zdy_ hy (DR.un hb);exact .flat f1 f2
 |succ n ih=>
  intro a b x y c h ha hb;have ha:=DR.un ha;have hb:=DR.un hb;have sub:∀{xs ys:List D}{us ws:List V}{e:Nat->Bool},DRs K xs us H->DRs K ys ws H->(∀(i:Nat) x y,xs[i]?=vj x->ys[i]?=vj y->eqT n x y=vj (e i))->∀(i:Nat) u w,us[i]?=vj u->ws[i]?=vj w->EqD K H n u w (e i):=λr r2 g i u w hu hw=>by
   rcases r.get i with⟨_,z⟩|⟨d,v,e1,e2,e3⟩
   ·rw[z]at hu;cases hu
   rcases r2.get i with⟨_,z⟩|⟨d',v',g1,g2,g3⟩
   ·rw[z]at hw;cases hw
   rw[e2]at hu;rw[g2]at hw;cases hu;cases hw;exact ih (g i _ _ e1 g1) e3 g3
  have fl:∀{a b:D},DR K a x H->DR K b y H->(a.flat?.bind λx=>b.flat?.map λy=>eqV x y)=vj c->EqD K H (n+1) x y c:=λha hb h=>by
   obtain⟨x',hx,h⟩:=lI.mp h;obtain⟨y',hy,rfl⟩:=lJ.mp h;obtain⟨rfl,f1⟩:=zdy_ hx ha;obtain⟨rfl,f2⟩:=zdy_ hy hb;exact(EqD.flat f1 f2).le (mq _)
  have h:eqS (eqT n) a.un b.un=vj c:=h;unfold eqS at h;cases ea:sqT a.un with
  |none=>
   rw[ea]at h;cases eb:sqT b.un with
   |none=>rw[eb]at h;exact fl ha hb h
   |some q=>
    rw[eb]at h;obtain⟨y',hy,rfl⟩:=lJ.mp h;obtain⟨rfl,f2⟩:=zdy_ hy ha;obtain⟨p,us,rfl,r,m⟩:=zql_ (k:=q.1) (xs:=q.2) eb hb;cases z:q.1<;>rw[z]at m
    ·exact .ft (.of m) f2
    ·exact .fl (.of m) f2
  |some q=>
   rw[ea]at h;obtain⟨p,us,rfl,r1,n1⟩:=zql_ (k:=q.1) (xs:=q.2) ea ha;obtain⟨k,xs⟩:=q;cases eb:sqT b.un with
   |none=>
    rw[eb]at h;obtain⟨y',hy,rfl⟩:=lJ.mp h;obtain⟨rfl,f2⟩:=zdy_ hy hb;cases k
    ·exact .tf (.of n1) f2
    ·exact .lf (.of n1) f2
   |some q=>
    rw[eb]at h;obtain⟨q',ws,rfl,r2,n2⟩:=zql_ (k:=q.1) (xs:=q.2) eb hb;obtain⟨k',ys⟩:=q;cases k<;>cases k'
    ·obtain⟨c',hc,rfl⟩:=lJ.mp (show(allT (eqT n) xs ys).map _=_ from h)
     obtain⟨e,g1,rfl⟩:=zjE_ hc;rw[r1.len,r2.len];exact .tup e (.of n1) (.of n2) (sub r1 r2 g1)
    ·cases h;exact .tl (.of n1) (.of n2)
    ·cases h;exact .lt (.of n1) (.of n2)
    ·have h:(if xs.length=ys.length then allT (eqT n) xs ys else vj vn)=vj c:=h
     split at h
     ·rename_i hl
      obtain⟨e,g1,rfl⟩:=zjE_ h;rw[<- hl,oI,r1.len];exact .lst e (.of n1) (.of n2) (by rw[<- r1.len,<- r2.len,hl]) (sub r1 r2 g1)
     ·rename_i hl;cases h;exact .lstN (.of n1) (.of n2) (by rw[<- r1.len,<- r2.len];exact hl)
def eqD (neg:Bool)(a b:D):Mo D:=(Mo.opt (eqT 12 a b)).bind λc=>.ok (.bl (if neg then !c else c))
theorem od_eq:Op2D K (mEqA K) E (eqD vn):=by
 intro a b x y F H Q hs ha hb q;unfold eqD at q;cases e:eqT 12 a b with
 |none=>rw[e]at q;exact q.elim
 |some c=>rw[e]at q;exact⟨12,c,by decide,zpW_ e ((tyD K).mono hs ha) ((tyD K).mono hs hb),gotB q hs⟩
theorem od_ne:Op2D K (mNeA K) E (eqD vm):=by
 intro a b x y F H Q hs ha hb q;unfold eqD at q;cases e:eqT 12 a b with
 |none=>rw[e]at q;exact q.elim
 |some c=>rw[e]at q;exact⟨12,c,by decide,zpW_ e ((tyD K).mono hs ha) ((tyD K).mono hs hb),gotB q hs⟩
theorem un_fz:∀(d:D) {x:D},d.un≠.fz x
 |.fz d,x=>by unfold D.un;exact un_fz d
 |.non,_=>λz=>by cases z
 |.bl _,_=>λz=>by cases z
 |.int _,_=>λz=>by cases z
 |.str _,_=>λz=>by cases z
 |.nd _ _,_=>λz=>by cases z
 |.pin _,_=>λz=>by cases z
 |.gone,_=>λz=>by cases z
def isD (neg:Bool)(a b:D):Mo D:=match b with
 |.non=>(match a.un with |.pin _=>.no |.gone=>.no |.non=>.ok (.bl (!neg))|_=>.ok (.bl neg))
 |_=>.no
theorem zov_ (ha:DR K d v H){neg:Bool}{b:D}{c:Mo Unit}(hc:isD neg d .non=.ok b):b=.bl (if neg then !decide (v=.non)else decide (v=.non)):=by
 have ha:=DR.un ha;unfold isD at hc;cases z:d.un with
 |non=>rw[z]at ha hc;cases ha.non;cases hc;cases neg<;>rfl
 |bl=>rw[z]at ha hc;cases ha.bl;cases hc;cases neg<;>rfl
 |int=>rw[z]at ha hc;cases ha.int;cases hc;cases neg<;>rfl
 |str=>rw[z]at ha hc;cases ha.str;cases hc;cases neg<;>rfl
 |nd=>rw[z]at ha hc;obtain⟨_,_,rfl,_⟩:=ha.nd;cases hc;cases neg<;>rfl
 |fz=>exact absurd z (un_fz d)
 |pin=>rw[z]at hc;cases hc
 |gone=>rw[z]at hc;cases hc
theorem zi1_ {neg:Bool}{a b:D}{k:D->Hp->Hp->Prop}(q:After K (isD neg a b) E F H k):b=.non/\∃c,isD neg a .non=.ok c/\After K (.ok c) E F H k:=by
 unfold isD at q ⊢;split at q
 ·refine⟨rfl,?_⟩
  split at q
  ·exact q.elim
  ·exact q.elim
  ·exact⟨_,rfl,q⟩
  ·exact⟨_,rfl,q⟩
 ·exact q.elim
theorem od_is:Op2D K mIs E (isD vn):=by
 intro a b x y F H Q hs ha hb q;obtain⟨rfl,c,e,q⟩:=zi1_ q;cases DR.non (K:=K) (H:=F) hb;cases zov_ (c:=.no) ha e;exact gotB q hs
theorem zqW_:Op2D K mIsNot E (isD vm):=by
 intro a b x y F H Q hs ha hb q;obtain⟨rfl,c,e,q⟩:=zi1_ q;cases DR.non (K:=K) (H:=F) hb;cases zov_ (c:=.no) ha e;exact gotB q hs
def flats:List D->Option (List V)
 |[]=>vj []
 |d::ds=>d.un.flat?.bind λx=>(flats ds).map λxs=>x::xs
theorem zjk_:∀{ds:List D}{xs us:List V},flats ds=vj xs->DRs K ds us H->us=xs/\xs.all flatV=vm
 |[],_,_,e,h=>by cases e;unfold DRs at h;exact⟨h,rfl⟩
 |d::ds,_,_,e,h=>by
  unfold flats at e;unfold DRs at h;obtain⟨x,ex,e⟩:=lI.mp e;obtain⟨xs,exs,rfl⟩:=lJ.mp e;obtain⟨v,vs,rfl,a,r⟩:=h;obtain⟨rfl,f1⟩:=zdy_ ex (DR.un a);obtain⟨rfl,f2⟩:=zjk_ exs r;exact⟨rfl,by rw[mO,f1,f2];rfl⟩
def inSeq (neg:Bool)(a:D)(ys:List D):Mo D:=(Mo.opt (a.un.flat?.bind λx=>(flats ys).map λzs=>inV x zs)).bind λc=>.ok (.bl (if neg then !c else c))
def inD (neg:Bool)(a b:D):Mo D:=match b.un with
 |.str t=>(match a.un with |.str l=>.ok (.bl (if neg then !inS l t else inS l t))|_=>.no)
 |.nd .lst ys=>inSeq neg a ys
 |.nd .tup ys=>inSeq neg a ys
 |.nd .ktup ys=>inSeq neg a ys
 |_=>.no
theorem zkk_ {neg:Bool}{a:D}{ys:List D}{x:V}(hs:Same F H)(ha:DR K a x F)(n:SqL K H p us\/SqT K H p us)(r:DRs K ys us F)(q:After K (inSeq neg a ys) E F H (OwnK (owD K) H Q)):mIn K neg x (.ref p) H Q:=by
 unfold inSeq at q;cases e:(a.un.flat?.bind λx=>(flats ys).map λzs=>inV x zs)with
 |none=>rw[e]at q;exact q.elim
 |some c=>
  rw[e]at q;obtain⟨x',ex,e⟩:=lI.mp e;obtain⟨zs,ez,rfl⟩:=lJ.mp e;obtain⟨rfl,f1⟩:=zdy_ ex (DR.un ha);obtain⟨rfl,f2⟩:=zjk_ ez r;exact⟨us,n,f1,f2,gotB q hs⟩
theorem od_in {neg:Bool}:Op2D K (mIn K neg) E (inD neg):=by
 intro a b x y F H Q hs ha hb q;have hb:=DR.un hb;unfold inD at q;split at q
 ·rename_i l e;rw[e]at hb;cases hb.str
  have ha:=DR.un ha;split at q
  ·rename_i e;rw[e]at ha;cases ha.str;exact gotB q hs
  ·exact q.elim
 ·rename_i e;rw[e]at hb;obtain⟨p,us,rfl,n,r⟩:=hb.nd;exact zkk_ hs ha (.inl (.of (hs _ _ n))) r q
 ·rename_i e;rw[e]at hb;obtain⟨p,us,rfl,n,r⟩:=hb.nd;exact zkk_ hs ha (.inr (.of (hs _ _ n))) r q
 ·rename_i e;rw[e]at hb;obtain⟨p,us,rfl,n,r⟩:=hb.nd;exact zkk_ hs ha (.inr (.inr n)) r q
 ·exact q.elim
def intD (d:D):Mo Int:=match d.un with |.int i=>.ok i |_=>.no
theorem ep_x (hx:EvX K t E env r):EvP K (mPart t) E (Lof K env) (r.bind λd=>(intD d).bind λi=>.ok (vj i)):=by
 intro σ F H Q hL hs q;refine ex_v hx σ F H _ hL hs (q.bind.imp λa F1 H1 x1 k1 v1 aM=>?_)
 have ha:=DR.un aM;unfold intD at k1;split at k1
 ·rename_i i e;rw[e]at ha;cases ha.int;exact k1.ok x1.2.1
 ·exact k1.elim
def slD (a:D)(lo hi:Option Int):Mo D:=match a.un with
 |.str l=>.lim l.length (.ok (.str (cutG l lo hi)))
 |.nd .lst xs=>.ok (.nd .lst ((cutG xs lo hi).map .vw))
 |.nd .scr xs=>.ok (.nd .lst ((cutG xs lo hi).map .vw))
 |_=>.no
def OwnKs (K:mh)(H:Hp)(Q:List V->Hp->Prop)(ds:List D)(F' H':Hp):Prop:=∀vs h,(∀p,h p≠vk->H p=vk)->Dj F' h->Same h H'->ODs K ds vs F' h->Q vs H'
def EvAs (K:mh)(t:TA)(E:XK)(env:Env)(r:Mo (List D)):Prop:=∀σ F H (Q:List V->Hp->Prop),HoldF (Lof K env) σ F->Same F H->After K r E F H (OwnKs K H Q)->t σ H Q
abbrev csD (K:mh):Cs (List D):=⟨DRs K,λg h=>h.mono g⟩
theorem zgq_:EvAs K tNil E env (.ok []):=λσ F H Q hL hs q=>q.ok hs [] (λ_=>vk) (λp z=>absurd rfl z) (λp=>.inr rfl) (λp o z=>by cases z) (by unfold ODs;exact⟨rfl,λ_=>rfl⟩)
theorem zn0_ (x:Ext F H F' H')(d:Dj F h)(s:Same h H):Dj F' h:=λp=>by
 cases z:h p with
 |none=>exact .inr rfl
 |some o=>
  left;rcases d p with y |y
  ·cases w:F' p with
   |none=>rfl
   |some o'=>have:=x.2.2.2 p y (by rw[w];exact sN _);rw[s _ _ z]at this;cases this
  ·rw[y]at z;cases z
theorem za7_ (h1:EvX K t E env r)(h2:EvAs K ta E env ra):EvAs K (tCons t ta) E env (r.bind λa=>ra.bind λas=>.ok (a::as)):=by
 intro σ F H Q hL hs q;refine h1 σ F H _ hL hs (q.bind.imp λa F1 H1 x1 k1 v k cu dF s1 o1=>?_)
 refine h2 σ F1 H1 _ (hL.mono x1.1) x1.2.1 (k1.bind.imp λas F2 H2 x2 k2 vs k' fm h_ s2 o2=>?_)
 have d1:Dj k k':=λp=>by
  cases z:k p with
  |none=>exact .inl rfl
  |some o=>
   right;cases y:k' p with
   |none=>rfl
   |some o'=>have:=fm p (by rw[y];exact sN _);rw[s1 _ _ z]at this;cases this
 refine k2.ok x2.2.1 (v::vs) (un k k') (λp z=>?_) (λp=>?_) (λp o z=>?_) ?_
 ·unfold un at z
  cases y:k p with
  |some o=>exact cu p (by rw[y];exact sN _)
  |none=>rw[y]at z;exact x1.2.2.1.free (fm p z)
 ·unfold un
  cases y:k p with
  |some o=>
   rcases zn0_ x2 dF s1 p with w |w
   ·exact .inl w
   ·rw[y]at w;cases w
  |none=>exact h_ p
 ·unfold un at z
  cases y:k p with
  |some o'=>rw[y]at z;cases z;exact x2.2.2.1 _ _ (s1 _ _ y)
  |none=>rw[y]at z;exact s2 _ _ z
 ·unfold ODs
  exact⟨v,vs,k,k',rfl,zah_ d1,o1.mono x2.1,o2⟩
theorem zhg_ (h:EvAs K ta E env ra):EvA K ta E (Lof K env) ra (csD K):=by
 intro σ F H Q hL hs q;refine h σ F H Q hL hs ?_;cases ra with
 |ok a=>
  intro F' H' x vs h' fresh d s o;refine q (un F' h') H' ⟨x.1.trans zW_,λp o e=>?_,x.2.2.1,λp a b=>?_⟩ vs (OD.view.go zW_ (zdJ_ d) o)
  ·unfold un at e
   cases z:F' p with
   |some w=>rw[z]at e;cases e;exact x.2.1 _ _ z
   |none=>rw[z]at e;exact s _ _ e
  ·unfold un at b
   cases z:F' p with
   |some w=>exact x.2.2.2 p a (by rw[z];exact sN _)
   |none=>rw[z]at b;exact fresh p b
 |ex c=>exact q
 |no=>exact q
theorem ODs.len:∀{ds:List D}{us:List V}{h:Hp},ODs K ds us F h->ds.length=us.length
 |[],_,_,q=>by unfold ODs at q;rw[q.1];rfl
 |d::ds,_,_,q=>by unfold ODs at q;obtain⟨v,vs,h1,h2,rfl,j,a,r⟩:=q;rw[lG,lG,ODs.len r]
theorem zo5_ (h:EvAs K ta E env ra):EvX K (tTup ta) E env (ra.bind λds=>.lim ds.length (.ok (.nd .tup ds))):=by
 intro σ F H Q hL hs q;refine h σ F H _ hL hs (q.bind.imp λds F1 H1 x1 k1 vs k cu dF s1 o1=>?_)
 obtain⟨c,k1⟩:=k1.lim;rw[ODs.len o1]at c;refine⟨c,λp hp=>?_⟩
 have nk:k p=vk:=by
  cases z:k p with
  |none=>rfl
  |some o=>rw[s1 _ _ z]at hp;cases hp
 have y:=Ext.new x1.2.1 (o:=.tup vs) hp;refine k1 _ _ y (.ref p) k cu (zn0_ y dF s1) (s1.trans (zU_ hp _)) ?_;show OD K _ _ _ _
 unfold OD;exact⟨p,vs,λ_=>vk,k,rfl,⟨zh_,λ_=>rfl⟩,λq=>.inl ⟨rfl,rfl⟩,OD.mono.go y.1 o1⟩
theorem zqG_ (h:EvAs K ta E env ra):EvX K (tLst ta) E env (ra.bind λds=>.lim ds.length (.ok (.nd .lst ds))):=by
 intro σ F H Q hL hs q;refine h σ F H _ hL hs (q.bind.imp λds F1 H1 x1 k1 vs k cu dF s1 o1=>?_)
 obtain⟨c,k1⟩:=k1.lim;rw[ODs.len o1]at c;refine⟨c,λp hp=>?_⟩
 have nk:k p=vk:=by
  cases z:k p with
  |none=>rfl
  |some o=>rw[s1 _ _ z]at hp;cases hp
 have d1:Dj (one p (.lst vs)) k:=λq=>by
  rw[zb_];split
  ·rename_i e;rw[e];exact .inr nk
  ·exact .inl rfl
 refine k1 F1 _ (.heap x1.2.1 (zU_ hp _)) (.ref p) (un (one p (.lst vs)) k) (λq z=>?_) (λq=>?_) (λq o z=>?_) ?_
 ·unfold un at z;rw[zb_]at z
  by_cases e:q=p
  ·subst e;exact x1.2.2.1.free hp
  ·rw[if_neg e]at z;exact cu q z
 ·unfold un;rw[zb_]
  by_cases e:q=p
  ·subst e;exact .inl (x1.2.1.free hp)
  ·rw[if_neg e];exact dF q
 ·unfold un at z;rw[zb_]at z
  by_cases e:q=p
  ·subst e;rw[if_pos rfl]at z;cases z;exact zh_
  ·rw[if_neg e]at z;rw[zd_ e];exact s1 _ _ z
 ·show OD K _ _ _ _
  unfold OD;exact⟨p,vs,_,k,rfl,rfl,zah_ d1,o1⟩
abbrev BlD (K:mh)(m:List V->Hp->VK->Prop)(E:XK)(g:List D->Mo D):Prop:=BlO K m E (csD K) g (owD K)
theorem ex_cb {m:List V->Hp->VK->Prop}{g:List D->Mo D}(o:BlD K m E g)(h:EvAs K ta E env ra):EvX K (tCB m ta) E env (ra.bind g):=zqM_ o (zhg_ h)
theorem DRs.one (h:DRs K [d] us H):∃v,us=[v]/\DR K d v H:=by
 unfold DRs at h;obtain⟨v,vs,rfl,a,r⟩:=h;unfold DRs at r;subst r;exact⟨v,rfl,a⟩
theorem DRs.two {d':D}(h:DRs K [d,d'] us H):∃v v',us=[v,v']/\DR K d v H/\DR K d' v' H:=by
 unfold DRs at h;obtain⟨v,vs,rfl,a,r⟩:=h;obtain⟨v',rfl,b⟩:=DRs.one r;exact⟨v,v',rfl,a,b⟩
def on1 (f:D->Mo D)(ds:List D):Mo D:=match ds with |[d]=>f d.un |_=>.no
def on2 (f:D->D->Mo D)(ds:List D):Mo D:=match ds with |[d,e]=>f d.un e.un |_=>.no
theorem ze3_ {m:List V->Hp->VK->Prop}{f:D->Mo D}(h:∀d v F H (Q:VK),Same F H->DR K d v F->After K (f d) E F H (OwnK (owD K) H Q)->m [v] H Q):BlD K m E (on1 f):=by
 intro ds vs F H Q hs hd q;unfold on1 at q;split at q
 ·obtain⟨v,rfl,a⟩:=DRs.one hd;exact h _ _ F H Q hs (DR.un a) q
 ·exact q.elim
theorem zrg_ {m:List V->Hp->VK->Prop}{f:D->D->Mo D}(h:∀d e v w F H (Q:VK),Same F H->DR K d v F->DR K e w F->After K (f d e) E F H (OwnK (owD K) H Q)->m [v,w] H Q):BlD K m E (on2 f):=by
 intro ds vs F H Q hs hd q;unfold on2 at q;split at q
 ·obtain⟨v,w,rfl,a,b⟩:=DRs.two hd;exact h _ _ _ _ F H Q hs (DR.un a) (DR.un b) q
 ·exact q.elim
def lenD:List D->Mo D:=on1 λd=>match d with
 |.str l=>.lim l.length (.ok (.int l.length))
 |.nd .lst xs=>.ok (.int xs.length)
 |.nd .tup xs=>.ok (.int xs.length)
 |.nd .scr xs=>.ok (.int xs.length)
 |.nd .ktup xs=>.ok (.int xs.length)
 |_=>.no
theorem zpy_:BlD K (mLen K) E lenD:=ze3_ λd v F H Q hs hd q=>by
 split at q
 ·cases hd.str;obtain⟨c,q⟩:=q.lim;exact⟨c,gotI q hs⟩
 ·obtain⟨p,us,rfl,n,r⟩:=hd.nd;exact⟨us,.inl (.of (hs _ _ n)),by rw[<- r.len];exact gotI q hs⟩
 ·obtain⟨p,us,rfl,n,r⟩:=hd.nd;exact⟨us,.inr (.of (hs _ _ n)),by rw[<- r.len];exact gotI q hs⟩
 ·obtain⟨p,us,rfl,n,r⟩:=hd.nd;exact⟨us,.inl (hs.seq n),by rw[<- r.len];exact gotI q hs⟩
 ·obtain⟨p,us,rfl,n,r⟩:=hd.nd;exact⟨us,.inr (.inr n),by rw[<- r.len];exact gotI q hs⟩
 ·exact q.elim
def dlenD:List D->Mo D:=on1 λd=>match d with |.nd (.dct ks) xs=>.ok (.int xs.length)|_=>.no
theorem zls_:BlD K mLenD E dlenD:=ze3_ λd v F H Q hs hd q=>by
 split at q
 ·rename_i ks xs
  obtain⟨p,us,rfl,n,r⟩:=hd.nd;refine⟨_,hs _ _ n.1,?_⟩;rw[show(ks.zip us).length=xs.length from by rw[mX,n.2.1,oI,r.len]]
  exact gotI q hs
 ·exact q.elim
def minD:List D->Mo D:=on2 λa b=>match a,b with |.int i,.int j=>.ok (.int (min i j))|_,_=>.no
theorem zrn_:BlD K (mTwo min) E minD:=zrg_ λd e v w F H Q hs hd he q=>by
 split at q
 ·cases hd.int;cases he.int;exact gotI q hs
 ·exact q.elim
def strD:List D->Mo D:=on1 λd=>match d with |.int i=>.grd (i.natAbs.log2<1920) (.ok (.str (strI i)))|_=>.no
theorem zqY_:BlD K mStr E strD:=ze3_ λd v F H Q hs hd q=>by
 split at q
 ·cases hd.int;obtain⟨c,q⟩:=q.grd;exact⟨c,gotS q hs⟩
 ·exact q.elim
abbrev MeD (K:mh)(m:V->List V->Hp->VK->Prop)(E:XK)(g:List Nat->List D->Mo D):Prop:=MeO K m E (csD K) g (owD K)
def strOf (d:D):Mo (List Nat):=match d.un with |.str l=>.ok l |_=>.no
theorem ex_me {m:V->List V->Hp->VK->Prop}{g:List Nat->List D->Mo D}(o:MeD K m E g)(h0:EvX K t E env r)(h:EvAs K ta E env ra):EvX K (tBM K "str" m t ta) E env (r.bind λd=>(strOf d).bind λl=>ra.bind λc=>g l c):=by
 intro σ F H Q hL hs q;refine ex_v h0 σ F H _ hL hs (q.bind.imp λd F1 H1 x1 k1 v hv=>?_)
 have ha:=DR.un hv;unfold strOf at k1;split at k1
 ·rename_i l e;rw[e]at ha;cases ha.str
  refine⟨?_,?_⟩
  ·exact rfl
  ·refine zhg_ h σ F1 H1 _ (hL.mono x1.1) x1.2.1 (After.imp (After.bind (show After K (ra.bind λc=>g l c) E F1 H1 _ from k1)) λc F2 H2 x2 k2 vs cF=>?_)
   exact o l c vs F2 H2 Q x2.2.1 cF (k2.imp λa F3 H3 x3 k3=>k3.back (x1.2.2.1.trans x2.2.2.1))
 ·exact k1.elim
end
noncomputable def Nd.own:Nd->Bool
 |.scr=>vn |.ktup=>vn |_=>vm
def D.at:D->List Nat->Option D
 |d,[]=>vj d
 |.nd k ds,i::js=>bif k.own then ds[i]?.bind λd=>d.at js else vk
 |_,_=>vk
theorem zbi_ {k:Nd}{ds:List D}{j:Nat}{js:List Nat}:(D.nd k ds).at (j::js)=bif k.own then ds[j]?.bind λd=>d.at js else vk:=by rw[D.at]
def kidsO:HO->List V
 |.tup us=>us |.lst us=>us |.dK kvs=>kvs.map (·.2)|.ins _ _ fs=>fs.map (·.2)|_=>[]
def vAt (H:Hp):V->List Nat->Option V
 |v,[]=>vj v
 |v,j::js=>(match v with |.ref p=>(H p).bind λo=>(kidsO o)[j]? |_=>vk).bind λw=>vAt H w js
noncomputable def D.put:D->List Nat->D->D
 |_,[],x=>x
 |.nd k ds,i::js,x=>(match ds[i]? with |some d=>.nd k (ds.set i (d.put js x))|none=>.nd k ds)
 |d,_,_=>d
section
variable {K:mR}{F F' h h1 h2 H H':Hp}{d:D}{ds:List D}{v:V}{us:List V}{k:Nd}{p:lE}
theorem ODs.focus:∀{ds:List D}{us:List V}{h:Hp}{i:Nat}{c:D},ODs K ds us F h->ds[i]?=vj c ->
  ∃u h1 h2,us[i]?=vj u/\Jn h1 h2 h/\OD K c u F h1/\∀c' F' u' h1' h',Same F F'->OD K c' u' F' h1'->Jn h1' h2 h'->ODs K (ds.set i c') (us.set i u') F' h'
 |[],_,_,_,_,_,e=>by simp at e
 |d::ds,_,h,0,c,q,e=>by
  unfold ODs at q;obtain⟨v,vs,h1,h2,rfl,j,a,r⟩:=q;simp at e;subst e;refine⟨v,h1,h2,rfl,j,a,λc' F' u' h1' h' g o j'=>?_⟩
  rw[oq,oq];unfold ODs;exact⟨u',vs,h1',h2,rfl,j',o,OD.mono.go g r⟩
 |d::ds,_,h,i+1,c,q,e=>by
  unfold ODs at q;obtain⟨v,vs,h1,h2,rfl,j,a,r⟩:=q;obtain⟨u,k1,k2,e1,j1,o1,f⟩:=ODs.focus r (by simpa using e)
  obtain⟨m,jm,jh⟩:=zm_ j1 (z8_ j);refine⟨u,k1,m,by simpa using e1,jh,o1,λc' F' u' cj h' g o' j'=>?_⟩
  rw[oW,oW];unfold ODs;exact⟨v,vs.set i u',h1,un cj k2,rfl,jn_re jm j',a.mono g,f c' F' u' cj _ g o' (zah_ (dj_of jm j'))⟩
theorem zcL_ {α:Type}{l:List α}{i:Nat}{x:α}(h:l[i]?=vj x):l.set i x=l:=zkH_ h
theorem Cell.same (g:Same F F')(c:Cell K k p us F h):Cell K k p us F' h:=c.mono g.tups
theorem zjU_ {k:Nd}(hk:k.own=vm)(n:NdR K k p us H):∃o,H p=vj o/\kidsO o=us:=by
 cases k with
 |tup=>exact⟨_,n,rfl⟩
 |lst=>exact⟨_,n,rfl⟩
 |dct ks=>exact⟨_,n.1,qL (qU n.2.1.symm)⟩
 |obj c ns=>obtain⟨dx,e,l⟩:=n;exact⟨_,e,qL (qU l.symm)⟩
 |_=>cases hk
theorem zbP_ (g:Same H H'):∀{js:List Nat}{v u:V},vAt H v js=vj u->vAt H' v js=vj u
 |[],_,_,h=>h
 |j::js,v,u,h=>by
  unfold vAt at h ⊢;obtain⟨w,hw,h2⟩:=lI.mp h;clear h;cases v with
  |ref p=>
   obtain⟨o,ho,hw⟩:=lI.mp hw;dsimp only;rw[g _ _ ho];exact lI.mpr ⟨w,hw,zbP_ g h2⟩
  |_=>cases hw
theorem zgK_ {k:Nd}{j:Nat}{js:List Nat}{w u:V}(hk:k.own=vm)(n:NdR K k p us H)(hw:us[j]?=vj w)(h:vAt H w js=vj u):vAt H (.ref p) (j::js)=vj u:=by
 obtain⟨o,ho,e⟩:=zjU_ hk n;unfold vAt;dsimp only;rw[ho];exact lI.mpr ⟨w,by rw[<- e]at hw;exact hw,h⟩
theorem zdZ_ {k:Nd}{j:Nat}{w:V}(hk:k.own=vm)(n:NdR K k p us H)(hw:us[j]?=vj w):∀{js:List Nat}{v:V},vAt H v js=vj (.ref p)->vAt H v (js++[j])=vj w
 |[],_,h=>by cases h;exact zgK_ hk n hw rfl
 |i::js,v,h=>by
  rw[mK];unfold vAt at h ⊢;obtain⟨x,hx,h⟩:=lI.mp h;exact lI.mpr ⟨x,hx,zdZ_ hk n hw h⟩
theorem OD.focus:∀{js:List Nat}{d:D}{v:V}{h:Hp}{c:D},OD K d v F h->d.at js=vj c ->
  ∃u h1 h2,(∀H,Same F H->Same h H->vAt H v js=vj u)/\Jn h1 h2 h/\OD K c u F h1/\∀c' F' h1' h',Same F F'->OD K c' u F' h1'->Jn h1' h2 h'->OD K (d.put js c') v F' h'
 |[],d,v,h,c,q,e=>by
  unfold D.at at e;cases e;refine⟨v,h,λ_=>vk,λH _ _=>rfl,λp=>.inr ⟨rfl,rfl⟩,q,λc' F' h1' h' g o j=>?_⟩
  unfold D.put;have:h'=h1':=by
   funext p;rcases j p with⟨a,b⟩|⟨a,b⟩
   ·rw[a,b]
   ·exact b
  rw[this];exact o
 |i::js,.nd k ds,v,h,c,q,e=>by
  rw[zbi_]at e;cases hk:k.own with
  |false=>rw[hk]at e;cases e
  |true=>
  rw[hk,cond_true]at e;obtain⟨d',e1,e2⟩:=lI.mp e;unfold OD at q;obtain⟨p,us,h0,hr,rfl,cl,j,r⟩:=q;obtain⟨u1,k1,k2,eu,jk,o1,f⟩:=ODs.focus r e1;obtain⟨u,m1,m2,vp,jm,o2,g⟩:=OD.focus o1 e2;obtain⟨a,ja,jb⟩:=zm_ jm jk;obtain⟨b,jc,jd⟩:=zm_ jb (z8_ j);refine⟨u,m1,b,λH s1 s2=>zgK_ hk (cl.nd s1 (j.l.trans s2)) eu (vp H s1 (jk.l.trans (j.r.trans s2))),jd,o2,λc' F' h1' h' s o' j'=>?_⟩
  unfold D.put;rw[e1];dsimp only;unfold OD;have d1:Dj h1' a:=λq=>by
   rcases j'.dj q with z |z
   ·exact .inl z
   ·exact .inr (jc.l.free z)
  have d2:Dj h1' m2:=λq=>by
   rcases d1 q with z |z
   ·exact .inl z
   ·exact .inr (ja.l.free z)
  have jx:Jn (un h1' m2) k2 (un h1' a):=λq=>by
   unfold un;rcases ja q with⟨z,w⟩|⟨z,w⟩
   ·rw[z]
    cases y:h1' q with
    |none=>left;exact⟨rfl,w⟩
    |some o=>
     right;rcases d1 q with t |t
     ·rw[t]at y;cases y
     ·rw[w]at t;exact⟨t,rfl⟩
   ·right
    refine⟨z,?_⟩;cases y:h1' q with
    |none=>exact w
    |some o=>rfl
  have on:=g c' F' h1' (un h1' m2) s o' (zah_ d2);have rn:=f _ F' u1 _ (un h1' a) s on jx;rw[zcL_ eu]at rn;refine⟨p,us,h0,un h1' a,rfl,cl.same s,?_,rn⟩;intro q;unfold un;rcases j' q with⟨z,w⟩|⟨z,w⟩
  ·rw[z,w]
   rcases jc q with⟨y,t⟩|⟨y,t⟩
   ·right;exact⟨y,t⟩
   ·left;exact⟨y,t⟩
  ·rw[w]
   have z0:h0 q=vk:=jc.r.free z;left;refine⟨z0,?_⟩;cases y:h1' q with
   |none=>exact(jc.l.free z).symm
   |some o=>rfl
 |_::_,.non,_,_,_,_,e=>by simp[D.at]at e
 |_::_,.bl _,_,_,_,_,e=>by simp[D.at]at e
 |_::_,.int _,_,_,_,_,e=>by simp[D.at]at e
 |_::_,.str _,_,_,_,_,e=>by simp[D.at]at e
 |_::_,.fz _,_,_,_,_,e=>by simp[D.at]at e
 |_::_,.pin _,_,_,_,_,e=>by simp[D.at]at e
 |_::_,.gone,_,_,_,_,e=>by simp[D.at]at e
theorem Hold.atG:∀{L:List Sl}{σ:L2.St}{h:Hp}{i:Nat}{s:Sl},Hold L σ F h->L[i]?=vj s ->
  ∃o h1 h2,σ[i]?=vj o/\Jn h1 h2 h/\s.P o F h1/\∀s' o' F' h1' h',Same F F'->s'.P o' F' h1'->Jn h1' h2 h'->Hold (L.set i s') (σ.set i o') F' h'
 |[],_,_,_,_,_,e=>by simp at e
 |s::L,[],_,_,_,q,_=>q.elim
 |s::L,o::σ,h,0,t,q_,e=>by
  obtain⟨h1,h2,j,p,r⟩:=q_;simp at e;subst e;exact⟨o,h1,h2,rfl,j,p,λs' o' F' h1' h' g p' j'=>⟨h1',h2,j',p',r.mono g⟩⟩
 |s::L,o::σ,h,i+1,t,q_,e=>by
  obtain⟨h1,h2,j,p,r⟩:=q_;obtain⟨o1,k1,k2,e1,j1,p1,f⟩:=Hold.atG r (by simpa using e)
  obtain⟨m,jm,jh⟩:=zm_ j1 (z8_ j);exact⟨o1,k1,m,by simpa using e1,jh,p1,λs' o' F' cj h' g aJ j'=>⟨h1,un cj k2,jn_re jm j',p.mono g,f s' o' F' cj _ g aJ (zah_ (dj_of jm j'))⟩⟩
theorem Hold.more:∀{L:List Sl}{σ:L2.St}{h g h':Hp},Hold L σ F h->Jn g h h'->Hold L σ F h'
 |[],[],_,_,_,_,_=>trivial
 |s::L,[],_,_,_,q,_=>q.elim
 |[],_::_,_,_,_,q,_=>q.elim
 |s::L,o::σ,h,g,h',q_,j'=>by
  obtain⟨h1,h2,j,p,r⟩:=q_;obtain⟨m,jm,jh⟩:=zm_ j (z8_ j');exact⟨h1,m,jh,p,Hold.more r (z8_ jm)⟩
noncomputable abbrev Ws:=Nat->Option V
def slotW (K:mh)(w:Option V)(o:Option D):Sl:=match o with
 |none=>.dead
 |some d=>(match w with |none=>.ow (owD K) d |some u=>.ow (owAt u (owD K)) d)
abbrev LofW (K:mh)(ws:Ws)(env:Env):List Sl:=env.mapIdx λi o=>slotW K (ws i) o
variable {ws:Ws}{env:Env}{σ:L2.St}{i:Nat}{js:List Nat}{c:D}
theorem zbw_ {o:Option D}(ho:env[i]?=vj o):(LofW K ws env)[i]?=vj (slotW K (ws i) o):=by
 rw[p9,ho];rfl
theorem zcO_ {o:Option D}:(LofW K ws env).set i (slotW K (ws i) o)=LofW K ws (env.set i o):=by
 refine qy λj=>?_
 rw[nO,p9,p9,nO,List.length_mapIdx];by_cases e:i=j
 ·subst e;rw[if_pos rfl,if_pos rfl];split<;>rfl
 ·rw[if_neg e,if_neg e]
theorem zmS_ {w:Option V}{o:Option D}{x:Option V}(h:(slotW K w o).Z x F):(slot K o).Z x F:=by
 cases o with
 |none=>trivial
 |some d=>cases w with |none=>exact h |some u=>exact h
theorem zcr_ (h:HoldF (LofW K ws env) σ F):HoldF (Lof K env) σ F:=by
 intro i s e;rw[lK]at e;cases z:env[i]? with
 |none=>rw[z]at e;cases e
 |some o=>
  rw[z]at e;cases e;exact zmS_ (h i _ (zbw_ z))
theorem zdd_ {w:Option V}{d:D}{x:Option V}(h:(slotW K w (vj d)).P x F h1):∃v,x=vj v/\(∀u,w=vj u->v=u)/\OD K d v F h1:=by
 cases w with
 |none=>obtain⟨v,e,o⟩:=h;exact⟨v,e,(λu z=>by cases z),o⟩
 |some u=>obtain⟨v,e,z,o⟩:=h;exact⟨v,e,(λu' y=>by cases y;exact z),o⟩
theorem zcH_ {w:Option V}{d:D}{v:V}(hw:∀u,w=vj u->v=u)(o:OD K d v F h1):(slotW K w (vj d)).P (vj v) F h1:=by
 cases w with
 |none=>exact⟨v,rfl,o⟩
 |some u=>exact⟨v,rfl,hw u rfl,o⟩
theorem zb6_ (hL:Hold (LofW K ws env) σ F h)(hi:env[i]?=vj (vj d))(hc:d.at js=vj c):
  ∃v u h1 h2,σ[i]?=vj (vj v)/\(∀H,Same F H->Same h H->vAt H v js=vj u)/\Jn h1 h2 h/\OD K c u F h1/\∀c' F' h1' h',Same F F'->OD K c' u F' h1'->Jn h1' h2 h'->Hold (LofW K ws (env.set i (vj (d.put js c')))) σ F' h':=by
 obtain⟨o,k1,k2,e1,j,pp,f⟩:=Hold.atG hL (zbw_ hi);obtain⟨v,rfl,hv,od⟩:=zdd_ pp;obtain⟨u,m1,m2,vp,jm,o1,g⟩:=od.focus hc;obtain⟨a,ja,jb⟩:=zm_ jm j;refine⟨v,u,m1,a,e1,(λH s1 s2=>vp H s1 (j.l.trans s2)),jb,o1,λc' F' h1' h' s o' j'=>?_⟩
 have d1:Dj h1' m2:=λq=>by
  rcases j'.dj q with z |z
  ·exact .inl z
  ·exact .inr (ja.l.free z)
 have:=f (slotW K (ws i) (vj (d.put js c'))) (vj v) F' (un h1' m2) h' s (zcH_ hv (g c' F' h1' _ s o' (zah_ d1))) ?_
 ·rw[zcO_,zcL_ e1]at this;exact this
 ·intro q
  unfold un;rcases j' q with⟨z,w⟩|⟨z,w⟩
  ·rw[z,w]
   rcases ja q with⟨y,t⟩|⟨y,t⟩
   ·left;exact⟨y,t⟩
   ·right;exact⟨y,t⟩
  ·rw[w]
   have z0:k2 q=vk:=ja.r.free z;right;refine⟨z0,?_⟩;cases y:h1' q with
   |none=>exact(ja.l.free z).symm
   |some o=>rfl
end
inductive Mr (s α:Type) where
 |ok (a:α) (t:s)|ex (c:Xc) (t:s)|no
noncomputable abbrev Fn:=List D->Mr (List D) D
def Fn.val (f:Fn)(ds:List D):Mo D:=match f ds with |.ok d _=>.ok d |.ex c _=>.ex c |.no=>.no
section
variable {K:mR}{E:XK}{F F' F0 H0 h h1 h2 H H':Hp}{d:D}{ds:List D}{v:V}{us vs:List V}{k:Nd}{p:lE}{Q:VK}{env:Env}{t:TE}{r:Mo D}{ta:TA}{ra:Mo (List D)}{f:Fn}
def FinC (K:mh)(r:Mr (List D) D)(E:XK)(F0 H0:Hp)(vs:List V)(Q:VK):Prop:=match r with
 |.ok d ds=>∀v F h H hr h2,Okk F0 H0 F h H->Jn hr h2 h->OD K d v F hr->ODs K ds vs F h2->Q v H
 |.ex c ds=>∀F h H,Okk F0 H0 F h H->ODs K ds vs F h->Tell K E c H0 F H
 |.no=>False
def CtG (K:mh)(f:Fn):Sp:=λvs H Q E=>∃F h ds,Same F H/\Dj F h/\Same h H/\ODs K ds vs F h/\FinC K (f ds) E F (less H h) vs Q
theorem zmO_ (hn:∀p,h p=vk):less H h=H:=funext λp=>zab_ (hn p)
theorem zfC_ (hs:Same F H)(hd:DRs K ds vs F)(q:After K (f.val (ds.map D.vw)) E F H (OwnK (owD K) H Q)):CtG K f vs H Q E:=by
 refine⟨F,λ_=>vk,ds.map D.vw,hs,λ_=>.inr rfl,(λp o z=>by cases z),ODs.vw (λ_=>rfl) hd,?_⟩
 rw[zmO_ λ_=>rfl]
 unfold Fn.val at q;cases e:f (ds.map D.vw)with
 |no=>rw[e]at q;exact q
 |ok d ds'=>
  rw[e]at q;intro v F' h' H' hr h2 ok j o _;refine q F' H' ok.1 v hr (λp z=>ok.2.2.2.1 p ?_) (dj_l ok.2.1 j) (j.l.trans ok.2.2.1) o
  cases y:hr p with
  |none=>exact absurd y z
  |some w=>rw[j.l _ _ y];exact sN _
 |ex c ds'=>rw[e]at q;exact λF' h' H' ok _=>q F' H' ok.1
theorem znt_ (h:EvAs K ta E env ra):EvX K (tCall (CtG K f) [] E ta) E env (ra.bind λds=>f.val (ds.map D.vw)):=by
 intro σ F H Q hL hs q;refine zhg_ h σ F H _ hL hs (q.bind.imp λds F1 H1 x1 k1 vs cF=>?_)
 rw[nG];exact zfC_ x1.2.1 cF (k1.imp λr F2 H2 x2 k2=>k2.back x1.2.2.1)
theorem zcA_:∀{ns:List Str}{us:List V}{f:Str}{v:V},us[ns.idxOf f]?=vj v->ns.length=us.length->(ns.zip us).lookup f=vj v
 |[],us,f,v,h,l=>by cases us with |nil=>simp at h |cons=>simp at l
 |n::ns,[],f,v,h,l=>by simp at l
 |n::ns,u::us,f,v,h,l=>by
  rw[mf,p4];by_cases e:n=f
  ·subst e;simp at h;simp[h]
  ·rw[tG,show(n == f)=vn from beq_eq_false_iff_ne.mpr e,cond_false,nr]at h
   rw[show(f == n)=vn from beq_eq_false_iff_ne.mpr λz=>e z.symm]
   exact zcA_ h (by simpa using l)
def tFld (K:mh)(cs:List Str)(t:TE)(f:Str):TE:=λσ H Q=>∃c∈cs,mFld (gA K c) t f σ H Q
def fldD (cs:List Str)(f:Str)(d:D):Mo D:=match d.un with
 |.nd (.obj c ns) ds=>if c∈cs then .opt ((ds[ns.idxOf f]?).map .vw)else .no
 |_=>.no
theorem zp3_ {cs:List Str}{f:Str}(h0:cs≠[])(hx:EvX K t E env r):EvX K (tFld K cs t f) E env (r.bind (fldD cs f)):=by
 intro σ F H Q hL hs q;have main:∀c∈cs,(∀d,r=.ok d->∃ns ds,d.un=.nd (.obj c ns) ds)->tFld K cs t f σ H Q:=λc hc hd=>⟨c,hc,by
  refine ex_v hx σ F H _ hL hs ?_;cases e:r with
  |no=>rw[e]at q;exact q
  |ex x=>rw[e]at q;exact q
  |ok d=>
   obtain⟨ns,ds,e2⟩:=hd d e;rw[e]at q;intro F1 H1 x1 v hv;have hv:=DR.un hv;rw[e2]at hv;obtain⟨p,us,rfl,⟨dx,hp,l⟩,rs⟩:=hv.nd;have q:After K (fldD cs f d) E F H _:=q;unfold fldD at q;rw[e2]at q;dsimp only at q;rw[if_pos hc]at q;obtain⟨d',e3,q⟩:=q.opt;obtain⟨d0,e4,rfl⟩:=lJ.mp e3;rcases rs.get (ns.idxOf f)with⟨z,_⟩|⟨d1,w,g1,g2,g3⟩
   ·rw[z]at e4;cases e4
   ·rw[g1]at e4;cases e4
    refine⟨dx,_,w,x1.2.1 _ _ hp,zcA_ g2 l,?_⟩;exact gotV (E:=E) (λF2 H2 x2=>(q F2 H2 (x1.trans x2)).back x1.2.2.1) x1.2.1 g3⟩
 cases e:r with
 |no=>rw[e]at q;exact q.elim
 |ok d=>
  rw[e]at q;have q':After K (fldD cs f d) E F H (OwnK (owD K) H Q):=q;unfold fldD at q';split at q'
  ·rename_i c ns ds e2
   by_cases hc:c∈cs
   ·exact main c hc λd' z=>by rw[e]at z;cases z;exact⟨ns,ds,e2⟩
   ·rw[if_neg hc]at q';exact q'.elim
  ·exact q'.elim
 |ex x=>
  cases cs with
  |nil=>exact absurd rfl h0
  |cons c cs=>exact main c (lW ..) λd' z=>by rw[e]at z;cases z
def walkD (d:D):Mo (List D):=match d.un with
 |.str l=>.ok (l.map λc=>.str [c])
 |.nd .lst xs=>.ok xs
 |.nd .tup xs=>.ok xs
 |.nd .scr xs=>.ok xs
 |.nd .ktup xs=>.ok xs
 |_=>.no
theorem yl_L {F1:Hp}(hl:SqL K F1 p us)(r:DRs K ds us F1):Yl K (Itl K p) ds (tyD K) F1:=by
 refine⟨λi H x hH hx=>?_,λH hH=>⟨us,hH.seq hl,by rw[r.len];exact lC _⟩⟩
 rcases r.get i with⟨a,_⟩|⟨y,u,a,b,c⟩
 ·rw[a]at hx;cases hx
 ·rw[a]at hx;cases hx
  refine⟨⟨us,u,hH.seq hl,b⟩,?_⟩;rintro v H' ⟨rfl,z⟩ F hF bD;have e:=z us (hH.seq hl);rw[b]at e;cases e;exact⟨F,.refl bD,(tyD K).mono hF c⟩
theorem yl_T {F1:Hp}(hl:∀H,Same F1 H->SqT K H p us)(r:DRs K ds us F1):Yl K (Itt K p) ds (tyD K) F1:=by
 refine⟨λi H x hH hx=>?_,λH hH=>⟨us,hl H hH,by rw[r.len];exact lC _⟩⟩
 rcases r.get i with⟨a,_⟩|⟨y,u,a,b,c⟩
 ·rw[a]at hx;cases hx
 ·rw[a]at hx;cases hx
  refine⟨⟨us,u,hl H hH,b⟩,?_⟩;rintro v H' ⟨rfl,z⟩ F hF bD;have e:=z us (hl _ hH);rw[b]at e;cases e;exact⟨F,.refl bD,(tyD K).mono hF c⟩
def iAnyW (K:mh)(vs:List V)(σ:L2.St)(H1:Hp)(R:It->Hp->Prop):Prop:=match vs with |[x]=>iAny K (tC x) σ H1 R |_=>False
def WkW (K:mh)(E:XK)(wi:List V->L2.St->Hp->(It->Hp->Prop)->Prop)(g:List D->Mo (List D)):Prop:=
 ∀ds vs σ F1 H1 R,Same F1 H1->DRs K ds vs F1->After K (g ds) E F1 H1 (λxs F' H'=>∀J,Yl K J xs (tyD K) F'->R J H')->wi vs σ H1 R
theorem ei_w {wi:List V->L2.St->Hp->(It->Hp->Prop)->Prop}{g:List D->Mo (List D)}(w:WkW K E wi g)(hx:EvAs K ta E env ra):EvI K (λσ H R=>ta σ H λvs H1=>wi vs σ H1 R) E (Lof K env) (ra.bind g) (tyD K):=by
 intro σ F H R hL hs q;exact zhg_ hx σ F H _ hL hs (q.bind.imp λds F1 H1 x1 k1 vs hv=>w ds vs σ F1 H1 R x1.2.1 hv k1)
def walkA (ds:List D):Mo (List D):=match ds with |[d]=>walkD d |_=>.no
theorem w_any:WkW K E (iAnyW K) walkA:=by
 intro ds vs σ F1 H1 R x1 hv k1;unfold walkA at k1;split at k1
 rotate_left
 ·exact k1.elim
 obtain⟨v,rfl,aM⟩:=DRs.one hv;have ha:=DR.un aM;unfold walkD at k1;split at k1
 ·rename_i l e;rw[e]at ha;cases ha.str
  refine k1.ok x1 _ ⟨λi H x hH hx=>?_,λH hH=>?_⟩
  ·rw[lK]at hx
   cases e:l[i]? with
   |none=>rw[e]at hx;cases hx
   |some c=>
    rw[e]at hx;cases hx;have hi:=(lO.mp e).1;refine⟨hi,?_⟩;rintro v H' ⟨rfl,rfl⟩ F _ hF;refine⟨F,.refl hF,?_⟩;show DR K (.str [c]) (tx [l.getD i 0]) F
    rw[lZ,e];unfold DR;rfl
  ·show l.length<=_
   rw[lq];exact lC _
 ·rename_i e;rw[e]at ha;obtain⟨p,us,rfl,n,r⟩:=ha.nd
  exact .inl ⟨⟨us,.of (x1 _ _ n)⟩,k1.ok x1 _ (yl_L (.of n) r)⟩
 ·rename_i e;rw[e]at ha;obtain⟨p,us,rfl,n,r⟩:=ha.nd
  exact .inr ⟨⟨us,.of (x1 _ _ n)⟩,k1.ok x1 _ (yl_T (λH hH=>.of (hH _ _ n)) r)⟩
 ·rename_i e;rw[e]at ha;obtain⟨p,us,rfl,n,r⟩:=ha.nd
  exact .inl ⟨⟨us,x1.seq n⟩,k1.ok x1 _ (yl_L n r)⟩
 ·rename_i e;rw[e]at ha;obtain⟨p,us,rfl,n,r⟩:=ha.nd
  exact .inr ⟨⟨us,.inr n⟩,k1.ok x1 _ (yl_T (λH hH=>.inr n) r)⟩
 ·exact k1.elim
theorem zi6_ {lo:Int}{n:Nat}{F1:Hp}:Yl K (Itr lo n) ((rngI lo n).map D.int) (tyD K) F1:=by
 have y:=zo0_ (K:=K) (lo:=lo) (n:=n) (F1:=F1);refine⟨λi H x hH hx=>?_,λH hH=>by rw[lq];exact y.stop H hH⟩
 rw[lK]at hx;obtain⟨a,ha,rfl⟩:=lJ.mp hx;obtain⟨g,z⟩:=y.go i H a hH ha;refine⟨g,λv H' q F hF bD=>?_⟩
 obtain⟨F',x',e⟩:=z v H' q F hF bD;exact⟨F',x',by show DR K _ _ _;unfold DR;exact e⟩
def rng1D (ds:List D):Mo (List D):=match ds with
 |[d]=>(intD d).bind λj=>.grd (-(2 ^ 62)<=j/\j<2 ^ 62) (.ok ((rngI 0 j.toNat).map .int))
 |_=>.no
def rng2D (ds:List D):Mo (List D):=match ds with
 |[c,d]=>(intD c).bind λi=>(intD d).bind λj=>.grd (-(2 ^ 62)<=i/\i<2 ^ 62 /\ -(2 ^ 62)<=j/\j<2 ^ 62) (.ok ((rngI i (j-i).toNat).map .int))
 |_=>.no
theorem zdh_ {α:Type}{k:Int->Mo α}{kk:α->Hp->Hp->Prop}(q:After K ((intD d).bind k) E F H kk)(hd:DR K d v H'):∃i,v=.int i/\After K (k i) E F H kk:=by
 have hd:=DR.un hd;unfold intD at q;split at q
 ·rename_i i e;rw[e]at hd;exact⟨i,hd.int,q⟩
 ·exact q.elim
theorem w_rg1:WkW K E (λvs _ H1 R=>match vs with |[.int j] => -(2 ^ 62)<=j/\j<2 ^ 62/\R (Itr 0 j.toNat) H1 |_=>False) rng1D:=by
 intro ds vs σ F1 H1 R x1 hv k1;unfold rng1D at k1;split at k1
 ·obtain⟨v,rfl,a⟩:=DRs.one hv
  obtain⟨i,rfl,k1⟩:=zdh_ k1 a;obtain⟨z,k1⟩:=k1.grd;exact⟨z.1,z.2,k1.ok x1 _ zi6_⟩
 ·exact k1.elim
theorem w_rg2:WkW K E (λvs _ H1 R=>match vs with |[.int i,.int j]=>(-(2 ^ 62)<=i/\i<2 ^ 62 /\ -(2 ^ 62)<=j/\j<2 ^ 62)/\R (Itr i (j-i).toNat) H1 |_=>False) rng2D:=by
 intro ds vs σ F1 H1 R x1 hv k1;unfold rng2D at k1;split at k1
 ·obtain⟨v,v',rfl,a,b⟩:=DRs.two hv
  obtain⟨i,rfl,k1⟩:=zdh_ k1 a;obtain⟨j,rfl,k1⟩:=zdh_ k1 b;obtain⟨z,k1⟩:=k1.grd;exact⟨z,k1.ok x1 _ zi6_⟩
 ·exact k1.elim
def enumD (ds:List D):Mo (List D):=match ds with
 |[d]=>(match d.un with
  |.nd .lst xs=>.ok ((enumL xs).map λq=>.nd .tup [.int q.1,q.2])
  |.str l=>.ok ((enumL l).map λq=>.nd .tup [.int q.1,.str [q.2]])
  |_=>.no)
 |_=>.no
theorem w_en:WkW K E (λvs _ H1 R=>match vs with |[.str z]=>R (Ites z.cps.toList.length (λi=>tx [z.cps.toList.getD i 0])) H1 |[.ref a]=>(∃xs,SqL K H1 a xs)/\R (Ite K a) H1 |_=>False) enumD:=by
 intro ds vs σ F1 H1 R x1 hv k1;unfold enumD at k1;split at k1
 ·rename_i d
  obtain⟨v,rfl,a⟩:=DRs.one hv;have a:=DR.un a;split at k1
  ·rename_i xs e;rw[e]at a;obtain⟨p,us,rfl,n,r⟩:=a.nd
   refine⟨⟨us,.of (x1 _ _ n)⟩,k1.ok x1 _ ⟨λi H x hH hx=>?_,λH hH=>?_⟩⟩
   ·rw[lK,zbJ_]at hx
    rcases r.get i with⟨a,_⟩|⟨y,u,a,b,c⟩
    ·rw[a]at hx;cases hx
    ·rw[a]at hx;cases hx
     refine⟨⟨us,u,.of (hH _ _ n),b⟩,?_⟩;rintro v H' ⟨p2,w,z,cH,rfl,rfl⟩ F hF bD;have e:=z us (.of (hH _ _ n));rw[b]at e;cases e;have x:=Ext.new (o:=.tup [.int i,u]) bD cH;refine⟨_,x,?_⟩;show DR K _ _ _
     unfold DR;refine⟨p2,_,rfl,zh_,?_⟩;unfold DRs;refine⟨_,_,rfl,by unfold DR;rfl,?_⟩
     unfold DRs;exact⟨u,[],rfl,c.mono (hF.trans x.1),by unfold DRs;rfl⟩
   ·refine⟨us,.of (hH _ _ n),?_⟩
    rw[lq,zy_,r.len];exact lC _
  ·rename_i l e;rw[e]at a;cases a.str
   refine k1.ok x1 _ ⟨λi H x hH hx=>?_,λH hH=>?_⟩
   ·rw[lK,zbJ_]at hx
    cases e:l[i]? with
    |none=>rw[e]at hx;cases hx
    |some c=>
     rw[e]at hx;cases hx;have hi:=(lO.mp e).1;refine⟨hi,?_⟩;rintro v H' ⟨p2,cH,rfl,rfl⟩ F hF bD;have x:=Ext.new (o:=.tup [.int i,tx [l.getD i 0]]) bD cH;refine⟨_,x,?_⟩;show DR K _ _ _
     unfold DR;refine⟨p2,_,rfl,zh_,?_⟩;unfold DRs;refine⟨_,_,rfl,by unfold DR;rfl,?_⟩
     unfold DRs;refine⟨_,[],rfl,?_,by unfold DRs;rfl⟩
     rw[lZ,e];unfold DR;rfl
   ·show l.length<=_
    rw[lq,zy_];exact lC _
  ·exact k1.elim
 ·exact k1.elim
structure Tg where
 tup:Bool
 is:List Nat
def tgD (g:Tg)(d:D):Option (List D):=if g.tup then(match d.un with |.nd .tup ds=>if ds.length=g.is.length then vj ds else vk |_=>vk)else if g.is.length=1 then vj [d]else vk
def tgS:List Nat->TGs
 |[]=>gNilM
 |i::is=>gConsM (gName i) (tgS is)
def tgT (K:mh)(g:Tg):TG:=if g.tup then gTupM K g.is.length (tgS g.is)else gName (g.is.headD 0)
def tyTg (K:mh)(g:Tg):Ty (List D):=⟨λds v F=>ds.length=g.is.length/\if g.tup then∃p us,v=.ref p/\F p=vj (.tup us)/\DRs K ds us F else DRs K ds [v] F,
 λ{ds v H H'} s q=>⟨q.1,by
  have q:=q.2;split at q
  ·rename_i e;rw[if_pos e];obtain⟨p,us,e1,e2,e3⟩:=q;exact⟨p,us,e1,s _ _ e2,e3.mono s⟩
  ·rename_i e;rw[if_neg e];exact q.mono s⟩⟩
def ssT (K:mh)(is:List Nat)(ds:List D):List (Nat×Sl):=is.zip (ds.map λd=>.fz (tyD K) d)
theorem tgs_R:∀{is:List Nat}{ds:List D}{us:List V}{σ:L2.St}{F H:Hp}{Q:L2.St->Hp->Prop},ds.length=is.length->DRs K ds us F->(∀vs,Plain F (ssT K is ds) vs->Q (setS σ vs) H)->tgS is us σ H Q
 |[],[],us,σ,F,H,Q,_,r,q=>by unfold DRs at r;subst r;exact q [] .nil
 |i::is,d::ds,us,σ,F,H,Q,l,r,q=>by
  unfold DRs at r;obtain⟨v,vs,rfl,a,r⟩:=r;exact tgs_R (σ:=σ.set i (vj v)) (by simpa using l) r λws hw=>q ((i,vj v)::ws) (.cons a hw)
 |[],_::_,_,_,_,_,_,l,_,_=>by simp at l
 |_::_,[],_,_,_,_,_,l,_,_=>by simp at l
theorem tg_R (g:Tg):TgR K (tgT K g) (tyTg K g) (ssT K g.is):=by
 rintro ds v σ F H Q hs ⟨hl,hd⟩ q;unfold tgT;split at hd
 ·rename_i e;rw[if_pos e]
  obtain⟨p,us,rfl,hp,r⟩:=hd;exact⟨us,.of (hs _ _ hp),by rw[<- r.len,hl],tgs_R hl r q⟩
 ·rename_i e;rw[if_neg e]
  match h:g.is,ds,hl,hd,q with
  |[i],[d],_,hd,q=>
   obtain⟨_,e,a⟩:=DRs.one hd;cases e;exact q [(i,vj v)] (.cons a .nil)
  |[],ds,hl,hd,_=>rw[mJ.mp hl]at hd;unfold DRs at hd;cases hd
  |_::_::_,d::e::ds,_,hd,_=>unfold DRs at hd;obtain⟨_,_,z,_,r⟩:=hd;cases z;unfold DRs at r;obtain⟨_,_,z,_⟩:=r;cases z
def tgsD (g:Tg):List D->Option (List (List D))
 |[]=>vj []
 |d::ds=>(tgD g d).bind λx=>(tgsD g ds).map λxs=>x::xs
theorem tgD_R {g:Tg}{x:List D}(e:tgD g d=vj x)(h:DR K d v F):(tyTg K g).R x v F:=by
 unfold tgD at e;split at e
 ·rename_i z
  have h:=DR.un h;split at e
  ·rename_i ds e2
   rw[e2]at h;obtain⟨p,us,rfl,n,r⟩:=h.nd;split at e
   ·rename_i l;cases e;exact⟨l,by rw[if_pos z];exact⟨p,us,rfl,n,r⟩⟩
   ·cases e
  ·cases e
 ·rename_i z
  split at e
  ·rename_i l;cases e;exact⟨l.symm,by rw[if_neg z];unfold DRs;exact⟨v,[],rfl,h,by unfold DRs;rfl⟩⟩
  ·cases e
theorem zd7_ {g:Tg}:∀{ds:List D}{xs:List (List D)},tgsD g ds=vj xs->xs.length=ds.length/\∀(i:Nat) x,xs[i]?=vj x->∃d,ds[i]?=vj d/\tgD g d=vj x
 |[],_,e=>by cases e;exact⟨rfl,λi x h=>by simp at h⟩
 |d::ds,_,e=>by
  unfold tgsD at e;obtain⟨x,e1,e⟩:=lI.mp e;obtain⟨xs,e2,rfl⟩:=lJ.mp e;obtain⟨l,f⟩:=zd7_ e2;refine⟨by rw[lG,lG,l],λi y h=>?_⟩
  cases i with
  |zero=>simp at h;subst h;exact⟨d,rfl,e1⟩
  |succ i=>exact f i y (by simpa using h)
theorem ei_tg {wi:TI}{L:List Sl}{rs:Mo (List D)}(g:Tg)(h:EvI K wi E L rs (tyD K)):EvI K wi E L (rs.bind λl=>.opt (tgsD g l)) (tyTg K g):=by
 intro σ F H R hL hs q;refine h σ F H _ hL hs (q.bind.imp λds F1 H1 x1 k1 J Y=>?_)
 obtain⟨xs,e,k1⟩:=k1.opt;obtain⟨l,f⟩:=zd7_ e;refine k1.ok x1.2.1 J ⟨λi H x hH hx=>?_,λH hH=>by rw[l];exact Y.stop H hH⟩
 obtain⟨d,hd,e2⟩:=f i x hx;obtain⟨g1,z⟩:=Y.go i H d hH hd;refine⟨g1,λv H' q F hF bD=>?_⟩
 obtain⟨F',x',hv⟩:=z v H' q F hF bD;exact⟨F',x',tgD_R e2 hv⟩
def setE (env:Env):List Nat->List D->Env
 |i::is,d::ds=>setE (env.set i (vj d.vw)) is ds
 |_,_=>env
def cE (lv:List Str)(fr:List (Str×Nat))(env:Env):Env:=lv.map (λ_=>vk)++fr.map λq=>(env[q.2]?).join
theorem cL_eq {lv:List Str}{fr:List (Str×Nat)}:cL lv fr (Lof K env)=Lof K (cE lv fr env):=by
 unfold cL cE;show _=List.map (slot K) (_++_)
 rw[ng,mD,mD];congr 1;refine nS λq _=>?_
 simp only[Function.comp,lK];cases env[q.2]? with
 |none=>rfl
 |some o=>rfl
def LeZ (L L':List Sl):Prop:=∀(i:Nat) s',L'[i]?=vj s'->∃s,L[i]?=vj s/\∀o F,s.Z o F->s'.Z o F
theorem LeZ.hold {L L':List Sl}{σ:L2.St}(z:LeZ L L')(h:HoldF L σ F):HoldF L' σ F:=λi s' e=>by
 obtain⟨s,e1,e2⟩:=z i s' e;exact e2 _ _ (h i s e1)
theorem ziM_:∀{is:List Nat}{ds:List D}{L:List Sl}{env:Env},LeZ L (Lof K env)->LeZ (setL L (ssT K is ds)) (Lof K (setE env is ds))
 |[],_,_,_,z=>z
 |_::_,[],_,_,z=>z
 |i::is,d::ds,L,env,z=>by
  refine ziM_ (is:=is) (ds:=ds) (L:=L.set i (.fz (tyD K) d)) (env:=env.set i (vj d.vw)) ?_;intro j s' e;rw[lK,nO]at e;by_cases hj:i=j
  ·subst hj
   rw[if_pos rfl]at e;by_cases hl:i<env.length
   ·rw[if_pos hl]at e
    cases e;obtain⟨s,e1,_⟩:=z i _ (by rw[lK,lA hl];rfl)
    refine⟨.fz (tyD K) d,by rw[nA (lO.mp e1).1],?_⟩
    rintro o F ⟨v,e2,hv⟩;refine⟨v,e2,?_⟩;show DR K d.vw v F
    unfold D.vw;split
    ·exact hv
    ·split
     ·exact hv
     ·unfold DR;exact hv
   ·rw[if_neg hl]at e;cases e
  ·rw[if_neg hj]at e
   obtain⟨s,e1,e2⟩:=z j s' (by rw[lK];exact e)
   exact⟨s,by rw[l6 hj];exact e1,e2⟩
theorem zkF_ {L:List Sl}:LeZ L L:=λi s e=>⟨s,e,λ_ _ h=>h⟩
theorem zoR_ (h:(owLO (owD K)).O ds v F h1):OD K (.nd .lst ds) v F h1:=by
 obtain⟨p,vs,h2,rfl,j,q⟩:=h;unfold OD;have go:∀{ds:List D}{vs:List V}{h:Hp},OwAll (owD K) F ds vs h->ODs K ds vs F h:=λ{ds}=>by
  induction ds with
  |nil=>intro vs h q;cases vs with |nil=>unfold ODs;exact⟨rfl,q⟩|cons=>exact q.elim
  |cons d ds ih=>intro vs h q;cases vs with |nil=>exact q.elim |cons v vs=>obtain⟨h1,h2,j,a,r⟩:=q;unfold ODs;exact⟨v,vs,h1,h2,rfl,j,a,ih r⟩
 exact⟨p,vs,_,h2,rfl,rfl,j,go q⟩
theorem ziO_ {lv:List Str}{fr:List (Str×Nat)}{wi:TI}{g:Tg}{tt:TT}{te:TE}{rs:Mo (List D)}{c:List D->Mo Bool}{f:List D->Mo D}(hi:EvI K wi E (Lof K env) rs (tyD K))(hg:∀i∈g.is,i<lv.length)
  (ht:∀a,EvT K tt E0 (Lof K (setE (cE lv fr env) g.is a)) (c a)) (he:∀a,EvX K te E0 (setE (cE lv fr env) g.is a) (f a)):
  EvX K (tComp lv fr wi (tgT K g) tt te) E env ((rs.bind λl=>.opt (tgsD g l)).bind λxs=>(compM (λx=>cond1 (c x) (f x)) xs []).bind λys=>.ok (.nd .lst ys)):=by
 have z:∀a,LeZ (setL (cL lv fr (Lof K env)) (ssT K g.is a)) (Lof K (setE (cE lv fr env) g.is a)):=λa=>ziM_ (by rw[cL_eq];exact zkF_)
 have dead:∀a,DeadAt (cL lv fr (Lof K env)) ((ssT K g.is a).map (·.1)):=λa i hi s e=>by
  have:i∈g.is:=by
   obtain⟨q,hq,rfl⟩:=nW.mp hi;exact(oA hq).1
  have hl:=hg i this;unfold cL at e;rw[mU (by rw[lq];exact hl),lK,lA hl]at e
  cases e;rfl
 have:=zkc_ (lv:=lv) (fr:=fr) (ei_tg g hi) (tg_R g) dead (λa σ F H Q hL hs q=>ht a σ F H Q ((z a).hold hL) hs q) (λa σ F H Q hL hs q=>he a σ F H Q ((z a).hold hL) hs q)
 intro σ F H Q hL hs q;refine this σ F H Q hL hs ?_;have e:∀(m:Mo (List (List D))),(m.bind λxs=>(compM (λx=>cond1 (c x) (f x)) xs []).bind λys=>.ok (D.nd .lst ys))=(m.bind λxs=>compM (λx=>cond1 (c x) (f x)) xs []).bind λys=>.ok (.nd .lst ys):=λm=>(Mo.bind_assoc _ _ _).symm
 rw[e]at q;exact q.bind.imp λys F1 H1 x1 k1 v k cu dj s o=>k1.ok x1.2.1 v k cu dj s (zoR_ o)
end
def rDGet:R2:=λx y H Q=>atD x y H λ_ kvs k=>∃v,valV kvs k=vj v/\Q v H
def rDIn (neg:Bool):R2:=λy x H Q=>atD x y H λ_ kvs k=>Q (.bl (if neg then !(valV kvs k).isSome else(valV kvs k).isSome)) H
def rIxA (K:mh):R2:=λx y H Q=>mIx K x y H Q\/rDGet x y H Q
def rInA (K:mh)(neg:Bool):R2:=λx y H Q=>mIn K neg x y H Q\/rDIn neg x y H Q
def mLenA (K:mh):List V->Hp->VK->Prop:=λvs H Q=>mLen K vs H Q\/mLenD vs H Q
section
variable {X:Cx}
theorem zkV_ (hu:X.A.units+60<cLine):IxR X rDGet:=by
 intro value slice pins s σ H x y v u Q I rx ry h hs;obtain⟨a,kvs,k,rfl,rfl,hd,w,hw,q⟩:=zg1_ h;obtain rfl:v=mT a:=rx;have g:DGet H a (kV k) (vj w):=by rw[<- hw];exact DGet.k hd
 have hT:=zfc_ I g;unfold subscriptTail;refine ll ?_;rw[getitemInPython_of_ne hT.not_modules];refine ll (wpAny_specialOf hT PySem.F.slot_dict_getitem.lookup ?_);have fin:lX (model X.prog X.w) X.A (subscripted slice vn (.ref a) u) (λr ax=>lX (model X.prog X.w) X.A (letTemporaryGo value (.ref a) r>>=λ_=>pure r) (EP X pins σ Q) X.xe ax) X.xe s:=by
  rw[hs];exact wpAny_operating (m4 (zh7_ (Q:=EP X pins σ Q) (by lia) I g ry λw' s3 I3 bN=>⟨w,H,I3,bN,q⟩) (λr ax bT=>ll (wpAny_letTemporaryGo (lM bT))) λ_ _ x=>x)
 first
  |exact lM (ll fin)
  |exact ll (lM (ll fin))
  |exact ll fin
theorem ix_A (hu:X.A.units+60<cLine):IxR X (rIxA X.K):=λvalue slice pins s σ H x y v u Q I rx ry h hs=>by
 rcases h with h |h
 ·exact ix_M value slice pins s σ H x y v u Q I rx ry h hs
 ·exact zkV_ hu value slice pins s σ H x y v u Q I rx ry h hs
theorem zq9_ (hu:X.A.units+60<cLine):OpR X (l4 .In) (rInA X.K vn):=λpins s σ H x y v u Q I rx ry h=>by
 rcases h with h |h
 ·exact zpR_ pins s σ H x y v u Q I rx ry h
 ·obtain⟨a,kvs,k,rfl,rfl,hd,q⟩:=zg1_ h
  cases ry;exact d_in (by lia) I (DGet.k (k:=k) hd) rx λs3 I3=>⟨.bl (valV kvs k).isSome,H,I3,rfl,q⟩
theorem zhM_ (hu:X.A.units+60<cLine):OpR X (l4 .NotIn) (rInA X.K vm):=λpins s σ H x y v u Q I rx ry h=>by
 rcases h with h |h
 ·exact zhU_ pins s σ H x y v u Q I rx ry h
 ·obtain⟨a,kvs,k,rfl,rfl,hd,q⟩:=zg1_ h
  cases ry;exact zlw_ (by lia) I (DGet.k (k:=k) hd) rx λs3 I3=>⟨.bl (!(valV kvs k).isSome),H,I3,rfl,q⟩
theorem zhH_:CallR X (.builtin "len") (mLenA X.K):=λpins s σ H xs us Q I r h=>by
 rcases h with h |h
 ·exact zii_ pins s σ H xs us Q I r h
 ·exact zgS_ pins s σ H xs us Q I r h
end
section
variable {K:mR}{E:XK}{F F' h h1 h2 H H':Hp}{d:D}{ds:List D}{v:V}{us vs:List V}{k:Nd}{p:lE}{Q:VK}{env:Env}{t:TE}{r r1 r2:Mo D}{ta:TA}{ra:Mo (List D)}{f:Fn}
def isDct (d:D):Bool:=match d.un with |.nd (.dct _) _=>vm |_=>vn
def ixA (a b:D):Mo D:=if isDct a then dgetD a b else ixD a b
theorem zom_:Op2D K rDGet E dgetD:=by
 intro a b x y F H Q hs ha hb q;have ha:=DR.un ha;unfold dgetD at q;split at q
 ·rename_i ks ds k e1 e2
  rw[e1]at ha;obtain⟨p,us,rfl,n,r⟩:=ha.nd;obtain⟨d,e,q⟩:=q.opt;obtain⟨d0,e',rfl⟩:=lJ.mp e;rcases zq8_ (k:=k) (ks:=ks) r with⟨h1,h2⟩|⟨d',v',g1,g2,g3⟩
  ·rw[h1]at e';cases e'
  ·rw[g1]at e';cases e'
   exact zdB_ rfl (zld_ e2 hb).1 (hs _ _ n.1) ⟨v',g2,gotV q hs g3⟩
 ·exact q.elim
theorem zro_:Op2D K (rIxA K) E ixA:=by
 intro a b x y F H Q hs ha hb q;unfold ixA at q;split at q
 ·exact .inr (zom_ a b x y F H Q hs ha hb q)
 ·exact .inl (od_ix a b x y F H Q hs ha hb q)
def inA (neg:Bool)(a b:D):Mo D:=if isDct b then dinD neg a b else inD neg a b
theorem zrv_ {neg:Bool}:Op2D K (rDIn neg) E (dinD neg):=by
 intro a b x y F H Q hs ha hb q;have hb:=DR.un hb;unfold dinD at q;split at q
 ·rename_i ks ds k e1 e2
  rw[e1]at hb;obtain⟨p,us,rfl,n,r⟩:=hb.nd;refine zdB_ rfl (zld_ e2 ha).1 (hs _ _ n.1) ?_;have e:(valV (ks.zip us) k).isSome=(valD ks ds k).isSome:=by
   rcases zq8_ (k:=k) (ks:=ks) r with⟨h1,h2⟩|⟨d',v',g1,g2,g3⟩
   ·rw[h1,h2];rfl
   ·rw[g1,g2];rfl
  rw[e];exact gotB q hs
 ·exact q.elim
theorem zlv_ {neg:Bool}:Op2D K (rInA K neg) E (inA neg):=by
 intro a b x y F H Q hs ha hb q;unfold inA at q;split at q
 ·exact .inr (zrv_ a b x y F H Q hs ha hb q)
 ·exact .inl (od_in a b x y F H Q hs ha hb q)
def lenA (ds:List D):Mo D:=match ds with |[d]=>if isDct d then dlenD ds else lenD ds |_=>.no
theorem zm7_:BlD K (mLenA K) E lenA:=by
 intro ds vs F H Q hs hd q;unfold lenA at q;split at q
 ·split at q
  ·exact .inr (zls_ _ vs F H Q hs hd q)
  ·exact .inl (zpy_ _ vs F H Q hs hd q)
 ·exact q.elim
def makeD (f:Fn)(c:Str)(ds:List D):Mo D:=match f (.nd (.obj c []) []::ds.map .vw)with
 |.ok .non (o::_)=>.ok o
 |.ex x _=>.ex x
 |_=>.no
theorem z6_ {p dx q:lE}{o:HO}:two p dx o q=if q=p then vj o else if q=dx then vj (.own p)else vk:=rfl
theorem zji_:∀{ds es:List D}{vs us:List V}{F:Hp},DRs K ds vs F->DRs K es us F->DRs K (ds++es) (vs++us) F
 |[],_,_,_,_,h,g=>by unfold DRs at h;subst h;exact g
 |d::ds,_,_,_,_,h,g=>by unfold DRs at h;obtain⟨v,vs,rfl,a,r⟩:=h;rw[mK,mK];unfold DRs;exact⟨v,_,rfl,a,zji_ r g⟩
theorem zqm_ {c:Str}{dv:List D}{au:List V}(hx:EvAs K ta E env ra)(jX:∀F,DRs K dv au F):EvX K (tMake (gA K c) (CtG K f) au E ta) E env (ra.bind λds=>makeD f c (ds++dv)):=by
 intro σ F H Q hL hs q;refine zhg_ hx σ F H _ hL hs (q.bind.imp λds F1 H1 x1 k1 vs cF=>?_)
 intro x dx nx dJ ne;have cF:=zji_ cF (jX F1);have k1:=k1.imp λa F3 H3 x3 k3=>k3.back x1.2.2.1
 have sm:Same H1 (upd (upd H1 dx (.own x)) x (.ins (gA K c) dx [])):=(zU_ dJ _).trans (zU_ (by rw[zd_ λz=>ne z.symm];exact nx) _)
 have eh:less (upd (upd H1 dx (.own x)) x (.ins (gA K c) dx [])) (two x dx (.ins (gA K c) dx []))=H1:=funext λp=>by
  unfold less;rw[z6_];by_cases e:p=x
  ·subst e;rw[if_pos rfl];exact nx.symm
  ·rw[if_neg e]
   by_cases e2:p=dx
   ·subst e2;rw[if_pos rfl];exact dJ.symm
   ·rw[if_neg e2,zd_ e,zd_ e2]
 refine⟨F1,two x dx (.ins (gA K c) dx []),.nd (.obj c []) []::(ds++dv).map .vw,x1.2.1.trans sm,λp=>?_,λp o z=>?_,?_,?_⟩
 ·rw[z6_]
  by_cases e:p=x
  ·subst e;exact .inl (x1.2.1.free nx)
  ·rw[if_neg e]
   by_cases e2:p=dx
   ·subst e2;exact .inl (x1.2.1.free dJ)
   ·rw[if_neg e2];exact .inr rfl
 ·rw[z6_]at z
  by_cases e:p=x
  ·subst e;rw[if_pos rfl]at z;cases z;exact zh_
  ·rw[if_neg e]at z
   by_cases e2:p=dx
   ·subst e2;rw[if_pos rfl]at z;cases z;rw[zd_ e];exact zh_
   ·rw[if_neg e2]at z;cases z
 ·unfold ODs
  refine⟨.ref x,_,_,λ_=>vk,rfl,no_r _ λ_=>rfl,?_,ODs.vw (λ_=>rfl) cF⟩
  unfold OD;exact⟨x,[],_,λ_=>vk,rfl,⟨dx,ne,rfl,rfl⟩,no_r _ λ_=>rfl,by unfold ODs;exact⟨rfl,λ_=>rfl⟩⟩
 ·rw [eh]
  unfold makeD at k1;cases e:f (.nd (.obj c []) []::(ds++dv).map .vw)with
  |no=>rw[e]at k1;exact k1
  |ex x ds'=>rw[e]at k1;exact λF' h' H' ok _=>k1 F' H' ok.1
  |ok d ds'=>
   rw[e]at k1;intro v F' h' H' hr h2 ok j od os;split at k1
   ·rename_i o tl ee
    cases ee;refine⟨?_,?_⟩
    ·unfold OD at od;exact od.2.non
    ·unfold ODs at os
     obtain⟨w,ws,m1,m2,e3,jm,oo,_⟩:=os;cases e3;have s1:Same m1 h':=jm.l.trans j.r;refine k1 F' H' ok.1 (.ref x) m1 (λp z=>ok.2.2.2.1 p ?_) (dj_l (dj_r ok.2.1 j) jm) (s1.trans ok.2.2.1) oo
     cases y:m1 p with
     |none=>exact absurd y z
     |some w=>rw[s1 _ _ y];exact sN _
   ·rename_i ee;cases ee
   ·exact k1.elim
def strsD:List D->Option (List (List Nat))
 |[]=>vj []
 |d::ds=>(match d.un with |.str l=>vj l |_=>vk).bind λx=>(strsD ds).map λxs=>x::xs
theorem zkT_:∀{ds:List D}{xs:List (List Nat)}{us:List V},strsD ds=vj xs->DRs K ds us H->us=xs.map tx
 |[],_,_,e,h=>by cases e;unfold DRs at h;exact h
 |d::ds,_,_,e,h=>by
  unfold strsD at e;unfold DRs at h;obtain⟨x,ex,e⟩:=lI.mp e;obtain⟨xs,exs,rfl⟩:=lJ.mp e;obtain⟨v,vs,rfl,a,r⟩:=h;have a:=DR.un a;split at ex
  ·rename_i e2;cases ex;rw[e2]at a;cases a.str;rw[zkT_ exs r];rfl
  ·cases ex
def joinD (l:List Nat)(ds:List D):Mo D:=match ds with
 |[d]=>(match d.un with |.nd .lst xs=>(Mo.opt (strsD xs)).bind λls=>.grd (JoinOk ⟨l.toArray⟩ (strsL ls)=vm) (.ok (.str (joinS l (strsL ls))))|_=>.no)
 |_=>.no
theorem zhL_:∀ls:List (List Nat),strsOf (ls.map tx)=vj (strsL ls):=λls=>strsOf_of' ls
 where strsOf_of':∀ls:List (List Nat),strsOf (ls.map tx)=vj (strsL ls)
 |[]=>rfl
 |l::ls=>by show(strsOf (ls.map tx)).map _=_;rw[strsOf_of' ls];rfl
theorem zmh_:MeD K (mJoin K) E joinD:=by
 intro l ds vs F H Q hs hd q;unfold joinD at q;split at q
 ·obtain⟨v,rfl,a⟩:=DRs.one hd
  have a:=DR.un a;split at q
  ·rename_i xs e;rw[e]at a;obtain⟨p,us,rfl,n,r⟩:=a.nd
   cases e3:strsD xs with
   |none=>rw[e3]at q;exact q.elim
   |some ls=>
    rw[e3]at q;obtain⟨z,q⟩:=After.grd (show After K (Mo.grd _ _) E F H _ from q)
    refine⟨us,.of (hs _ _ n),?_⟩;rw[zkT_ e3 r,zhL_];exact⟨z,gotS q hs⟩
  ·exact q.elim
 ·exact q.elim
theorem ziP_:∀ls:List (List Nat),DRs K (ls.map .str) (ls.map tx) F
 |[]=>by unfold DRs;rfl
 |l::ls=>by rw[lB,lB];unfold DRs;exact⟨_,_,rfl,by unfold DR;rfl,ziP_ ls⟩
def me1 (g:List Nat->List Nat->Mo D)(l:List Nat)(ds:List D):Mo D:=match ds with |[d]=>(match d.un with |.str c=>g l c |_=>.no)|_=>.no
def me1I (g:List Nat->Int->Mo D)(l:List Nat)(ds:List D):Mo D:=match ds with |[d]=>(match d.un with |.int c=>g l c |_=>.no)|_=>.no
theorem zqF_ {m:V->List V->Hp->VK->Prop}{g:List Nat->List Nat->Mo D}(hm:∀l c F H (Q:VK),Same F H->After K (g l c) E F H (OwnK (owD K) H Q)->m (tx l) [tx c] H Q):MeD K m E (me1 g):=by
 intro l ds vs F H Q hs hd q;unfold me1 at q;split at q
 ·obtain⟨v,rfl,a⟩:=DRs.one hd
  have a:=DR.un a;split at q
  ·rename_i c e;rw[e]at a;cases a.str;exact hm l c F H Q hs q
  ·exact q.elim
 ·exact q.elim
theorem zoA_ {m:V->List V->Hp->VK->Prop}{g:List Nat->Int->Mo D}(hm:∀l c F H (Q:VK),Same F H->After K (g l c) E F H (OwnK (owD K) H Q)->m (tx l) [.int c] H Q):MeD K m E (me1I g):=by
 intro l ds vs F H Q hs hd q;unfold me1I at q;split at q
 ·obtain⟨v,rfl,a⟩:=DRs.one hd
  have a:=DR.un a;split at q
  ·rename_i c e;rw[e]at a;cases a.int;exact hm l c F H Q hs q
  ·exact q.elim
 ·exact q.elim
abbrev indexD:=me1 λl c=>.grd (findS l c ≠ -1) (.ok (.int (findS l c)))
abbrev zfillD:=me1I λl i=>.grd (PadOk i=vm) (.ok (.str (zfL l i)))
theorem zk7_:MeD K mIndex E indexD:=zqF_ λl c F H Q hs q=>by obtain⟨z,q⟩:=q.grd;exact⟨z,gotI q hs⟩
theorem zjD_:MeD K mZfill E zfillD:=zoA_ λl c F H Q hs q=>by obtain⟨z,q⟩:=q.grd;exact⟨z,gotS q hs⟩
noncomputable def tnD:D->Option String
 |.int _=>vj "int" |.bl _=>vj "bool" |.str _=>vj "str" |.non=>vj "NoneType" |.nd .lst _=>vj "list" |.nd .tup _=>vj "tuple" |_=>vk
def isaD (n:String)(d:D):Mo D:=.opt (((tnD d.un).bind λT=>isaB T n).map .bl)
theorem tnD_S {T:String}(h:tnD d=vj T)(a:DR K d v F)(hs:Same F H):tyS K H v T:=by
 cases d with
 |int=>cases h;cases a.int;rfl
 |bl=>cases h;cases a.bl;rfl
 |str=>cases h;cases a.str;rfl
 |non=>cases h;cases a.non;rfl
 |nd k ds=>
  obtain⟨p,us,rfl,m,_⟩:=a.nd;cases k with
  |lst=>cases h;exact .inl ⟨rfl,us,hs _ _ m⟩
  |tup=>cases h;exact .inr ⟨rfl,us,hs _ _ m⟩
  |_=>cases h
 |_=>cases h
def mIsaV (K:mh):List V->Hp->VK->Prop:=λxs H Q=>∃x c T b,xs=[x,.ty c]/\tyS K H x T/\isaB T c=vj b/\Q (.bl b) H
theorem zix_ {X:Cx}:CallR X (.builtin "isinstance") (mIsaV X.K):=by
 rintro pins s σ H xs us Q I r ⟨x,c,T,b,rfl,ht,eb,hq⟩;obtain⟨u,w',rfl,r1,r2⟩:=vals2 r;cases r2;exact zhx_ I r1 (zrh_ ht) (zl9_ eb) λtk=>⟨.bl b,H,I.tok tk,rfl,hq⟩
theorem zqh_ (n:String)(hx:EvX K t E env r):EvX K (tCB (mIsaV K) (tCons t (tCons (tC (.ty n)) tNil))) E env (r.bind (isaD n)):=by
 intro σ F H Q hL hs q;refine ex_v hx σ F H _ hL hs (q.bind.imp λd F1 H1 x1 k1 v hv=>?_)
 have k1:=k1.imp λa F3 H3 x3 k3=>k3.back x1.2.2.1
 obtain⟨w,e,k1⟩:=k1.opt;obtain⟨b,e0,rfl⟩:=lJ.mp e;obtain⟨T,e1,e2⟩:=lI.mp e0;exact⟨v,n,T,b,rfl,tnD_S e1 (DR.un hv) x1.2.1,e2,gotB k1 x1.2.1⟩
def blsD:List D->Option (List Bool)
 |[]=>vj []
 |d::ds=>match d.un,blsD ds with |.bl b,vj bs=>vj (b::bs)|_,_=>vk
theorem zlx_:∀{ds:List D}{us:List V}{bs:List Bool}{F:Hp},blsD ds=vj bs->DRs K ds us F->us=bs.map V.bl
 |[],us,bs,F,h,r=>by unfold DRs at r;subst r;cases h;rfl
 |d::ds,us,bs,F,h,r=>by
  unfold DRs at r;obtain⟨v,vs,rfl,a,r⟩:=r;unfold blsD at h;split at h
  ·rename_i b kF e1 e2
   cases h;have a:=DR.un a;rw[e1]at a;cases a.bl;rw[zlx_ e2 r];rfl
  ·cases h
def allD:List D->Mo D:=on1 λd=>match d with |.nd .lst ds=>(match blsD ds with |some bs=>.ok (.bl (bs.all id))|none=>.no)|_=>.no
theorem zo6_:BlD K (mAll K) E allD:=ze3_ λd v F H Q hs hd q=>by
 split at q
 ·obtain⟨p,us,rfl,n,r⟩:=hd.nd
  split at q
  ·rename_i bs e
   refine⟨bs,?_,gotB q hs⟩;rw[<- zlx_ e r];exact .of (hs _ _ n)
  ·exact q.elim
 ·exact q.elim
theorem znU_:EvX K tDNewK E env (.ok (.nd (.dct []) [])):=by
 intro σ F H Q hL hs q p hp;refine q F _ (.heap hs (zU_ hp _)) (.ref p) (one p (.dK [])) (λb z=>?_) (λb=>?_) (λb o z=>?_) ?_
 ·rw[zb_]at z;split at z
  ·rename_i e;rw[e];exact hp
  ·exact absurd rfl z
 ·rw[zb_];split
  ·rename_i e;rw[e];exact .inl (hs.free hp)
  ·exact .inr rfl
 ·rw[zb_]at z;split at z
  ·rename_i e;rw[e];cases z;exact zh_
  ·cases z
 ·show OD K _ _ _ _
  unfold OD;exact⟨p,[],_,λ_=>vk,rfl,⟨rfl,rfl,List.nodup_nil⟩,no_r _ λ_=>rfl,by unfold ODs;exact⟨rfl,λ_=>rfl⟩⟩
def revD (ds:List D):Mo (List D):=match ds with
 |[d]=>(match d.un with |.nd .lst xs=>.ok xs.reverse |_=>.no)
 |_=>.no
def zipD (ds:List D):Mo (List D):=match ds with
 |[d,e]=>(match d.un,e.un with
  |.nd .lst xs,.str l=>.ok ((xs.zip l).map λq=>.nd .tup [q.1,.str [q.2]])
  |_,_=>.no)
 |_=>.no
theorem w_zip:WkW K E (λvs _ H1 R=>match vs with
  |[.ref a,.str x]=>(∃xs,SqL K H1 a xs)/\R (ItzS K a x.cps.size (sgn x)) H1
  |_=>False) zipD:=by
 intro ds vs σ F1 H1 R x1 hv k1;unfold zipD at k1;split at k1
 ·obtain⟨v,v2,rfl,a,a2⟩:=DRs.two hv
  have a:=DR.un a;have a2:=DR.un a2;split at k1
  ·rename_i l1 l2 e1 e2
   rw[e1]at a;rw[e2]at a2;obtain⟨p,us,rfl,hp,hr⟩:=a.nd;cases a2.str;refine⟨⟨us,.of (x1 _ _ hp)⟩,k1.ok x1 _ ⟨λi H x hH hx=>?_,λH hH=>?_⟩⟩
   ·rw[lK]at hx
    cases ez:(l1.zip l2)[i]? with
    |none=>rw[ez]at hx;cases hx
    |some q=>
    rw[ez]at hx;cases hx;obtain⟨dN,hx2⟩:=pH.mp (show(l1.zip l2)[i]?=vj (q.1,q.2)from ez)
    rcases hr.get i with⟨a,_⟩|⟨y,u,a,b,c⟩
    ·rw[a]at dN;cases dN
    rw[a]at dN;injection dN with dN;have hi:=(lO.mp hx2).1;refine⟨⟨us,u,.of (hH _ _ hp),b,hi⟩,?_⟩;rintro v H' ⟨p3,w,z,hp3,rfl,rfl⟩ F hF bD;have e:=z us (.of (hH _ _ hp));rw[b]at e;cases e;have x':=Ext.new (o:=.tup [u,L2.sgn ⟨l2.toArray⟩ i]) bD hp3;refine⟨_,x',?_⟩;show DR K _ _ _
    unfold DR;refine⟨p3,_,rfl,zh_,?_⟩;unfold DRs;refine⟨_,_,rfl,by rw[<- dN];exact DR.mono (hF.trans x'.1) c,?_⟩
    unfold DRs;refine⟨_,_,rfl,?_,by unfold DRs;rfl⟩
    unfold DR;have e3:(l2.toArray).getD i 0=q.2:=by rw[m6,rq,hx2];rfl
    show V.str ⟨#[(l2.toArray).getD i 0]⟩=tx [q.2]
    rw[e3]
   ·refine⟨us,.of (hH _ _ hp),?_⟩
    rw[lq,mX,hr.len];show min us.length l2.length=us.length\/min us.length l2.length<us.length/\min us.length l2.length=l2.length
    lia
  ·exact k1.elim
 ·exact k1.elim
theorem newTp (q:After K (.ok (.nd .tup (ds.map .vw))) E F H (OwnK (owD K) H Q))(hs:Same F H)(hp:H p=vk)(r:DRs K ds us F):Q (.ref p) (upd H p (.tup us)):=by
 have x:=Ext.new (o:=.tup us) hs hp;refine q _ _ x (.ref p) (λ_=>vk) (λb z=>absurd rfl z) (λ_=>.inr rfl) (λb o z=>by cases z) ?_
 show OD K _ _ _ _
 unfold OD;exact⟨p,us,λ_=>vk,λ_=>vk,rfl,⟨zh_,λ_=>rfl⟩,no_r _ λ_=>rfl,ODs.vw (λ_=>rfl) (r.mono x.1)⟩
def mSlA (K:mh):V->Option Int->Option Int->Hp->VK->Prop:=λx lo hi H Q=>mSl K x lo hi H Q\/rSlT K x lo hi H Q
theorem sl_A {X:Cx}:SlR X (mSlA X.K):=SlR.or sl_M zp9_
def slA (a:D)(lo hi:Option Int):Mo D:=match a.un with
 |.nd .tup xs=>if HT.sIx xs.length 0 lo=0/\HT.sIx xs.length xs.length hi=xs.length then .no else .ok (.nd .tup ((cutG xs lo hi).map .vw))
 |_=>slD a lo hi
theorem zqd_ {tl th:TO}{rl rh:Mo (Option Int)}(h0:EvX K t E env r)(hl:EvP K tl E (Lof K env) rl)(hh:EvP K th E (Lof K env) rh):EvX K (tSl (mSlA K) t tl th) E env (r.bind λl=>rl.bind λa=>rh.bind λb=>slA l a b):=by
 intro σ F H Q hL hs q;refine ex_v h0 σ F H _ hL hs (q.bind.imp λl F1 H1 x1 k1 v hv=>?_)
 refine hl σ F1 H1 _ (hL.mono x1.1) x1.2.1 (k1.bind.imp λlo F2 H2 x2 k2=>?_)
 refine hh σ F2 H2 _ (hL.mono (x1.1.trans x2.1)) x2.2.1 (k2.bind.imp λhi F3 H3 x3 k3=>?_)
 have ha:=DR.un ((tyD K).mono (x2.1.trans x3.1) hv);have k3:=k3.imp λc F4 H4 x4 k4=>k4.back (x1.2.2.1.trans (x2.2.2.1.trans x3.2.2.1))
 unfold slA at k3;split at k3
 ·rename_i xs e;rw[e]at ha;obtain⟨p,us,rfl,n,r⟩:=ha.nd
  split at k3
  ·exact k3.elim
  ·rename_i hn
   exact .inr ⟨p,us,rfl,.of (x3.2.1 _ _ n),by rw[<- r.len];exact hn,λp hp=>newTp k3 x3.2.1 hp (r.cut lo hi)⟩
 ·refine .inl ?_
  unfold slD at k3;split at k3
  ·rename_i l e;rw[e]at ha;cases ha.str
   obtain⟨c,k3⟩:=k3.lim;exact⟨c,gotS k3 x3.2.1⟩
  ·rename_i e;rw[e]at ha;obtain⟨p,us,rfl,n,r⟩:=ha.nd
   exact⟨us,.of (x3.2.1 _ _ n),λp hp=>newL k3 x3.2.1 hp (r.cut lo hi)⟩
  ·rename_i e;rw[e]at ha;obtain⟨p,us,rfl,n,r⟩:=ha.nd
   exact⟨us,x3.2.1.seq n,λp hp=>newL k3 x3.2.1 hp (r.cut lo hi)⟩
  ·exact k3.elim
def mAddA (K:mh):R2:=λx y H Q=>mAdd x y H Q\/rCatT K x y H Q
theorem zmv_ {X:Cx}:OpR X (nR .Add) (mAddA X.K):=λpins s σ H x y v u Q I rx ry h=>by
 rcases h with h |h
 ·exact zlX_ pins s σ H x y v u Q I rx ry h
 ·exact znO_ pins s σ H x y v u Q I rx ry h
def addA (a b:D):Mo D:=match a.un,b.un with
 |.nd .tup xs,.nd .tup ys=>if xs=[]\/ys=[]then .no else .lim (xs.length+ys.length) (.ok (.nd .tup ((xs++ys).map .vw)))
 |_,_=>addD a b
noncomputable instance (l:List D):Decidable (l=[]):=match l with |[]=>.isTrue rfl |_::_=>.isFalse λh=>by cases h
theorem zod_:Op2D K (mAddA K) E addA:=by
 intro a b x y F H Q hs ha hb q;unfold addA at q;split at q
 ·rename_i xs ys e1 e2
  have ha:=DR.un ha;have hb:=DR.un hb;rw[e1]at ha;rw[e2]at hb;obtain⟨p,us,rfl,n,r⟩:=ha.nd;obtain⟨p2,ws,rfl,n2,r2⟩:=hb.nd;split at q
  ·exact q.elim
  ·rename_i hn
   obtain⟨c,q⟩:=q.lim;have h1:us≠[]:=λz=>hn (.inl (mJ.mp (by rw[r.len,z];rfl)))
   have h2:ws≠[]:=λz=>hn (.inr (mJ.mp (by rw[r2.len,z];rfl)))
   exact .inr ⟨p,p2,us,ws,rfl,rfl,.of (hs _ _ n),.of (hs _ _ n2),h1,by rw[<- r.len,<- r2.len];exact c,λz=>absurd z h2,λ_ l hl=>newTp q hs hl (r.app r2)⟩
 ·exact .inl (zrc_ a b x y F H Q hs ha hb q)
def rvD (a:D):Mo D:=match a.un with
 |.nd .lst xs=>.ok (.nd .lst (xs.reverse.map .vw))
 |_=>.no
theorem zbI_:∀(ns:List Int) {H:Hp},DRs K (ns.map D.int) (ns.map V.int) H
 |[],_=>by unfold DRs;rfl
 |n::ns,H=>by rw[lB,lB];unfold DRs;exact⟨_,_,rfl,by unfold DR;rfl,zbI_ ns⟩
def lrD (a b:D):Mo D:=(intD a).bind λi=>(intD b).bind λj=>.grd (-50000<=i/\i<=50000 /\ -50000<=j/\j<=50000) (.ok (.nd .lst (((rngI i (j-i).toNat).map D.int).map .vw)))
theorem ex_lr {ir iq:TE}{iA iz:Mo D}(h1:EvX K ir E env iA)(h2:EvX K iq E env iz):EvX K (tCB (mList K) (tCons (tCB mRange (tCons ir (tCons iq tNil))) tNil)) E env (iA.bind λx=>iz.bind λy=>lrD x y):=by
 intro σ F H Q hL hs q;refine ex_v h1 σ F H _ hL hs (q.bind.imp λa F1 H1 x1 k1 v hv=>?_)
 refine ex_v h2 σ F1 H1 _ (hL.mono x1.1) x1.2.1 (k1.bind.imp λb F2 H2 x2 k2 w hw=>?_)
 have k2:=k2.imp λc F4 H4 x4 k4=>k4.back (x1.2.2.1.trans x2.2.2.1)
 unfold lrD at k2;obtain⟨i,rfl,k2⟩:=zdh_ k2 ((tyD K).mono x2.1 hv);obtain⟨j,rfl,k2⟩:=zdh_ k2 hw;obtain⟨c,k2⟩:=k2.grd;intro p hp;have x:=Ext.new (o:=.rng i j) x2.2.1 hp;have e:intsV i j=(rngI i (j-i).toNat).map V.int:=by unfold intsV rngI;simp
 refine .inr ⟨i,j,zh_,c,λl hl=>?_⟩
 rw[e];refine newL (E:=E) (ds:=(rngI i (j-i).toNat).map D.int) (F:=upd F2 p (.rng i j)) (H:=upd H2 p (.rng i j)) (λF' H' y=>OwnK.back x.2.2.1 (k2 F' H' (x.trans y))) x.2.1 hl (zbI_ _)
def intsD:List D->Option (List Int)
 |[]=>vj []
 |d::ds=>match d.un,intsD ds with |.int i,vj is=>vj (i::is)|_,_=>vk
def keysI:List Key->Option (List Int)
 |[]=>vj []
 |.inl i::ks=>(keysI ks).map (i::·)
 |_=>vk
theorem zgs_:∀{ds:List D}{us:List V}{is:List Int}{F:Hp},intsD ds=vj is->DRs K ds us F->Prs tyInt F is us
 |[],us,is,F,h,r=>by unfold DRs at r;subst r;cases h;exact .nil
 |d::ds,us,is,F,h,r=>by
  unfold DRs at r;obtain⟨v,vs,rfl,a,r⟩:=r;unfold intsD at h;split at h
  ·rename_i b kF e1 e2
   cases h;have a:=DR.un a;rw[e1]at a;exact .cons a.int (zgs_ e2 r)
  ·cases h
def srtI (is:List Int):Mo D:=.grd (is.length<64) (.ok (.nd .lst ((srtL ltI is).map .int)))
def mListA (K:mh):List V->Hp->VK->Prop:=λxs H Q=>mList K xs H Q\/match xs with
 |[.ref p]=>∃kvs,H p=vj (.dK kvs)/\kvs.length<=lL/\∀l,H l=vk->Q (.ref l) (upd H l (.lst (kvs.map λq=>kV q.1)))
 |_=>False
theorem zmV_:∀(a:List (Key×V)) (b:List (Key×aV)) (i:Nat) q k' x,KV a b->a[i]?=vj q->b[i]?=vj (k',x)->q.1=k':=by
 intro a b i q k' x fT;unfold KV at fT;induction fT generalizing i with
 |nil=>intro e;simp at e
 |cons r t ih=>
  intro e1 e2;cases i with
  |zero=>simp at e1 e2;subst e1;have:=r.1;rw[e2]at this;exact this
  |succ i=>exact ih i (by simpa using e1) (by simpa using e2)
theorem zcU_:∀(ks:List (Key×V)) (us:List aV),ks.length=us.length->(∀(i:Nat) (q:Key×V) (u:aV),ks[i]?=vj q->us[i]?=vj u->RelV (kV q.1) u)->Vals (ks.map λq=>kV q.1) us
 |[],us,hl,_=>by cases us with |nil=>exact .nil |cons _ _=>simp at hl
 |q::ks,us,hl,hh=>by
  cases us with
  |nil=>simp at hl
  |cons u us=>exact .cons (hh 0 q u rfl rfl) (zcU_ ks us (by simpa using hl) λi q' u' e1 e2=>hh (i+1) q' u' (by simpa using e1) (by simpa using e2))
theorem zgr_ {X:Cx}(hc:X.calm=vm):CallR X (.type "list") (mListA X.K):=by
 intro pins s σ H xs us Q I r h;rcases h with h |h
 ·exact zdi_ hc pins s σ H xs us Q I r h
 ·split at h
  ·rename_i p
   obtain⟨kvs,hp,hl,q⟩:=h;obtain⟨u,rfl,rx⟩:=vals1 r;cases rx;obtain⟨z,hd,vs,rel,dd⟩:=zit_ I.hok (.inl hp);obtain⟨ep,hat⟩:=dd.dictAt;have cI:kvs.length=vs.length:=rel.length;refine W.kdl_call (W.kdl_dict (knd:=mixKind X.prog X.w) (kvs:=vs) (ep:=ep) hd) (I.ok.hd hc) hat (by rw[<- cI];exact hl) λh' tk acc c kp ho aA=>?_
   refine⟨.ref s.heap.objs.size,_,I.laid (o:=.lst (kvs.map λq=>kV q.1)) (t':=tk) kp (lC _) ⟨by rw[lq];exact hl,acc.toList,c,?_,by simpa using ho⟩,rfl,q _ (I.hok.fresh (lC _))⟩
   have cT:acc.toList.length=kvs.length:=by rw[mQ,cI];exact aA.1
   refine zcU_ kvs acc.toList cT.symm λi q u e1 e2=>?_
   obtain⟨k',x,ek,bt⟩:=aA.2 i u (by rw[<- mP];exact e2)
   rw[zmV_ kvs vs i q k' x rel e1 ek];exact is_kV bt
  ·exact h.elim
def kD:Key->D
 |.inl i=>.int i
 |.inr s=>.str s.cps.toList
theorem zfk_:∀(ks:List Key) (us:List V) {H:Hp},ks.length=us.length->DRs K (ks.map kD) ((ks.zip us).map λq=>kV q.1) H
 |[],us,_,_=>by unfold DRs;rfl
 |k::ks,[],_,hl=>by cases hl
 |k::ks,u::us,H,hl=>by
  rw[mf,lB,lB];unfold DRs;refine⟨_,_,rfl,?_,zfk_ ks us (by simpa using hl)⟩
  cases k with
  |inl i=>unfold kD DR;rfl
  |inr s=>unfold kD DR;rfl
def listA:List D->Mo D:=on1 λd=>match d with
 |.nd .lst xs=>.ok (.nd .lst (xs.map .vw))
 |.nd .tup xs=>.ok (.nd .lst (xs.map .vw))
 |.nd .scr xs=>.ok (.nd .lst (xs.map .vw))
 |.nd (.dct ks) _=>.lim ks.length (.ok (.nd .lst ((ks.map kD).map .vw)))
 |_=>.no
theorem zkL_:BlD K (mListA K) E listA:=ze3_ λd v F H Q hs hd q=>by
 split at q
 ·obtain⟨p,us,rfl,n,r⟩:=hd.nd;exact .inl (.inl ⟨us,.inl (.of (hs _ _ n)),λl hl=>newL q hs hl r⟩)
 ·obtain⟨p,us,rfl,n,r⟩:=hd.nd;exact .inl (.inl ⟨us,.inr (.of (hs _ _ n)),λl hl=>newL q hs hl r⟩)
 ·obtain⟨p,us,rfl,n,r⟩:=hd.nd;exact .inl (.inl ⟨us,.inl (hs.seq n),λl hl=>newL q hs hl r⟩)
 ·obtain⟨p,us,rfl,n,r⟩:=hd.nd
  obtain⟨c,q⟩:=q.lim;refine .inr ⟨_,hs _ _ n.1,by rw[mX,n.2.1,oI,<- n.2.1];exact c,λl hl=>newL q hs hl (zfk_ _ _ n.2.1)⟩
 ·exact q.elim
def mSortI (K:mh):List V->Hp->VK->Prop:=λxs H Q=>match xs with
 |[.ref p]=>∃ns:List Int,(SqL K H p (ns.map .int)\/∃kvs,H p=vj (.dK kvs)/\(kvs.map λq=>kV q.1)=ns.map .int)/\ns.length<64/\∀aY:List Int,aY.Perm ns->aY.Pairwise (·<=·)->∀l,H l=vk->Q (.ref l) (upd H l (.lst (aY.map .int)))
 |_=>False
theorem zcx_:∀{vs:List aV}{ns:List Int},IntsAre vs ns->Vals (ns.map .int) vs
 |_,_,.nil=>.nil
 |_,_,.cons _ _ h=>.cons ⟨_,rfl⟩ (zcx_ h)
theorem zaK_:∀{ns:List Int}{vs:List aV},Vals (ns.map .int) vs->IntsAre vs ns
 |[],_,r=>by cases r;exact .nil
 |n::ns,_,r=>by cases r with |cons a r=>obtain⟨t,rfl⟩:=a;exact .cons n t (zaK_ r)
theorem zgZ_ {X:Cx}(hc:X.calm=vm):CallR X (.builtin "sorted") (mSortI X.K):=by
 intro pins s σ H xs us Q I r h;unfold mSortI at h;split at h
 rotate_left
 ·exact h.elim
 rename_i p
 obtain⟨ns,hp,dA,q⟩:=h;obtain⟨u,rfl,rx⟩:=vals1 r;cases rx;rcases hp with hp |⟨kvs,hp,hk⟩
 ·obtain⟨aa,rv,pl,hz⟩:=I.list hp
  have hn:=rv.length;rw[lq]at hn;refine sorted_ints pl.isList (zaK_ rv) (by lia) λout aY a1 a2 a3=>?_
  obtain⟨e,he⟩:=sortedAll_at s.heap aa out;exact⟨.ref (s.heap.objs.size+1),_,I.laid (o:=.lst (aY.map .int)) (t':=s.toks) (λ_ _=>sortedAll_old) (oF _) ⟨by rw[lq,a2.length_eq];exact zaT_ (by lia),out.toList,e,zcx_ a1,by simpa using he⟩,rfl,q aY a2 a3 _ (I.hok.fresh (oF _))⟩
 ·obtain⟨z,hd,vs,rel,dd⟩:=zit_ I.hok (.inl hp)
  obtain⟨ep,hat⟩:=dd.dictAt;have cI:kvs.length=vs.length:=rel.length;have fQ:kvs.length=ns.length:=by have:=congrArg p6 hk;simpa using this
  refine Calls.call_function_entry kind_sorted plain_sorted entry_sorted (args_sorted1 _) ?_;unfold qw.«sorted»;refine ll (m:=checkCount "sorted" 1 1 _) (lM ?_);refine ll (zkX_ (W.kdl_dict (knd:=mixKind X.prog X.w) (kvs:=vs) (ep:=ep) hd) (I.ok.hd hc) hat (by rw[<- cI,sizeLine_eq];lia) λh1 tk acc hsz k1 aA=>?_)
  have cT:acc.toList.length=kvs.length:=by rw[mQ,cI];exact aA.1
  have rv:Vals (ns.map .int) acc.toList:=by
   rw[<- hk];refine zcU_ kvs acc.toList cT.symm λi q u e1 e2=>?_
   obtain⟨k',x,ek,bt⟩:=aA.2 i u (by rw[<- mP];exact e2)
   rw[zmV_ kvs vs i q k' x rel e1 ek];exact is_kV bt
  refine ll (wpAny_newList ?_ (by rw[sizeLine_eq];lia))
  have cQ:(h1.push (seqObj "list" acc.toList.toArray 0)).get? h1.objs.size=vj (seqObj "list" acc.toList.toArray 0):=lN _ rfl;show lX _ _ _ _ _ {s with heap:=h1.push (seqObj "list" acc.toList.toArray 0),toks:=tk}
  refine ll (wpAny_holding (wpAny_call_entry slot_list_sort ⟨_,cQ,rfl⟩ entry_list_sort (list_sort_tree cQ (zaK_ rv) (by lia) λout aY a1 a2 a3=>⟨_,rfl,?_⟩) (args_list_sort _)))
  obtain⟨e,he⟩:=sortedHeap_at (out:=out) cQ;have kp:∀b o,s.heap.get? b=vj o->(sortedHeap (h1.push (seqObj "list" acc.toList.toArray 0)) h1.objs.size acc.toList out).get? b=vj o:=λb o z=>by
   have hb:=lH (k1 b o z);rw[sortedHeap_old (l0 hb) (by rw[size_push'];exact pj hb)]
   exact lp _ (k1 b o z)
  exact lM ⟨_,rfl,.ref h1.objs.size,_,I.laid (o:=.lst (aY.map .int)) (t':=tk) kp (oE hsz) ⟨by rw[lq,a2.length_eq];exact zaT_ (by lia),out.toList,e,zcx_ a1,by simpa using he⟩,rfl,q aY a2 a3 _ (I.hok.fresh (oE hsz))⟩
def sortI:List D->Mo D:=on1 λd=>match d with
 |.nd .lst ds=>(match intsD ds with |some is=>srtI is |none=>.no)
 |.nd (.dct ks) _=>(match keysI ks with |some is=>srtI is |none=>.no)
 |_=>.no
end
section
variable {K:mR}{E:XK}{F H:Hp}{env:Env}
def intLs:List D->Option (List (List Int))
 |[]=>vj []
 |d::ds=>(match d with |.nd .lst es=>intsD es |_=>vk).bind λis=>(intLs ds).map λr=>is::r
def ltQ (aj:List (List Int))(i j:Nat):Bool:=ltKs aj i j ||(!ltKs aj j i && decide (i<j))
def srtQ (aj:List (List Int))(n:Nat):List Nat:=srtL (ltQ aj) (mj n)
theorem zfm_ {aj:List (List Int)}{i j:Nat}:ltQ aj i j=vn↔ltKs aj i j=vn/\(ltKs aj j i=vm\/j<=i):=by
 unfold ltQ;cases ltKs aj i j<;>cases ltKs aj j i<;>simp
theorem lo_q (aj:List (List Int)):LOr (ltQ aj):=by
 have w:=zfp_ aj;refine⟨λ{a b} h=>?_,λ{a b c} h g=>?_,λ{a b} h g=>?_⟩
 ·rw[zfm_]
  unfold ltQ at h;cases e:ltKs aj a b with
  |true=>exact⟨w.asym e,.inl rfl⟩
  |false=>
   rw[e]at h;cases e2:ltKs aj b a with
   |true=>rw[e2]at h;simp at h
   |false=>rw[e2]at h;simp at h;exact⟨rfl,.inr (by lia)⟩
 ·rw[zfm_]at h g ⊢
  refine⟨w.tr h.1 g.1,?_⟩;rcases h.2 with h2 |h2
  ·exact .inl (w.st h2 g.1)
  ·rcases g.2 with g2 |g2
   ·exact .inl (w.st' g2 h.1)
   ·exact .inr (by lia)
 ·rw[zfm_]at h g
  rcases h.2 with h2 |h2
  ·rw[g.1]at h2;cases h2
  ·rcases g.2 with g2 |g2
   ·rw[h.1]at g2;cases g2
   ·lia
theorem zmH_ {aj:List (List Int)}{n:Nat}{idx:List Nat}(h:SrtS (ltKs aj) n idx):idx=srtQ aj n:=
 zbH_ (lo_q aj) h.1 (h.2.imp λ{a b} z=>zfm_.mpr ⟨z.1,z.2.imp id oE⟩)
def strL (d:D):Mo (List (List Nat)):=match d.un with |.nd .lst ds=>.opt (strsD ds)|_=>.no
def srtK (ls:List (List Nat))(ks:List D):Mo D:=match intLs ks with |some aj=>.grd (ks.length=ls.length) (.ok (.nd .lst ((srtQ aj ls.length).map λi=>.str (ls.getD i []))))|none=>.no
theorem zhb_:∀{is:List Int}{us:List V},Prs tyInt F is us->us=is.map .int
 |_,_,.nil=>rfl
 |_,_,.cons a r=>by cases a;rw[lB,<- zhb_ r]
theorem zfl_:∀{ks:List D}{us:List V}{aj:List (List Int)}{h:Hp},intLs ks=vj aj->Same h H->Same F H->ODs K ks us F h->KeysAt K H us aj
 |[],us,aj,h,e,s,s',q=>by unfold ODs at q;cases e;rw[q.1];exact .nil
 |d::ks,us,aj,h,e,s,s',q=>by
  unfold intLs at e;obtain⟨is,e1,e2⟩:=lI.mp e;obtain⟨r,e3,rfl⟩:=lJ.mp e2;unfold ODs at q;obtain⟨v,vs,h1,h2,rfl,j,o,q⟩:=q;refine .cons ?_ (zfl_ e3 (j.r.trans s) s' q);cases d with
  |nd k es=>
   cases k with
   |lst=>
    obtain⟨p,us,rfl,n,r⟩:=(o.view s' (j.l.trans s)).nd;refine⟨p,rfl,.inl (.inl ?_)⟩;rw[<- zhb_ (zgs_ e1 r)];exact n
   |_=>cases e1
  |_=>cases e1
theorem zjn_:∀(ls:List (List Nat)) {h:Hp},(∀p,h p=vk)->ODs K (ls.map .str) (ls.map tx) F h
 |[],h,n=>by unfold ODs;exact⟨rfl,n⟩
 |l::ls,h,n=>by
  rw[lB,lB];unfold ODs;refine⟨_,_,h,λ_=>vk,rfl,no_r _ λ_=>rfl,?_,zjn_ ls λ_=>rfl⟩
  unfold OD DR;exact⟨n,rfl⟩
theorem zpJ_ (ls:List (List Nat)):Yl K (Itp ls.length λj=>(ls.map tx).getD j .non) (ls.map .str) (tyD K) F:=by
 refine⟨λi H x _ e=>?_,λH _=>by show ls.length<=_;rw[lq];exact lC _⟩
 rw[lK]at e;obtain⟨l,e',rfl⟩:=lJ.mp e;refine⟨(lO.mp e').1,?_⟩;rintro v H' ⟨rfl,rfl⟩ F' _ s;refine⟨F',Ext.refl s,?_⟩;show DR K (D.str l) ((ls.map tx).getD i .non) F'
 rw[lZ,lK,e'];unfold DR;rfl
theorem ziH_:∀(ls:List (List Nat)),tgsD ⟨vn,[0]⟩ (ls.map D.str)=vj (ls.map λl=>[D.str l])
 |[]=>rfl
 |l::ls=>by rw[lB];unfold tgsD;rw[ziH_ ls];rfl
theorem zq3_ {p:Str}{fr:List (Str×Nat)}{i:Nat}{te:TE}{f:List D->Mo D}(he:∀a,EvX K te E0 (setE (cE [p] fr env) [0] a) (f a)):
  EvX K (tSrt K fr i te) E env ((getE env i).bind λd=>(strL d).bind λls=>.grd (ls.length<64) ((compM (λx=>cond1 (.ok vm) (f x)) (ls.map λl=>[D.str l]) []).bind λks=>srtK ls ks)):=by
 intro σ F H Q hL hs q;have key:mVar i σ H λv H1=>∃a xs,v=.ref a/\SqL K H1 a xs/\xs.length<64/\∀H2,LamUp H1 H2->tCompR (Itp xs.length λj=>xs.getD j .non) (gName 0) tTrue te (vk::lS fr σ) H2 λb H3=>mSrt K xs b H3 Q:=by
  refine ex_v (znr_ i) σ F H _ hL hs (q.bind.imp λd F1 H1 x1 k1 v hv=>?_)
  have hd:=DR.un hv;unfold strL at k1;split at k1
  rotate_left
  ·exact k1.elim
  rename_i ds e
  rw[e]at hd;obtain⟨a,us,rfl,n,r⟩:=hd.nd;cases e2:strsD ds with
  |none=>rw[e2]at k1;exact k1.elim
  |some ls=>
   rw[e2]at k1;obtain⟨dA,k1⟩:=After.grd (show After K (.grd (ls.length<64) ((compM (λx=>cond1 (.ok vm) (f x)) (ls.map λl=>[D.str l]) []).bind λks=>srtK ls ks)) E F1 H1 _ from k1)
   rw[zkT_ e2 r]at n;refine⟨a,ls.map tx,rfl,.inl (.inl (x1.2.1 _ _ n)),by rw[lq];exact dA,λH2 up=>?_⟩
   have cM:Same H1 H2:=up.same
   have c:=ziO_ (K:=K) (E:=E) (env:=env) (lv:=[p]) (fr:=fr) (wi:=λ_ H R=>R (Itp ls.length λj=>(ls.map tx).getD j .non) H) (g:=⟨vn,[0]⟩) (tt:=tTrue) (te:=te) (rs:=.ok (ls.map .str)) (c:=λ_=>.ok vm) (f:=f)
    (λσ F H R _ s q=>q F H (Ext.refl s) _ (zpJ_ ls)) (by intro i hi;simp at hi;subst hi;exact Nat.zero_lt_one) (λa σ F H Q _ s q=>q F H (Ext.refl s)) he
   rw[lq];refine(show tComp [p] fr (λ_ H R=>R (Itp ls.length λj=>(ls.map tx).getD j .non) H) (tgT K ⟨vn,[0]⟩) tTrue te σ H2 (λb H3=>mSrt K (ls.map tx) b H3 Q)from c σ F1 H2 _ (hL.mono x1.1) (x1.2.1.trans cM) ?_)
   show After K ((Mo.opt (tgsD ⟨vn,[0]⟩ (ls.map D.str))).bind _) E F1 H2 _
   rw[ziH_];show After K ((compM (λx=>cond1 (.ok vm) (f x)) (ls.map λl=>[D.str l]) []).bind λys=>.ok (D.nd .lst ys)) E F1 H2 _
   cases e3:compM (λx=>cond1 (.ok vm) (f x)) (ls.map λl=>[D.str l]) []with
   |no=>rw[e3]at k1;exact k1
   |ex c=>rw[e3]at k1;exact λF' H' x=>(k1 F' H' ⟨x.1,x.2.1,cM.trans x.2.2.1,λp a b=>cM.free (x.2.2.2 p a b)⟩).up cM
   |ok ks=>
    rw[e3]at k1;have k1:After K (srtK ls ks) E F1 H1 (OwnK (owD K) H Q):=k1;unfold srtK at k1;split at k1
    rotate_left
    ·exact k1.elim
    rename_i aj e4
    obtain⟨iM,k1⟩:=After.grd k1;intro F' H' x v h ke dj sh o;have o:OD K (.nd .lst ks) v F' h:=o;unfold OD at o;obtain⟨kS,bF,h0,h2,rfl,cl,j,os⟩:=o;have dR:h kS=vj (.lst bF):=j.l _ _ (by rw[show h0=_ from cl];exact zp_)
    have n2:H2 kS=vk:=ke _ (by rw[dR];exact sN _)
    have nF:F' kS=vk:=by
     rcases dj kS with z |z
     ·exact z
     ·rw[dR]at z;cases z
    refine⟨kS,bF,aj,rfl,sh _ _ dR,by rw[lq,<- os.len];exact iM,zfl_ e4 (j.r.trans sh) x.2.1 os,λidx bA l hl=>?_⟩
    rw[lq]at bA;rw[zmH_ bA];have nl:l≠kS:=λz=>by rw[z,sh _ _ dR]at hl;cases hl
    have s1:∀{G:Hp},Same G H'->G kS=vk->Same G (upd (upd H' kS (.lst [])) l (.lst ((srtQ aj ls.length).map λi=>(ls.map tx).getD i .non))):=λ{G} g gn b o e=>by
     have hb:b≠kS:=ze_ e gn;have j4:b≠l:=λz=>by have:=g _ _ e;rw[z,hl]at this;cases this
     rw[zd_ j4,zd_ hb];exact g _ _ e
    have e5:((srtQ aj ls.length).map λi=>(ls.map tx).getD i .non)=((srtQ aj ls.length).map λi=>ls.getD i []).map tx:=by
     rw[mD];refine nS λi hi=>?_
     have eU:i<ls.length:=mV.mp ((zeU_ _ _).mem_iff.mp hi);simp[lZ,eU]
    refine k1 F' _ ⟨x.1,s1 x.2.1 nF,s1 (cM.trans x.2.2.1) (cM.free n2),λp a b=>cM.free (x.2.2.2 p a b)⟩ (.ref l) (one l (.lst ((srtQ aj ls.length).map λi=>(ls.map tx).getD i .non))) (λp hp=>?_) (λp=>?_) (λp o e=>?_) ?_
    ·by_cases z:p=l
     ·rw[z];exact(x1.2.2.1.trans (cM.trans x.2.2.1)).free hl
     ·exact absurd (by rw[zb_,if_neg z]) hp
    ·by_cases z:p=l
     ·rw[z];exact .inl (x.2.1.free hl)
     ·exact .inr (by rw[zb_,if_neg z])
    ·rw[zb_]at e
     split at e
     ·rename_i z;rw[z,zh_];exact e
     ·cases e
    ·show OD K _ _ _ _
     unfold OD;refine⟨l,_,_,λ_=>vk,rfl,rfl,no_r _ (λ_=>rfl),?_⟩
     rw[e5];have:=zjn_ (K:=K) (F:=F') ((srtQ aj ls.length).map λi=>ls.getD i []) (h:=λ_=>vk) (λ_=>rfl)
     rw[mD]at this;exact this
 unfold mVar at key;split at key
 ·rename_i v hv
  obtain⟨a,xs,rfl,h1,h2,h3⟩:=key;exact⟨a,xs,hv,h1,h2,h3⟩
 ·exact key.elim
def taP:List (TE×TE)->TA
 |[]=>tNil
 |(k,v)::r=>tCons k (tCons v (taP r))
def prU:List V->List (V×V)
 |k::v::r=>(k,v)::prU r
 |_=>[]
theorem tp_eq:∀(trs:List (TE×TE)) (σ:L2.St) (H:Hp) (Q:List (V×V)->Hp->Prop),taP trs σ H (λvs H'=>Q (prU vs) H')=tPairs trs σ H Q
 |[],_,_,_=>rfl
 |(k,v)::r,σ,H,Q=>congrArg (k σ H) (funext λx=>funext λH1=>congrArg (v σ H1) (funext λy=>funext λH2=>tp_eq r σ H2 λps H3=>Q ((x,y)::ps) H3))
def prD:List D->Option (List Key×List D)
 |[]=>vj ([],[])
 |[_]=>vk
 |k::d::r=>(keyD k).bind λk=>(prD r).map λq=>(k::q.1,d::q.2)
def dspD (ds:List D):Mo D:=(Mo.opt (prD ds)).bind λq=>.grd (q.1.Nodup/\q.1.length<=15) (.ok (.nd (.dct q.1) q.2))
theorem zo7_ {d:D}{v:V}{h:Hp}{k:Key}(e:keyD d=vj k)(o:OD K d v F h):(∀p,h p=vk)/\v=kV k:=by
 cases d with
 |nd=>cases e
 |_=>unfold OD at o;exact⟨o.1,(zld_ e o.2).2⟩
theorem znY_:∀{ds:List D}{vs:List V}{h:Hp}{ks:List Key}{es:List D},prD ds=vj (ks,es)->ODs K ds vs F h->∃us,prU vs=(ks.zip us).map (λkv=>(kV kv.1,kv.2))/\ks.length=us.length/\ODs K es us F h
 |[],vs,h,ks,es,e,o=>by
  cases e;have o':=o;unfold ODs at o';rw[o'.1]at o ⊢;exact⟨[],rfl,rfl,o⟩
 |[_],_,_,_,_,e,_=>by cases e
 |k::d::r,vs,h,ks,es,e,o=>by
  unfold prD at e;obtain⟨k',e1,e⟩:=lI.mp e;obtain⟨q,e2,e3⟩:=lJ.mp e;cases e3;unfold ODs at o;obtain⟨v,vs,h1,h2,rfl,j,ok,o⟩:=o;obtain⟨n1,rfl⟩:=zo7_ e1 ok;cases jn_no (z8_ j) n1;unfold ODs at o;obtain⟨v,vs,m1,m2,rfl,jm,od,o⟩:=o;obtain⟨us,p1,p2,p3⟩:=znY_ (ks:=q.1) (es:=q.2) e2 o;refine⟨v::us,?_,by simpa using p2,?_⟩
  ·show(_,_)::prU vs=_
   rw[p1];rfl
  ·unfold ODs;exact⟨v,us,m1,m2,rfl,jm,od,p3⟩
theorem zgP_:∀(kvs acc:List (Key×V)),((acc++kvs).map (·.1)).Nodup->mergeK acc kvs=acc++kvs
 |[],acc,_=>by rw[nG];rfl
 |(k,v)::r,acc,h=>by
  show mergeK (putK acc k v) r=_
  have hk:(acc.any λkv=>decide (kv.1=k))=vn:=by
   rw[sj];intro x hx z;rw[ng,qz]at h;exact h.2.2 _ (List.mem_map_of_mem hx) k (by simp) (of_decide_eq_true z)
  have e:putK acc k v=acc++[(k,v)]:=by unfold putK;rw[hk];rfl
  rw[e,zgP_ r (acc++[(k,v)]) (by rw[nC];exact h),nC];rfl
theorem zjf_ {trs:List (TE×TE)}{ra:Mo (List D)}(h:EvAs K (taP trs) E env ra):EvX K (tDisp trs) E env (ra.bind dspD):=by
 intro σ F H Q hL hs q p hp;have sn:=zU_ (H:=H) hp (.dK []);have x0:Ext F H F (upd H p (.dK [])):=.heap hs sn;rw[<- tp_eq];refine h σ F (upd H p (.dK [])) _ hL x0.2.1 ?_;cases e:ra with
 |no=>rw[e]at q;exact q
 |ex c=>rw[e]at q;exact λF' H' x=>(q F' H' (x0.trans x)).up x0.2.2.1
 |ok ds=>
  rw[e]at q;have q:After K (dspD ds) E F H (OwnK (owD K) H Q):=q;unfold dspD at q;cases e2:prD ds with
  |none=>rw[e2]at q;exact q.elim
  |some r=>
   obtain⟨ks,es⟩:=r;rw[e2]at q;obtain⟨⟨nd,g_⟩,q⟩:=After.grd (show After K (.grd (ks.Nodup/\ks.length<=15) (.ok (D.nd (.dct ks) es))) E F H (OwnK (owD K) H Q)from q)
   intro F2 H2 x2 vs k cu dF s1 o1;obtain⟨us,p1,p2,o2⟩:=znY_ e2 o1;have cH:H2 p=vj (.dK []):=x2.2.2.1 _ _ zh_;have hF:F p=vk:=hs.free hp;have iV:F2 p=vk:=by
    cases y:F2 p with
    |none=>rfl
    |some o'=>
     have:=x2.2.2.2 p hF (by rw[y];exact sN _)
     rw[zh_]at this;cases this
   have nk:k p=vk:=by
    cases z:k p with
    |none=>rfl
    |some o=>have:=cu p (by rw[z];exact sN _);rw[zh_]at this;cases this
   refine⟨cH,ks.zip us,p1,by rw[mX,<- p2,oI];exact g_,?_⟩
   have em:((ks.zip us).map (·.1))=ks:=List.map_fst_zip (by lia)
   rw[zgP_ _ [] (by rw[nQ,em];exact nd),nQ]
   have ne:∀{G:Hp}{b:lE}{o:HO},G p=vk->G b=vj o->b≠p:=λg z e=>by rw[e,g]at z;cases z
   have xx:Ext F H F2 (upd H2 p (.dK (ks.zip us))):=⟨x2.1,λb o z=>by rw[zd_ (ne iV z)];exact x2.2.1 _ _ z,λb o z=>by rw[zd_ (ne hp z)];exact x2.2.2.1 _ _ (sn _ _ z),λb a1 a2=>sn.free (x2.2.2.2 b a1 a2)⟩
   have d1:Dj (one p (.dK (ks.zip us))) k:=λq=>by
    rw[zb_];split
    ·rename_i e;rw[e];exact .inr nk
    ·exact .inl rfl
   refine q F2 _ xx (.ref p) (un (one p (.dK (ks.zip us))) k) (λq z=>?_) (λq=>?_) (λq o z=>?_) ?_
   ·unfold un at z;rw[zb_]at z
    by_cases e:q=p
    ·subst e;exact hp
    ·rw[if_neg e]at z;exact sn.free (cu q z)
   ·unfold un;rw[zb_]
    by_cases e:q=p
    ·subst e;exact .inl iV
    ·rw[if_neg e];exact dF q
   ·unfold un at z;rw[zb_]at z
    by_cases e:q=p
    ·subst e;rw[if_pos rfl]at z;cases z;exact zh_
    ·rw[if_neg e]at z;rw[zd_ e];exact s1 _ _ z
   ·show OD K _ _ _ _
    unfold OD;exact⟨p,us,_,k,rfl,⟨rfl,p2,nd⟩,zah_ d1,o2⟩
def eqsD:List D->List D->Option (List Bool)
 |[],[]=>vj []
 |d::ds,e::es=>(eqT 12 d e).bind λc=>(eqsD ds es).map λr=>c::r
 |_,_=>vk
def nedD (a b:D):Mo D:=match a.un,b.un with
 |.nd (.dct ks) ds,.nd (.dct iE) es=>.grd (ks=iE) ((Mo.opt (eqsD ds es)).bind λbs=>.ok (.bl (!(bs.all id))))
 |_,_=>.no
theorem eqs_L:∀{ds es:List D}{us ws:List V}{bs:List Bool},eqsD ds es=vj bs->DRs K ds us H->DRs K es ws H->EqL K H 12 us ws bs
 |[],[],us,ws,bs,e,h,g=>by unfold DRs at h g;subst h g;cases e;exact m7
 |[],_::_,_,_,_,e,_,_=>by cases e
 |_::_,[],_,_,_,e,_,_=>by cases e
 |d::ds,e::es,us,ws,bs,h,g,g'=>by
  unfold eqsD at h;obtain⟨c,e1,h⟩:=lI.mp h;obtain⟨r,e2,rfl⟩:=lJ.mp h;unfold DRs at g g';obtain⟨v,vs,rfl,a,q⟩:=g;obtain⟨v',bg,rfl,a',q'⟩:=g';exact⟨zpW_ e1 a a',eqs_L e2 q q'⟩
theorem zqq_:Op2D K (mNeDL K) E nedD:=by
 intro a b x y F H Q hs h1 h2 k;have d1:=DR.un (K:=K) h1;have d2:=DR.un (K:=K) h2;unfold nedD at k;split at k
 ·rename_i ks ds iE es e1 e2
  rw[e1]at d1;rw[e2]at d2;obtain⟨eq,k'⟩:=After.grd k;subst eq;obtain⟨p,us,rfl,n,r⟩:=d1.nd;obtain⟨p',bF,rfl,n',r'⟩:=d2.nd;obtain⟨bs,e3,k''⟩:=After.opt k'.bind;refine⟨ks,us,bF,bs,hs _ _ n.1,hs _ _ n'.1,n.2.2,n.2.1,n'.2.1,eqs_L e3 (r.mono hs) (r'.mono hs),?_⟩;have k3:After K (.ok (D.bl (!(bs.all id)))) E F H (OwnK (owD K) H Q):=k'' F H (Ext.refl hs);exact k3 F H (Ext.refl hs) _ (λ_=>vk) (λp z=>absurd rfl z) (λp=>.inr rfl) (λp o z=>by cases z) (by show OD K _ _ _ _;unfold OD DR;exact⟨λ_=>rfl,rfl⟩)
 ·exact k.elim
theorem zjm_ {x:V}:∀{d:D},d.un.flat?=vj x->DR K d x F
 |.fz d,e=>by unfold DR;exact zjm_ (d:=d) e
 |.non,e=>by cases e;unfold DR;rfl
 |.bl _,e=>by cases e;unfold DR;rfl
 |.int _,e=>by cases e;unfold DR;rfl
 |.str _,e=>by cases e;unfold DR;rfl
 |.nd _ _,e=>by cases e
 |.pin _,e=>by cases e
 |.gone,e=>by cases e
theorem zgk_:∀{dv:List D}{au:List V},flats dv=vj au->DRs K dv au F
 |[],_,e=>by cases e;unfold DRs;rfl
 |d::dv,_,e=>by
  unfold flats at e;obtain⟨x,e1,e⟩:=lI.mp e;obtain⟨xs,e2,rfl⟩:=lJ.mp e;unfold DRs;exact⟨x,xs,rfl,zjm_ e1,zgk_ e2⟩
theorem ex_no {t:TE}:EvX K t E env .no:=λ_ _ _ _ _ _ q=>q.elim
theorem zm6_ {X:Cx}{elts:List lP}{kk:Nat}{cY:Pos}{a b:lP}{ta:TA}{p pos:Pos}(hm:Gb X.mg "zip")(ha:PA X [a,b] ta)(hg:Gl X "zip")(hs:me [a,b] X.env=[(vn,eval a X.env),(vn,eval b X.env)])(aR:me [b] X.env=[(vn,eval b X.env)]):
  PI X (.Tuple elts kk cY) (.Call (.Name "zip" p) [a,b] [] pos) (λσ H R=>ta σ H λvs H1=>match vs with
   |[.ref a,.str x]=>(∃xs,SqL X.K H1 a xs)/\R (ItzS X.K a x.cps.size (sgn x)) H1
   |_=>False):=by
 intro pins s σ H R I h;refine Call_ (zc2_ I hg hm (u:=.type "zip") (by rfl) (nv (thn (ha pos pins s σ H _ I h) λus s1 af=>?_) (by rw[hs,aR]) (by rw[aR];rfl)))
 obtain⟨vs,H1,I1,r1,q1⟩:=af
 try dsimp only at q1
 have lo:∀b∈[s1.heap.objs.size+4,s1.heap.objs.size+2,s1.heap.objs.size+3,s1.heap.objs.size,s1.heap.objs.size+1],s1.heap.objs.size<=b:=λb hb=>by
  simp only[lQ,pE,or_false]at hb;rcases hb with rfl |rfl |rfl |rfl |rfl<;>first |exact sY _ _ |exact lC _
 split at q1
 ·rename_i l x
  obtain⟨⟨xs,hq⟩,q⟩:=q1;obtain⟨w1,w2,rfl,r,r'⟩:=vals2 r1;cases r;obtain⟨t,rfl⟩:=r';obtain⟨aa,rv,p1,hz⟩:=I1.list hq;refine zmR_ p1.isList λh' iG b9 cq h1 h2 hk=>?_
  refine wpAny_pyIter_zip (s:={s1 with heap:=h'}) iG ?_;have I2:Inv X pins σ H1 {s1 with heap:=h'}:=I1.kept (t':=s1.toks) hk;have la:l<s1.heap.objs.size:=by obtain⟨o,e,_⟩:=p1.isList;exact lH e
  refine⟨s1.heap.objs.size+4,[s1.heap.objs.size+4,s1.heap.objs.size+2,s1.heap.objs.size+3,s1.heap.objs.size,s1.heap.objs.size+1],_,_,H1,rfl,I2,zhr_ _ _ _ _ _ l x t (zjT_ la) (l0 la),⟨iG,b9,⟨_,_,cq⟩,h1,h2⟩,λb hb=>?_,q⟩
  exact I1.fpOk (lo b hb) (I1.hok.fresh (lo b hb))
 ·exact q1.elim
theorem zlq_:∀{is:List Int}{us:List V},Prs tyInt F is us->us=is.map .int
 |_,_,.nil=>rfl
 |_,_,.cons a r=>by cases a;rw[lB,<- zlq_ r]
theorem zjd_:∀{ks:List Key}{is:List Int}{us:List V},keysI ks=vj is->ks.length=us.length->((ks.zip us).map λq=>kV q.1)=is.map .int
 |[],is,us,h,e=>by cases h;rfl
 |.inl i::ks,is,[],h,e=>by cases e
 |.inl i::ks,is,u::us,h,e=>by
  unfold keysI at h;obtain⟨kQ,h',rfl⟩:=lJ.mp h;rw[mf,lB,lB,zjd_ h' (by simpa using e)];rfl
 |.inr _::_,_,_,h,_=>by cases h
theorem zmM_ {ns aY:List Int}(p:aY.Perm ns)(s:aY.Pairwise (·<=·)):aY=srtL ltI ns:=zbH_ zlu_ p (s.imp λ{a b} h=>by show decide _=vn;exact decide_eq_false (by lia))
theorem zjb_ (l:List Int):(l.map D.int).map D.vw=l.map D.int:=by rw[mD];rfl
theorem zj8_:BlD K (mSortI K) E sortI:=ze3_ λd v F H Q hs hd q=>by
 split at q
 ·obtain⟨p,us,rfl,n,r⟩:=hd.nd
  split at q
  rotate_left
  ·exact q.elim
  rename_i is e
  unfold srtI at q;obtain⟨c,q⟩:=q.grd;refine⟨is,.inl ?_,c,λaY hp cP l hl=>?_⟩
  ·rw[<- zlq_ (zgs_ e r)];exact .of (hs _ _ n)
  ·rw[zmM_ hp cP];exact newL (by rw[zjb_];exact q) hs hl (zbI_ _)
 ·obtain⟨p,us,rfl,n,r⟩:=hd.nd
  split at q
  rotate_left
  ·exact q.elim
  rename_i is e
  unfold srtI at q;obtain⟨c,q⟩:=q.grd;refine⟨is,.inr ⟨_,hs _ _ n.1,zjd_ e n.2.1⟩,c,λaY hp cP l hl=>?_⟩
  rw[zmM_ hp cP];exact newL (by rw[zjb_];exact q) hs hl (zbI_ _)
 ·exact q.elim
end
structure Gi where
 cs:List Str
 kt:List (Str×List (List Nat)):=[]
structure Gi.Ok (G:Gi)(K:mh):Prop where
 cs:G.cs≠[]
 kt:∀q∈G.kt,SqU K (gA K q.1) (q.2.map tx)
inductive Bo where
 |add |sub |mul |mod |div |lt |le |gt |ge |eq |ne |is |isn |inn |nin |ix |ned
inductive Bf where
 |len |list |min |str |all |sorted
inductive Sm where
 |join |index |zfill
inductive Ik where
 |any |r1 |r2 |en |zip
inductive X where
 |v (i:Nat)|k (d:D)|g (x:Str) (d:D)
 |gt (x:Str) (ls:List (List Nat))
 |bin (o:Bo) (a b:X)|ch (o o':Bo) (a b c:X)
 |and (a b:X)|or (a b:X)|not (a:X)|neg (a:X)|ifx (c a b:X)
 |sl (a:X) (lo hi:Option X)
 |tup (as:List X)|lst (as:List X)
 |fld (a:X) (f:Str)
 |call (f:Fn) (x:Str) (as:List X)
 |bf (o:Bf) (as:List X)
 |sm (o:Sm) (a:X) (as:List X)
 |comp (lv:List Str) (fr:List (Str×Nat)) (ik:Ik) (src:List X) (tg:Tg) (c:Option X) (e:X)
 |lr (a b:X)
 |srt (p:Str) (fr:List (Str×Nat)) (i:Nat) (e:X)
 |mkd (f:Fn) (c:Str) (as:List X) (dv:List D)
 |ds1 (k v:X)|ds2 (k v l w:X)
 |isa (a:X) (n:String)|dct0 |ch3 (o o' aJ:Bo) (a b c d:X)
def Bo.r (K:mh):Bo->R2
 |.add=>mAddA K |.sub=>mSub |.mul=>mMulX |.mod=>mMod |.div=>mDivG
 |.lt=>mLt |.le=>mLe |.gt=>mGt |.ge=>mGe |.eq=>mEqA K |.ne=>mNeA K |.is=>mIs |.isn=>mIsNot
 |.inn=>rInA K vn |.nin=>rInA K vm |.ix=>rIxA K |.ned=>mNeDL K
def Bo.f:Bo->D->D->Mo D
 |.add=>addA |.sub=>subD |.mul=>mulD |.mod=>modD |.div=>divD
 |.lt=>ltD |.le=>leD |.gt=>gtD |.ge=>geD |.eq=>eqD vn |.ne=>eqD vm |.is=>isD vn |.isn=>isD vm
 |.inn=>inA vn |.nin=>inA vm |.ix=>ixA |.ned=>nedD
def Bf.r (K:mh):Bf->List V->Hp->VK->Prop
 |.len=>mLenA K |.list=>mListA K |.min=>mTwo Min.min |.str=>mStr |.all=>mAll K |.sorted=>mSortI K
def Bf.f:Bf->List D->Mo D
 |.len=>lenA |.list=>listA |.min=>minD |.str=>strD |.all=>allD |.sorted=>sortI
def Sm.r (K:mh):Sm->V->List V->Hp->VK->Prop
 |.join=>mJoin K |.index=>mIndex |.zfill=>mZfill
def Sm.f:Sm->List Nat->List D->Mo D
 |.join=>joinD |.index=>indexD |.zfill=>zfillD
def Ik.w (K:mh):Ik->List V->L2.St->Hp->(It->Hp->Prop)->Prop
 |.any=>iAnyW K
 |.r1=>λvs _ H1 R=>match vs with |[.int j] => -(2 ^ 62)<=j/\j<2 ^ 62/\R (Itr 0 j.toNat) H1 |_=>False
 |.r2=>λvs _ H1 R=>match vs with |[.int i,.int j]=>(-(2 ^ 62)<=i/\i<2 ^ 62 /\ -(2 ^ 62)<=j/\j<2 ^ 62)/\R (Itr i (j-i).toNat) H1 |_=>False
 |.en=>λvs _ H1 R=>match vs with |[.str z]=>R (Ites z.cps.toList.length (λi=>tx [z.cps.toList.getD i 0])) H1 |[.ref a]=>(∃xs,SqL K H1 a xs)/\R (Ite K a) H1 |_=>False
 |.zip=>λvs _ H1 R=>match vs with
  |[.ref a,.str x]=>(∃xs,SqL K H1 a xs)/\R (ItzS K a x.cps.size (sgn x)) H1
  |_=>False
def Ik.t (K:mh)(o:Ik)(ta:TA):TI:=λσ H R=>ta σ H λvs H1=>o.w K vs σ H1 R
def Ik.f:Ik->List D->Mo (List D)
 |.any=>walkA |.r1=>rng1D |.r2=>rng2D |.en=>enumD |.zip=>zipD
theorem ik_w {K:mh}{E:XK}(o:Ik):WkW K E (o.w K) o.f:=by
 cases o with
 |any=>exact w_any
 |r1=>exact w_rg1
 |r2=>exact w_rg2
 |en=>exact w_en
 |zip=>exact w_zip
theorem ik_ok {K:mh}{E:XK}{env:Env}{ta:TA}{ra:Mo (List D)}(o:Ik)(h:EvAs K ta E env ra):EvI K (o.t K ta) E (Lof K env) (ra.bind o.f) (tyD K):=ei_w (ik_w o) h
section
variable (K:mR)(G:Gi)
mutual
def X.den:XK->X->TE
 |_,.v i=>mVar i
 |_,.k d=>tC (d.flat?.getD .non)
 |_,.g _ d=>tC (d.flat?.getD .non)
 |_,.gt x _=>tC (.ref (gA K x))
 |E,.bin o a b=>tOp (o.r K) (a.den E) (b.den E)
 |E,.ch o o' a b c=>mChain (o.r K) (o'.r K) (a.den E) (b.den E) (c.den E)
 |E,.and a b=>mAndV (a.den E) (b.den E)
 |E,.or a b=>mOrV (a.den E) (b.den E)
 |E,.not a=>mNotV (a.den E)
 |E,.neg a=>mNeg (a.den E)
 |E,.ifx c a b=>mIf (mTest (c.den E)) (a.den E) (b.den E)
 |E,.sl a lo hi=>tSl (mSlA K) (a.den E) (X.denO E lo) (X.denO E hi)
 |E,.tup as=>tTup (X.dens E as)
 |E,.lst as=>tLst (X.dens E as)
 |E,.fld a f=>tFld K G.cs (a.den E) f
 |E,.call f _ as=>tCall (CtG K f) [] E (X.dens E as)
 |E,.bf o as=>tCB (o.r K) (X.dens E as)
 |E,.sm o a as=>tBM K "str" (o.r K) (a.den E) (X.dens E as)
 |E,.comp lv fr ik src tg c e=>tComp lv fr (ik.t K (X.dens E src)) (tgT K tg) (X.denT E0 c) (e.den E0)
 |E,.lr a b=>tCB (mList K) (tCons (tCB mRange (tCons (a.den E) (tCons (b.den E) tNil))) tNil)
 |_,.srt _ fr i e=>tSrt K fr i (e.den E0)
 |E,.mkd f c as dv=>tMake (gA K c) (CtG K f) ((flats dv).getD []) E (X.dens E as)
 |E,.ds1 a0 b0=>tDisp [(a0.den E,b0.den E)]
 |E,.ds2 a0 b0 c0 d0=>tDisp [(a0.den E,b0.den E),(c0.den E,d0.den E)]
 |E,.isa a n=>tCB (mIsaV K) (tCons (a.den E) (tCons (tC (.ty n)) tNil))
 |_,.dct0=>tDNewK
 |E,.ch3 o o' aJ a b c d=>mChain3 (o.r K) (o'.r K) (aJ.r K) (a.den E) (b.den E) (c.den E) (d.den E)
def X.dens:XK->List X->TA
 |_,[]=>tNil
 |E,a::as=>tCons (a.den E) (X.dens E as)
def X.denO:XK->Option X->TO
 |_,vk=>tNoPart
 |E,vj a=>mPart (a.den E)
def X.denT:XK->Option X->TT
 |_,vk=>tTrue
 |E,vj a=>mTest (a.den E)
end
end
def chD (o o':Bo)(x y:D)(r:Mo D):Mo D:=(o.f x y).bind λz=>(blD z).bind λb=>if b then r.bind λw=>o'.f y w else .ok (.bl vn)
def ch3D (o o' aJ:Bo)(x y:D)(r s:Mo D):Mo D:=(o.f x y).bind λz=>(blD z).bind λb=>if b then r.bind λw=>chD o' aJ y w s else .ok (.bl vn)
section
variable (G:Gi)
mutual
def X.ev:Env->X->Mo D
 |env,.v i=>getE env i
 |_,.k d=>if d.flat?.isSome then .ok d else .no
 |_,.g _ d=>if d.flat?.isSome then .ok d else .no
 |_,.gt x ls=>if(x,ls)∈G.kt then .ok (.nd .ktup (ls.map .str))else .no
 |env,.bin o a b=>(a.ev env).bind λx=>(b.ev env).bind λy=>o.f x y
 |env,.ch o o' a b c=>(a.ev env).bind λx=>(b.ev env).bind λy=>chD o o' x y (c.ev env)
 |env,.and a b=>(a.ev env).bind λx=>andD x (b.ev env)
 |env,.or a b=>(a.ev env).bind λx=>orD x (b.ev env)
 |env,.not a=>(a.ev env).bind λx=>(blD x).bind λb=>.ok (.bl (!b))
 |env,.neg a=>(a.ev env).bind negD
 |env,.ifx c a b=>((c.ev env).bind blD).bind λt=>if t then a.ev env else b.ev env
 |env,.sl a lo hi=>(a.ev env).bind λx=>(X.evO env lo).bind λl=>(X.evO env hi).bind λh=>slA x l h
 |env,.tup as=>(X.evs env as).bind λds=>.lim ds.length (.ok (.nd .tup ds))
 |env,.lst as=>(X.evs env as).bind λds=>.lim ds.length (.ok (.nd .lst ds))
 |env,.fld a f=>(a.ev env).bind (fldD G.cs f)
 |env,.call f _ as=>(X.evs env as).bind λds=>f.val (ds.map .vw)
 |env,.bf o as=>(X.evs env as).bind o.f
 |env,.sm o a as=>(a.ev env).bind λd=>(strOf d).bind λl=>(X.evs env as).bind λc=>o.f l c
 |env,.comp lv fr ik src tg c e=>if tg.is.all (·<lv.length)then(((X.evs env src).bind ik.f).bind λl=>.opt (tgsD tg l)).bind λxs=>(compM (λx=>cond1 (X.evT (setE (cE lv fr env) tg.is x) c) (e.ev (setE (cE lv fr env) tg.is x))) xs []).bind λys=>.ok (.nd .lst ys)else .no
 |env,.lr a b=>(a.ev env).bind λx=>(b.ev env).bind λy=>lrD x y
 |env,.srt p fr i e=>(getE env i).bind λd=>(strL d).bind λls=>.grd (ls.length<64) ((compM (λx=>cond1 (.ok vm) (e.ev (setE (cE [p] fr env) [0] x))) (ls.map λl=>[D.str l]) []).bind λks=>srtK ls ks)
 |env,.mkd f c as dv=>if(flats dv).isSome then(X.evs env as).bind λds=>makeD f c (ds++dv)else .no
 |env,.ds1 a0 b0=>(a0.ev env).bind λa=>(b0.ev env).bind λb=>dspD [a,b]
 |env,.ds2 a0 b0 c0 d0=>(a0.ev env).bind λa=>(b0.ev env).bind λb=>(c0.ev env).bind λc=>(d0.ev env).bind λd=>dspD [a,b,c,d]
 |env,.isa a n=>(a.ev env).bind (isaD n)
 |_,.dct0=>.ok (.nd (.dct []) [])
 |env,.ch3 o o' aJ a b c d=>(a.ev env).bind λx=>(b.ev env).bind λy=>ch3D o o' aJ x y (c.ev env) (d.ev env)
def X.evs:Env->List X->Mo (List D)
 |_,[]=>.ok []
 |env,a::as=>(a.ev env).bind λd=>(X.evs env as).bind λds=>.ok (d::ds)
def X.evO:Env->Option X->Mo (Option Int)
 |_,vk=>.ok vk
 |env,vj a=>(a.ev env).bind λd=>(intD d).bind λi=>.ok (vj i)
def X.evT:Env->Option X->Mo Bool
 |_,vk=>.ok vm
 |env,vj a=>(a.ev env).bind blD
end
end
section
variable {K:mR}{E:XK}{env:Env}{G:Gi}
theorem zky_ (o:Bo):Op2D K (o.r K) E o.f:=by
 cases o with
 |add=>exact zod_
 |sub=>exact zrm_
 |mul=>exact zpo_
 |mod=>exact zpV_
 |div=>exact zqb_
 |lt=>exact od_lt
 |le=>exact od_le
 |gt=>exact od_gt
 |ge=>exact od_ge
 |eq=>exact od_eq
 |ne=>exact od_ne
 |is=>exact od_is
 |isn=>exact zqW_
 |inn=>exact zlv_
 |nin=>exact zlv_
 |ix=>exact zro_
 |ned=>exact zqq_
theorem bf_ok (o:Bf):BlD K (o.r K) E o.f:=by
 cases o with
 |len=>exact zm7_
 |list=>exact zkL_
 |min=>exact zrn_
 |str=>exact zqY_
 |all=>exact zo6_
 |sorted=>exact zj8_
theorem sm_ok (o:Sm):MeD K (o.r K) E o.f:=by
 cases o with
 |join=>exact zmh_
 |index=>exact zk7_
 |zfill=>exact zjD_
theorem zj5_ {α:Type}{O:Own α}{m:Mo α}{F H:Hp}{Q:VK}(q:After K m E F H (λc F' H'=>∀v,O.fr.R c v F'->Q v H')):After K m E F H (OwnK O H Q):=by
 cases m with
 |no=>exact q
 |ex c=>exact q
 |ok a=>
  intro F' H' x v h' fresh d s o;refine q (un F' h') H' ⟨x.1.trans zW_,λp o e=>?_,x.2.2.1,λp a b=>?_⟩ v (O.frz d o)
  ·unfold un at e
   cases z:F' p with
   |some w=>rw[z]at e;cases e;exact x.2.1 _ _ z
   |none=>rw[z]at e;exact s _ _ e
  ·unfold un at b
   cases z:F' p with
   |some w=>exact x.2.2.2 p a (by rw[z];exact sN _)
   |none=>rw[z]at b;exact fresh p b
theorem ex_ch {o o':Bo}{t1 t2 t3:TE}{r1 r2 r3:Mo D}(h1:EvX K t1 E env r1)(h2:EvX K t2 E env r2)(h3:EvX K t3 E env r3):EvX K (mChain (o.r K) (o'.r K) t1 t2 t3) E env (r1.bind λx=>r2.bind λy=>chD o o' x y r3):=by
 intro σ F H Q hL hs q;refine ex_v h1 σ F H _ hL hs (q.bind.imp λa F1 H1 x1 k1 v1 aM=>?_)
 refine ex_v h2 σ F1 H1 _ (hL.mono x1.1) x1.2.1 (k1.bind.imp λb F2 H2 x2 k2 v2 c6=>?_)
 refine zky_ o a b v1 v2 F2 H2 _ x2.2.1 ((tyD K).mono x2.1 aM) c6 (zj5_ (k2.bind.imp λz F3 H3 x3 k3 w hw=>?_))
 have hz:=DR.un hw;unfold blD at k3;split at k3
 ·rename_i c e
  rw[e]at hz;cases hz.bl;refine⟨λz=>?_,λz=>?_⟩
  ·subst z
   refine ex_v h3 σ F3 H3 _ (hL.mono (x1.1.trans (x2.1.trans x3.1))) x3.2.1 (After.imp (After.bind (show After K (r3.bind λw=>o'.f b w) E F3 H3 _ from k3)) λw F4 H4 x4 k4 v4 dO=>?_)
   exact zky_ o' b w v2 v4 F4 H4 Q x4.2.1 ((tyD K).mono (x3.1.trans x4.1) c6) dO (k4.imp λa F5 H5 x5 k5=>k5.back (x1.2.2.1.trans (x2.2.2.1.trans (x3.2.2.1.trans x4.2.2.1))))
  ·subst z
   exact gotB (After.imp (show After K (.ok (D.bl vn)) E F3 H3 (OwnK (owD K) H Q)from k3) λa F5 H5 x5 k5=>k5.back (x1.2.2.1.trans (x2.2.2.1.trans x3.2.2.1))) x3.2.1
 ·exact k3.elim
theorem zpr_ {o o' aJ:Bo}{t1 t2 t3 t4:TE}{r1 r2 r3 r4:Mo D}(h1:EvX K t1 E env r1)(h2:EvX K t2 E env r2)(h3:EvX K t3 E env r3)(h4:EvX K t4 E env r4):EvX K (mChain3 (o.r K) (o'.r K) (aJ.r K) t1 t2 t3 t4) E env (r1.bind λx=>r2.bind λy=>ch3D o o' aJ x y r3 r4):=by
 intro σ F H Q hL hs q;refine ex_v h1 σ F H _ hL hs (q.bind.imp λa F1 H1 x1 k1 v1 aM=>?_)
 refine ex_v h2 σ F1 H1 _ (hL.mono x1.1) x1.2.1 (k1.bind.imp λb F2 H2 x2 k2 v2 c6=>?_)
 refine zky_ o a b v1 v2 F2 H2 _ x2.2.1 ((tyD K).mono x2.1 aM) c6 (zj5_ (k2.bind.imp λz F3 H3 x3 k3 w hw=>?_))
 have hz:=DR.un hw;unfold blD at k3;split at k3
 ·rename_i c e
  rw[e]at hz;cases hz.bl;refine⟨λz=>?_,λz=>?_⟩
  ·subst z
   refine ex_v h3 σ F3 H3 _ (hL.mono (x1.1.trans (x2.1.trans x3.1))) x3.2.1 (After.imp (After.bind (show After K (r3.bind λw=>chD o' aJ b w r4) E F3 H3 _ from k3)) λw F4 H4 x4 k4 v4 dO=>?_)
   refine zky_ o' b w v2 v4 F4 H4 _ x4.2.1 ((tyD K).mono (x3.1.trans x4.1) c6) dO (zj5_ ((After.bind (show After K ((o'.f b w).bind _) E F4 H4 _ from k4)).imp λz5 F5 H5 x5 k5 w5 jt=>?_))
   have iF:=DR.un jt;unfold blD at k5;split at k5
   ·rename_i c5 e5
    rw[e5]at iF;cases iF.bl;refine⟨λz=>?_,λz=>?_⟩
    ·subst z
     refine ex_v h4 σ F5 H5 _ (hL.mono (x1.1.trans (x2.1.trans (x3.1.trans (x4.1.trans x5.1))))) x5.2.1 (After.imp (After.bind (show After K (r4.bind λw'=>aJ.f w w') E F5 H5 _ from k5)) λw' F6 H6 x6 k6 v6 ju=>?_)
     exact zky_ aJ w w' v4 v6 F6 H6 Q x6.2.1 ((tyD K).mono (x5.1.trans x6.1) dO) ju (k6.imp λa F7 H7 x7 k7=>k7.back (x1.2.2.1.trans (x2.2.2.1.trans (x3.2.2.1.trans (x4.2.2.1.trans (x5.2.2.1.trans x6.2.2.1))))))
    ·subst z
     exact gotB (After.imp (show After K (.ok (D.bl vn)) E F5 H5 (OwnK (owD K) H Q)from k5) λa F7 H7 x7 k7=>k7.back (x1.2.2.1.trans (x2.2.2.1.trans (x3.2.2.1.trans (x4.2.2.1.trans x5.2.2.1))))) x5.2.1
   ·exact k5.elim
  ·subst z
   exact gotB (After.imp (show After K (.ok (D.bl vn)) E F3 H3 (OwnK (owD K) H Q)from k3) λa F5 H5 x5 k5=>k5.back (x1.2.2.1.trans (x2.2.2.1.trans x3.2.2.1))) x3.2.1
 ·exact k3.elim
theorem ex_k {d:D}(i:Str):EvX K (tC (d.flat?.getD .non)) E env (if d.flat?.isSome then .ok d else .no):=by
 cases e:d.flat? with
 |none=>exact λσ F H Q hL hs q=>q.elim
 |some v=>
  intro σ F H Q hL hs q;have q:After K (.ok d) E F H (OwnK (owD K) H Q):=q;show Q v H
  cases d with
  |non=>cases e;exact gotN q hs
  |bl=>cases e;exact gotB q hs
  |int=>cases e;exact gotI q hs
  |str=>cases e;exact gotS q hs
  |_=>cases e
theorem zf8_:∀ls:List (List Nat),D.imms (ls.map .str)=vm
 |[]=>rfl
 |l::ls=>by rw[lB];unfold D.imms;rw[zf8_ ls];rfl
mutual
theorem X.sound (g0:G.Ok K):∀(x:X) (E:XK) (env:Env),EvX K (x.den K G E) E env (x.ev G env)
 |.v i,E,env=>znr_ i
 |.k d,E,env=>ex_k ""
 |.g x d,E,env=>ex_k x
 |.gt x ls,E,env=>by
  show EvX K _ E env (if _ then _ else _)
  by_cases h:(x,ls)∈G.kt
  ·rw[if_pos h]
   exact ex_c (λF=>by unfold DR;exact⟨_,_,rfl,g0.kt _ h,ziP_ ls⟩) (by unfold D.imm;exact zf8_ ls)
  ·rw[if_neg h];exact λσ F H Q hL hs q=>q.elim
 |.bin o a b,E,env=>ex_op (zky_ o) (X.sound g0 a E env) (X.sound g0 b E env)
 |.ch o o' a b c,E,env=>ex_ch (X.sound g0 a E env) (X.sound g0 b E env) (X.sound g0 c E env)
 |.and a b,E,env=>zq1_ (X.sound g0 a E env) (X.sound g0 b E env)
 |.or a b,E,env=>ex_or (X.sound g0 a E env) (X.sound g0 b E env)
 |.not a,E,env=>zqU_ (X.sound g0 a E env)
 |.neg a,E,env=>zqw_ (X.sound g0 a E env)
 |.ifx c a b,E,env=>ex_if (zgQ_ (X.sound g0 c E env)) (X.sound g0 a E env) (X.sound g0 b E env)
 |.sl a lo hi,E,env=>zqd_ (X.sound g0 a E env) (X.soundO g0 lo E env) (X.soundO g0 hi E env)
 |.tup as,E,env=>zo5_ (X.sounds g0 as E env)
 |.lst as,E,env=>zqG_ (X.sounds g0 as E env)
 |.fld a f,E,env=>zp3_ g0.cs (X.sound g0 a E env)
 |.call f x as,E,env=>znt_ (X.sounds g0 as E env)
 |.bf o as,E,env=>ex_cb (bf_ok o) (X.sounds g0 as E env)
 |.sm o a as,E,env=>ex_me (sm_ok o) (X.sound g0 a E env) (X.sounds g0 as E env)
 |.comp lv fr ik src tg c e,E,env=>by
  show EvX K _ E env (if _ then _ else _)
  split
  ·rename_i h
   exact ziO_ (ik_ok ik (X.sounds g0 src E env)) (λi hi=>by simpa using mG.mp h i hi) (λa=>X.soundT g0 c E0 _) (λa=>X.sound g0 e E0 _)
  ·exact λσ F H Q hL hs q=>q.elim
 |.lr a b,E,env=>ex_lr (X.sound g0 a E env) (X.sound g0 b E env)
 |.isa a n,E,env=>zqh_ n (X.sound g0 a E env)
 |.srt p fr i e,E,env=>zq3_ λa=>X.sound g0 e E0 _
 |.mkd f c as dv,E,env=>by
  show EvX K (tMake (gA K c) (CtG K f) ((flats dv).getD []) E _) E env (if(flats dv).isSome then _ else _)
  cases e:flats dv with
  |none=>exact ex_no
  |some au=>exact zqm_ (X.sounds g0 as E env) λF=>zgk_ e
 |.ds1 a0 b0,E,env=>by
  have:=zjf_ (trs:=[(_,_)]) (za7_ (X.sound g0 a0 E env) (za7_ (X.sound g0 b0 E env) zgq_));simp only[Mo.bind_assoc]at this;exact this
 |.ds2 a0 b0 c0 d0,E,env=>by
  have:=zjf_ (trs:=[(_,_),(_,_)]) (za7_ (X.sound g0 a0 E env) (za7_ (X.sound g0 b0 E env) (za7_ (X.sound g0 c0 E env) (za7_ (X.sound g0 d0 E env) zgq_))));simp only[Mo.bind_assoc]at this;exact this
 |.dct0,E,env=>znU_
 |.ch3 o o' aJ a b c d,E,env=>zpr_ (X.sound g0 a E env) (X.sound g0 b E env) (X.sound g0 c E env) (X.sound g0 d E env)
theorem X.sounds (g0:G.Ok K):∀(as:List X) (E:XK) (env:Env),EvAs K (X.dens K G E as) E env (X.evs G env as)
 |[],E,env=>zgq_
 |a::as,E,env=>za7_ (X.sound g0 a E env) (X.sounds g0 as E env)
theorem X.soundO (g0:G.Ok K):∀(a:Option X) (E:XK) (env:Env),EvP K (X.denO K G E a) E (Lof K env) (X.evO G env a)
 |none,E,env=>ep_no
 |some a,E,env=>ep_x (X.sound g0 a E env)
theorem X.soundT (g0:G.Ok K):∀(a:Option X) (E:XK) (env:Env),EvT K (X.denT K G E a) E (Lof K env) (X.evT G env a)
 |none,E,env=>zmd_
 |some a,E,env=>zgQ_ (X.sound g0 a E env)
end
end
mutual
def X.uses:X->List Nat
 |.v i=>[i]
 |.k _=>[]
 |.g _ _=>[]
 |.gt _ _=>[]
 |.bin _ a b=>a.uses++b.uses
 |.ch _ _ a b c=>a.uses++b.uses++c.uses
 |.and a b=>a.uses++b.uses
 |.or a b=>a.uses++b.uses
 |.not a=>a.uses
 |.neg a=>a.uses
 |.ifx c a b=>c.uses++a.uses++b.uses
 |.sl a lo hi=>a.uses++X.usesO lo++X.usesO hi
 |.tup as=>X.usesL as
 |.lst as=>X.usesL as
 |.fld a _=>a.uses
 |.call _ _ as=>X.usesL as
 |.bf _ as=>X.usesL as
 |.sm _ a as=>a.uses++X.usesL as
 |.comp _ fr _ src _ _ _=>X.usesL src++fr.map (·.2)
 |.lr a b=>a.uses++b.uses
 |.isa a _=>a.uses
 |.srt _ fr i _=>i::fr.map (·.2)
 |.mkd _ _ as _=>X.usesL as
 |.ds1 a0 b0=>a0.uses++b0.uses
 |.ds2 a0 b0 c0 d0=>a0.uses++(b0.uses++(c0.uses++d0.uses))
 |.dct0=>[]
 |.ch3 _ _ _ a b c d=>(a.uses++b.uses)++(c.uses++d.uses)
def X.usesL:List X->List Nat
 |[]=>[]
 |a::as=>a.uses++X.usesL as
def X.usesO:Option X->List Nat
 |none=>[]
 |some a=>a.uses
end
def Alike (is:List Nat)(e e':Env):Prop:=∀i∈is,getE e i=getE e' i
theorem Alike.l {is js:List Nat}{e e':Env}(h:Alike (is++js) e e'):Alike is e e':=λi hi=>h i (pz _ hi)
theorem Alike.r {is js:List Nat}{e e':Env}(h:Alike (is++js) e e'):Alike js e e':=λi hi=>h i (l7 _ hi)
section
variable {G:Gi}
theorem ziG_ {lv:List Str}{fr:List (Str×Nat)}{e e':Env}(h:Alike (fr.map (·.2)) e e')(j:Nat):getE (cE lv fr e) j=getE (cE lv fr e') j:=by
 unfold cE;by_cases hj:j<lv.length
 ·unfold getE
  rw[mU (by rw[lq];exact hj),mU (by rw[lq];exact hj)]
 ·have hj:=pZ hj
  have key:∀e:Env,getE (lv.map (λ_=>vk)++fr.map λq=>(e[q.2]?).join) j=match fr[j-lv.length]? with |some q=>getE e q.2 |none=>.no:=λe=>by
   unfold getE;rw[mH (by rw[lq];exact hj),lq,lK]
   cases fr[j-lv.length]? with
   |none=>rfl
   |some q=>
    rw[Option.map_some];dsimp only;cases e[q.2]? with |none=>rfl |some o=>cases o<;>rfl
  rw[key,key];cases z:fr[j-lv.length]? with
  |none=>rfl
  |some q=>exact h q.2 (nW.mpr ⟨q,m8 z,rfl⟩)
theorem zk2_ {e e':Env}{i:Nat}{o:Option D}(hl:e.length=e'.length)(h:∀j,getE e j=getE e' j)(j:Nat):getE (e.set i o) j=getE (e'.set i o) j:=by
 by_cases hj:i=j
 ·subst hj
  unfold getE;rw[nO,nO,if_pos rfl,if_pos rfl,hl]
 ·have:=h j
  unfold getE at this ⊢;rw[l6 hj,l6 hj];exact this
theorem zcS_:∀{is:List Nat}{ds:List D}{e e':Env},e.length=e'.length->(∀j,getE e j=getE e' j)->∀j,getE (setE e is ds) j=getE (setE e' is ds) j
 |[],_,_,_,_,h=>h
 |_::_,[],_,_,_,h=>h
 |i::is,d::ds,e,e',hl,h=>λj=>zcS_ (is:=is) (ds:=ds) (e:=e.set i (vj d.vw)) (e':=e'.set i (vj d.vw)) (by rw[nj,nj,hl]) (zk2_ hl h) j
theorem znW_ {lv:List Str}{fr:List (Str×Nat)}{e e':Env}:(cE lv fr e).length=(cE lv fr e').length:=by unfold cE;simp
mutual
theorem X.ev_uses:∀(x:X) {e e':Env},Alike x.uses e e'->x.ev G e=x.ev G e'
 |.v i,e,e',h=>h i (List.mem_singleton_self _)
 |.k d,e,e',h=>rfl
 |.g x d,e,e',h=>rfl
 |.gt x ls,e,e',h=>rfl
 |.bin o a b,e,e',h=>by show Mo.bind _ _=Mo.bind _ _;rw[X.ev_uses a h.l,X.ev_uses b h.r]
 |.ch o o' a b c,e,e',h=>by show Mo.bind _ _=Mo.bind _ _;rw[X.ev_uses a h.l.l,X.ev_uses b h.l.r,X.ev_uses c h.r]
 |.and a b,e,e',h=>by show Mo.bind _ _=Mo.bind _ _;rw[X.ev_uses a h.l,X.ev_uses b h.r]
 |.or a b,e,e',h=>by show Mo.bind _ _=Mo.bind _ _;rw[X.ev_uses a h.l,X.ev_uses b h.r]
 |.not a,e,e',h=>by show Mo.bind _ _=Mo.bind _ _;rw[X.ev_uses a h]
 |.neg a,e,e',h=>by show Mo.bind _ _=Mo.bind _ _;rw[X.ev_uses a h]
 |.ifx c a b,e,e',h=>by show Mo.bind _ _=Mo.bind _ _;rw[X.ev_uses c h.l.l,X.ev_uses a h.l.r,X.ev_uses b h.r]
 |.sl a lo hi,e,e',h=>by show Mo.bind _ _=Mo.bind _ _;rw[X.ev_uses a h.l.l,X.evO_uses lo h.l.r,X.evO_uses hi h.r]
 |.tup as,e,e',h=>by show Mo.bind _ _=Mo.bind _ _;rw[X.evs_uses as h]
 |.lst as,e,e',h=>by show Mo.bind _ _=Mo.bind _ _;rw[X.evs_uses as h]
 |.fld a f,e,e',h=>by show Mo.bind _ _=Mo.bind _ _;rw[X.ev_uses a h]
 |.call f x as,e,e',h=>by show Mo.bind _ _=Mo.bind _ _;rw[X.evs_uses as h]
 |.bf o as,e,e',h=>by show Mo.bind _ _=Mo.bind _ _;rw[X.evs_uses as h]
 |.sm o a as,e,e',h=>by show Mo.bind _ _=Mo.bind _ _;rw[X.ev_uses a h.l,X.evs_uses as h.r]
 |.comp lv fr ik src tg c x,e,e',h=>by
  show(if _ then Mo.bind _ _ else _)=(if _ then Mo.bind _ _ else _)
  rw[X.evs_uses src h.l];have g:∀ds j,getE (setE (cE lv fr e) tg.is ds) j=getE (setE (cE lv fr e') tg.is ds) j:=λds=>zcS_ znW_ (ziG_ h.r)
  have g1:∀ds,X.evT G (setE (cE lv fr e) tg.is ds) c=X.evT G (setE (cE lv fr e') tg.is ds) c:=λds=>X.evT_uses c λi _=>g ds i
  have g2:∀ds,x.ev G (setE (cE lv fr e) tg.is ds)=x.ev G (setE (cE lv fr e') tg.is ds):=λds=>X.ev_uses x λi _=>g ds i
  have g3:(λds=>cond1 (X.evT G (setE (cE lv fr e) tg.is ds) c) (x.ev G (setE (cE lv fr e) tg.is ds)))=λds=>cond1 (X.evT G (setE (cE lv fr e') tg.is ds) c) (x.ev G (setE (cE lv fr e') tg.is ds)):=funext λds=>by rw[g1,g2]
  rw[g3]
 |.lr a b,e,e',h=>by show Mo.bind _ _=Mo.bind _ _;rw[X.ev_uses a h.l,X.ev_uses b h.r]
 |.isa a n,e,e',h=>by show Mo.bind _ _=Mo.bind _ _;rw[X.ev_uses a h]
 |.srt p fr i x,e,e',h=>by
  show Mo.bind _ _=Mo.bind _ _
  rw[h i (lW ..)];have g:∀ds j,getE (setE (cE [p] fr e) [0] ds) j=getE (setE (cE [p] fr e') [0] ds) j:=λds=>zcS_ znW_ (ziG_ λi hi=>h i (lV _ hi))
  have g3:(λds=>cond1 (.ok vm) (x.ev G (setE (cE [p] fr e) [0] ds)))=λds=>cond1 (.ok vm) (x.ev G (setE (cE [p] fr e') [0] ds)):=funext λds=>by rw[X.ev_uses x λi _=>g ds i]
  rw[g3]
 |.mkd f c as dv,e,e',h=>by show(if _ then Mo.bind _ _ else _)=(if _ then Mo.bind _ _ else _);rw[X.evs_uses as h]
 |.ds1 a0 b0,e,e',h=>by show Mo.bind _ _=Mo.bind _ _;rw[X.ev_uses a0 h.l,X.ev_uses b0 h.r]
 |.ds2 a0 b0 c0 d0,e,e',h=>by show Mo.bind _ _=Mo.bind _ _;rw[X.ev_uses a0 h.l,X.ev_uses b0 h.r.l,X.ev_uses c0 h.r.r.l,X.ev_uses d0 h.r.r.r]
 |.dct0,e,e',h=>rfl
 |.ch3 o o' aJ a b c d,e,e',h=>by show Mo.bind _ _=Mo.bind _ _;rw[X.ev_uses a h.l.l,X.ev_uses b h.l.r,X.ev_uses c h.r.l,X.ev_uses d h.r.r]
theorem X.evs_uses:∀(as:List X) {e e':Env},Alike (X.usesL as) e e'->X.evs G e as=X.evs G e' as
 |[],e,e',h=>rfl
 |a::as,e,e',h=>by show Mo.bind _ _=Mo.bind _ _;rw[X.ev_uses a h.l,X.evs_uses as h.r]
theorem X.evO_uses:∀(a:Option X) {e e':Env},Alike (X.usesO a) e e'->X.evO G e a=X.evO G e' a
 |none,e,e',h=>rfl
 |some a,e,e',h=>by show Mo.bind _ _=Mo.bind _ _;rw[X.ev_uses a h]
theorem X.evT_uses:∀(a:Option X) {e e':Env},Alike (X.usesO a) e e'->X.evT G e a=X.evT G e' a
 |none,e,e',h=>rfl
 |some a,e,e',h=>by show Mo.bind _ _=Mo.bind _ _;rw[X.ev_uses a h]
end
end
mutual
noncomputable def D.cold:D->Bool
 |.nd .tup ds=>D.colds ds
 |.nd .ktup ds=>D.colds ds
 |.nd _ _=>vn
 |_=>vm
noncomputable def D.colds:List D->Bool
 |[]=>vm
 |d::ds=>d.cold && D.colds ds
end
section
variable {K:mR}{E:XK}{F F' F0 F1 F2 H0 h h1 h2 h3 k H H' H1 H2:Hp}{d:D}{ds:List D}{v:V}{us vs:List V}{p:lE}{Q:VK}{env:Env}{t:TE}{ws:Ws}{σ:L2.St}{G:Gi}
theorem OD.cold:∀{d:D}{v:V}{h:Hp},d.cold=vm->OD K d v F h->(∀p,h p=vk)/\DR K d v F
 |.nd .tup ds,_,h,z,q=>by
  unfold D.cold at z;unfold OD at q;obtain⟨p,us,h0,h2,e,c,j,r⟩:=q;obtain⟨n,r⟩:=go z r;refine⟨λp=>?_,by unfold DR;exact⟨p,us,e,c.1,r⟩⟩
  rcases j p with⟨_,y⟩|⟨_,y⟩
  ·rw[y,n]
  ·rw[y,c.2]
 |.nd .ktup ds,_,h,z,q=>by
  unfold D.cold at z;unfold OD at q;obtain⟨p,us,h0,h2,e,c,j,r⟩:=q;obtain⟨n,r⟩:=go z r;refine⟨λp=>?_,by unfold DR;exact⟨p,us,e,c.1,r⟩⟩
  rcases j p with⟨_,y⟩|⟨_,y⟩
  ·rw[y,n]
  ·rw[y,c.2]
 |.nd .lst _,_,_,z,_=>by simp[D.cold]at z
 |.nd .scr _,_,_,z,_=>by simp[D.cold]at z
 |.nd (.dct _) _,_,_,z,_=>by simp[D.cold]at z
 |.nd (.obj _ _) _,_,_,z,_=>by simp[D.cold]at z
 |.non,_,_,_,q=>by unfold OD at q;exact q
 |.bl _,_,_,_,q=>by unfold OD at q;exact q
 |.int _,_,_,_,q=>by unfold OD at q;exact q
 |.str _,_,_,_,q=>by unfold OD at q;exact q
 |.fz _,_,_,_,q=>by unfold OD at q;exact q
 |.pin _,_,_,_,q=>by unfold OD at q;exact q
 |.gone,_,_,_,q=>by unfold OD at q;exact q
where go:∀{ds:List D}{us:List V}{h:Hp},D.colds ds=vm->ODs K ds us F h->(∀p,h p=vk)/\DRs K ds us F
 |[],_,_,_,q=>by unfold ODs at q;exact⟨q.2,by unfold DRs;exact q.1⟩
 |d::ds,_,h,z,q=>by
  unfold D.colds at z;obtain⟨z1,z2⟩:=ml.mp z;unfold ODs at q;obtain⟨v,vs,h1,h2,e,j,a,r⟩:=q;obtain⟨n1,a⟩:=OD.cold z1 a;obtain⟨n2,r⟩:=go z2 r;refine⟨λp=>?_,by unfold DRs;exact⟨v,vs,e,a,r⟩⟩
  rcases j p with⟨_,y⟩|⟨_,y⟩
  ·rw[y,n2]
  ·rw[y,n1]
theorem zd5_:∀{d:D},d.imm=vm->d.cold=vm
 |.nd .tup ds,z=>by unfold D.imm at z;unfold D.cold;exact go z
 |.nd .ktup ds,z=>by unfold D.imm at z;unfold D.cold;exact go z
 |.nd .lst _,z=>by simp[D.imm]at z
 |.nd .scr _,z=>by simp[D.imm]at z
 |.nd (.dct _) _,z=>by simp[D.imm]at z
 |.nd (.obj _ _) _,z=>by simp[D.imm]at z
 |.non,_=>rfl
 |.bl _,_=>rfl
 |.int _,_=>rfl
 |.str _,_=>rfl
 |.fz _,_=>rfl
 |.pin _,_=>rfl
 |.gone,_=>rfl
where go:∀{ds:List D},D.imms ds=vm->D.colds ds=vm
 |[],_=>rfl
 |d::ds,z=>by
  unfold D.imms at z;obtain⟨z1,z2⟩:=ml.mp z;unfold D.colds;rw[zd5_ z1,go z2];rfl
theorem zn5_ (d:D):d.vw.cold=vm:=by
 unfold D.vw;split
 ·exact zd5_ (by assumption)
 ·split<;>rfl
theorem vw_vw (d:D):d.vw.vw=d.vw:=by
 unfold D.vw;by_cases h:d.imm=vm
 ·rw[if_pos h,if_pos h]
 ·rw[if_neg h]
  cases d with
  |fz d=>dsimp only;rw[if_neg h]
  |_=>dsimp only;rw[if_neg (by unfold D.imm;exact h)]
theorem zaL_ (ok:Okk F0 H0 F1 h H1)(j:Jn k h2 h)(ay:Okk F1 (less H1 h2) F2 h3 H2):Same F1 F2/\Dj k h3/\Okk F0 H0 F2 (un k h3) H2:=by
 obtain⟨x,d,s,fr,nt⟩:=ok;obtain⟨x2,d2,s2,fm,nt2⟩:=ay;have kh:∀p,k p≠vk->(less H1 h2) p≠vk:=λp z=>by
  cases y:k p with
  |none=>exact absurd y z
  |some o=>
   have n2:h2 p=vk:=by
    rcases j.dj p with w |w
    ·rw[w]at y;cases y
    ·exact w
   rw[zab_ n2,s _ _ (j.l _ _ y)];exact sN _
 have dk:Dj k h3:=λp=>by
  cases y:k p with
  |none=>exact .inl rfl
  |some o=>
   right;cases w:h3 p with
   |none=>rfl
   |some o'=>exact absurd (fm p (by rw[w];exact sN _)) (kh p (by rw[y];exact sN _))
 have hG:Same H0 (less H1 h2):=λp o e=>by
  have n2:h2 p=vk:=by
   cases w:h2 p with
   |none=>rfl
   |some o'=>have:=fr p (by rw[j.r _ _ w];exact sN _);rw[this]at e;cases e
  rw[zab_ n2];exact x.2.2.1 _ _ e
 refine⟨x2.1,dk,⟨x.1.trans x2.1,x2.2.1,hG.trans x2.2.2.1,λp a b=>?_⟩,λp=>?_,λp o e=>?_,λp z=>?_,λp xs e=>?_⟩
 ·cases y:F1 p with
  |some o=>exact x.2.2.2 p a (by rw[y];exact sN _)
  |none=>exact hG.free (x2.2.2.2 p y b)
 ·unfold un
  cases y:k p with
  |none=>exact d2 p
  |some o=>
   left;cases w:F2 p with
   |none=>rfl
   |some o'=>
    have n1:F1 p=vk:=by
     rcases d p with z |z
     ·exact z
     ·rw[j.l _ _ y]at z;cases z
    exact absurd (x2.2.2.2 p n1 (by rw[w];exact sN _)) (kh p (by rw[y];exact sN _))
 ·unfold un at e
  cases y:k p with
  |none=>rw[y]at e;exact s2 _ _ e
  |some o'=>
   rw[y]at e;cases e;refine x2.2.2.1 _ _ ?_;have n2:h2 p=vk:=by
    rcases j.dj p with w |w
    ·rw[w]at y;cases y
    ·exact w
   rw[zab_ n2];exact s _ _ (j.l _ _ y)
 ·unfold un at z
  cases y:k p with
  |none=>rw[y]at z;exact hG.free (fm p z)
  |some o=>exact fr p (by rw[j.l _ _ y];exact sN _)
 ·unfold un at e
  cases y:k p with
  |none=>rw[y]at e;exact nt2 p xs e
  |some o=>rw[y]at e;cases e;exact nt p xs (j.l _ _ y)
theorem zgF_ (ok:Okk F0 H0 F1 h H1)(j:Jn k h2 h):Okk F1 (less H1 h2) F1 h2 H1:=
 zbq_ ok.1.2.1 (dj_r ok.2.1 j) (j.r.trans ok.2.2.1) λp xs e=>ok.2.2.2.2 p xs (j.r _ _ e)
theorem zbO_ {c:Xc}(ok:Okk F0 H0 F1 h H1)(j:Jn k h2 h)(t:Tell K E c H0 F2 H2):Tell K E c (less H1 h2) F2 H2:=by
 refine t.up λp o e=>?_
 have n2:h2 p=vk:=by
  cases w:h2 p with
  |none=>rfl
  |some o'=>have:=ok.2.2.2.1 p (by rw[j.r _ _ w];exact sN _);rw[this]at e;cases e
 rw[zab_ n2];exact ok.1.2.2.1 _ _ e
def frz1 (env:Env)(i:Nat):Env:=match env[i]? with |some (vj d)=>env.set i (vj d.vw)|_=>env
def frzE (env:Env)(is:List Nat):Env:=is.foldl frz1 env
theorem zhw_ {i:Nat}(hL:Hold (LofW K ws env) σ F h)(ok:Okk F0 H0 F h H):∃F' h',Hold (LofW K ws (frz1 env i)) σ F' h'/\Okk F0 H0 F' h' H:=by
 unfold frz1;split
 ·rename_i d hi
  obtain⟨o,k1,k2,e1,j,pp,f⟩:=Hold.atG hL (zbw_ hi);obtain⟨v,rfl,hv,od⟩:=zdd_ pp;obtain⟨o1,o2,o3,o4,o5⟩:=ok;have d1:DR K d v (un F k1):=OD.view zW_ (zdJ_ (dj_l o2 j)) od;refine⟨un F k1,k2,?_,⟨o1.1.trans zW_,λp o e=>?_,o1.2.2.1,λp a b=>?_⟩,λp=>?_,j.r.trans o3,λp z=>?_,λp xs e=>o5 p xs (j.r _ _ e)⟩
  ·have:=f (slotW K (ws i) (vj d.vw)) (vj v) (un F k1) (λ_=>vk) k2 zW_ (zcH_ hv (OD.vw (λ_=>rfl) d1)) λp=>.inl ⟨rfl,rfl⟩
   rw[zcO_,zcL_ e1]at this;exact this
  ·unfold un at e
   cases z:F p with
   |some w=>rw[z]at e;cases e;exact o1.2.1 _ _ z
   |none=>rw[z]at e;exact o3 _ _ (j.l _ _ e)
  ·unfold un at b
   cases z:F p with
   |some w=>exact o1.2.2.2 p a (by rw[z];exact sN _)
   |none=>
    rw[z]at b;cases y:k1 p with
    |none=>exact absurd y b
    |some w=>exact o4 p (by rw[j.l _ _ y];exact sN _)
  ·unfold un
   cases z:F p with
   |some w=>
    rcases dj_r o2 j p with y |y
    ·rw[y]at z;cases z
    ·exact .inr y
   |none=>exact j.dj p
  ·cases y:k2 p with
   |none=>exact absurd y z
   |some w=>exact o4 p (by rw[j.r _ _ y];exact sN _)
 ·exact⟨F,h,hL,ok⟩
theorem zfM_:∀(is:List Nat) {env:Env}{F h:Hp},Hold (LofW K ws env) σ F h->Okk F0 H0 F h H->∃F' h',Hold (LofW K ws (frzE env is)) σ F' h'/\Okk F0 H0 F' h' H
 |[],env,F,h,hL,ok=>⟨F,h,hL,ok⟩
 |i::is,env,F,h,hL,ok=>by
  obtain⟨F1,h1,a,b⟩:=zhw_ (i:=i) hL ok;exact zfM_ is a b
theorem zhF_ (env:Env)(i j:Nat):getE (frz1 env i) j=getE env j:=by
 unfold frz1;split
 ·rename_i d hi
  unfold getE;by_cases e:i=j
  ·subst e;rw[nA (lO.mp hi).1,hi];dsimp only;rw[vw_vw]
  ·rw[l6 e]
 ·rfl
theorem zhh_:∀(is:List Nat) (env:Env) (j:Nat),getE (frzE env is) j=getE env j
 |[],_,_=>rfl
 |i::is,env,j=>(zhh_ is (frz1 env i) j).trans (zhF_ env i j)
def coldE (env:Env):Env:=env.map λo=>o.bind λd=>if d.cold then vj d else vk
def Cold (env:Env)(i:Nat):Prop:=∀d,env[i]?=vj (vj d)->d.cold=vm
theorem zen_ {env:Env}{i j:Nat}(h:i=j\/Cold env j):Cold (frz1 env i) j:=by
 unfold frz1;split
 ·rename_i d hi
  intro d' e;by_cases z:i=j
  ·subst z;rw[nA (lO.mp hi).1]at e;cases e;exact zn5_ d
  ·rw[l6 z]at e
   rcases h with h |h
   ·exact absurd h z
   ·exact h d' e
 ·rename_i hi
  rcases h with h |h
  ·subst h;exact λd e=>absurd e (hi d)
  ·exact h
theorem zg8_:∀(is:List Nat) {env:Env}{j:Nat},(j∈is\/Cold env j)->Cold (frzE env is) j
 |[],env,j,h=>by rcases h with h |h;exact absurd h (by simp);exact h
 |i::is,env,j,h=>zg8_ is (by
  rcases h with h |h
  ·rcases lQ.mp h with h |h
   ·exact .inr (zen_ (.inl h.symm))
   ·exact .inl h
  ·exact .inr (zen_ (.inr h)))
theorem zgu_ {i:Nat}(h:Cold env i):getE (coldE env) i=getE env i:=by
 unfold getE coldE;rw[lK];cases z:env[i]? with
 |none=>rfl
 |some o=>
  cases o with
  |none=>rfl
  |some d=>
   have:=h d z;simp[this]
theorem zf6_ (hL:Hold (LofW K ws env) σ F h):HoldF (Lof K (coldE env)) σ F:=by
 intro i s e;unfold coldE at e;rw[lK,lK]at e;cases z:env[i]? with
 |none=>rw[z]at e;cases e
 |some o=>
  rw[z]at e;cases e;cases o with
  |none=>trivial
  |some d=>
   by_cases c:d.cold=vm
   ·simp only[Option.bind,c,if_true]
    obtain⟨o,k1,k2,e1,j,pp,f⟩:=Hold.atG hL (zbw_ z);obtain⟨v,rfl,hv,od⟩:=zdd_ pp;rw[e1];exact⟨v,rfl,(OD.cold c od).2⟩
   ·simp only[Option.bind,c]
    trivial
def FinE (K:mh)(r:Mr Env D)(E:XK)(ws:Ws)(σ:L2.St)(F0 H0:Hp)(Q:VK):Prop:=match r with
 |.ok d env=>∀v F hr h2 h H,Hold (LofW K ws env) σ F h2->OD K d v F hr->Jn hr h2 h->Okk F0 H0 F h H->Q v H
 |.ex c env=>∀F h H,Hold (LofW K ws env) σ F h->Okk F0 H0 F h H->Tell K E c H0 F H
 |.no=>False
def EvE (K:mh)(t:TE)(E:XK)(ws:Ws)(env:Env)(r:Mr Env D):Prop:=
 ∀F0 H0 σ F h H (Q:VK),Hold (LofW K ws env) σ F h->Okk F0 H0 F h H->FinE K r E ws σ F0 H0 Q->t σ H Q
def FinK (K:mh)(r:Mr Env D)(E:XK)(ws:Ws)(σ:L2.St)(F0 H0 Hs:Hp)(Q:VK):Prop:=match r with
 |.ok d env=>∀v F hr h2 h H,Hold (LofW K ws env) σ F h2->OD K d v F hr->Jn hr h2 h->Okk F0 H0 F h H->Same Hs H->Q v H
 |.ex c env=>∀F h H,Hold (LofW K ws env) σ F h->Okk F0 H0 F h H->Tell K E c H0 F H
 |.no=>False
def EvK (K:mh)(t:TE)(E:XK)(ws:Ws)(env:Env)(r:Mr Env D):Prop:=
 ∀F0 H0 σ F h H (Q:VK),Hold (LofW K ws env) σ F h->Okk F0 H0 F h H->FinK K r E ws σ F0 H0 H Q->t σ H Q
theorem EvK.e {r:Mr Env D}(h:EvK K t E ws env r):EvE K t E ws env r:=λF0 H0 σ F hh H Q hL ok fin=>h F0 H0 σ F hh H Q hL ok (by
 cases r with
 |no=>exact fin
 |ex c e=>exact fin
 |ok d e=>exact λv F hr h2 h H' a b c d _=>fin v F hr h2 h H' a b c d)
def stX (G:Gi)(env:Env)(x:X):Mr Env D:=match x.ev G env with
 |.ok d=>if d.new then .ok d env else .ok d (frzE env x.uses)
 |.ex c=>.ex c env
 |.no=>.no
theorem ek_x (g0:G.Ok K)(x:X):EvK K (x.den K G E) E ws env (stX G env x):=by
 intro F0 H0 σ F h H Q hL ok fin;unfold stX at fin;cases e:x.ev G env with
 |no=>rw[e]at fin;exact fin.elim
 |ex c=>
  rw[e]at fin;refine X.sound g0 x E env σ (un F h) H _ (zcr_ (hL.froz ok.2.1)) ok.thaw ?_;rw[e];exact λF' H' y=>(fin _ _ _ (hL.mono (ok.back y).2.1) (ok.back y).1).back ok y
 |ok d=>
  rw[e]at fin;have fin:FinK K (if d.new then .ok d env else .ok d (frzE env x.uses)) E ws σ F0 H0 H Q:=fin
  by_cases dn:d.new=vm
  ·rw[if_pos dn]at fin
   refine X.sound g0 x E env σ (un F h) H _ (zcr_ (hL.froz ok.2.1)) ok.thaw ?_;rw[e];intro F' H' y v hn fresh dj hs o;obtain⟨o1,hsF,ht⟩:=ok.back y;have kx:Dj (less F' h) hn:=λp=>by
    unfold less;cases z:h p with
    |none=>exact dj p
    |some w=>exact .inl rfl
   have dh:Dj hn h:=zjF_ ok.2.2.1 fresh;refine fin v (less F' h) hn h (un hn h) H' (hL.mono hsF) (OD.newImm ht dn o) (zah_ dh) ⟨o1.1,λp=>?_,λp o e=>?_,λp z=>?_,λp xs z=>?_⟩ y.2.2.1
   ·unfold un
    cases z:hn p with
    |some w=>
     rcases kx p with y |y
     ·exact .inl y
     ·rw[y]at z;cases z
    |none=>exact o1.2.1 p
   ·unfold un at e
    cases z:hn p with
    |some w=>rw[z]at e;cases e;exact hs _ _ z
    |none=>rw[z]at e;exact o1.2.2.1 _ _ e
   ·unfold un at z
    cases y:hn p with
    |some w=>exact ok.1.2.2.1.free (fresh p (by rw[y];exact sN _))
    |none=>rw[y]at z;exact ok.2.2.2.1 p z
   ·unfold un at z
    cases y:hn p with
    |some w=>rw[y]at z;cases z;exact OD.notup o p xs y
    |none=>rw[y]at z;exact ok.2.2.2.2 p xs z
  ·rw[if_neg dn]at fin
   obtain⟨F1,hh,av,aw⟩:=zfM_ x.uses hL ok;have al:Alike x.uses (coldE (frzE env x.uses)) env:=λi hi=>(zgu_ (zg8_ x.uses (.inl hi))).trans (zhh_ _ _ _)
   refine X.sound g0 x E (coldE (frzE env x.uses)) σ F1 H _ (zf6_ av) aw.1.2.1 ?_;rw[X.ev_uses x al,e];intro F' H' y v hn fresh dj hs o;have o1:=aw.cold y;have dh:Dj hn hh:=zjF_ aw.2.2.1 fresh;refine fin v F' hn hh (un hn hh) H' (av.mono y.1) o (zah_ dh) ⟨o1.1,λp=>?_,λp o e=>?_,λp z=>?_,λp xs z=>?_⟩ y.2.2.1
   ·unfold un
    cases z:hn p with
    |some w=>
     rcases dj p with y |y
     ·exact .inl y
     ·rw[y]at z;cases z
    |none=>exact o1.2.1 p
   ·unfold un at e
    cases z:hn p with
    |some w=>rw[z]at e;cases e;exact hs _ _ z
    |none=>rw[z]at e;exact o1.2.2.1 _ _ e
   ·unfold un at z
    cases y:hn p with
    |some w=>exact aw.1.2.2.1.free (fresh p (by rw[y];exact sN _))
    |none=>rw[y]at z;exact aw.2.2.2.1 p z
   ·unfold un at z
    cases y:hn p with
    |some w=>rw[y]at z;cases z;exact OD.notup o p xs y
    |none=>rw[y]at z;exact aw.2.2.2.2 p xs z
theorem ee_x (g0:G.Ok K)(x:X):EvE K (x.den K G E) E ws env (stX G env x):=(ek_x g0 x).e
end
noncomputable def apartL:List Nat->List Nat->Bool
 |j::js,i::is=>j != i ||apartL js is
 |_,_=>vn
theorem zt_ {k:Nd}{ds:List D}{j:Nat}{js:List Nat}{a c:D}(e:ds[j]?=vj c):(D.nd k ds).put (j::js) a=.nd k (ds.set j (c.put js a)):=by rw[D.put,e]
theorem zx_ {k:Nd}{ds:List D}{j:Nat}{js:List Nat}{a:D}(e:ds[j]?=vk):(D.nd k ds).put (j::js) a=.nd k ds:=by rw[D.put,e]
theorem zbz_ {d a:D}{js:List Nat}(h:∀k ds,d≠.nd k ds)(hj:js≠[]):d.put js a=d:=by
 cases js with
 |nil=>exact absurd rfl hj
 |cons j js=>cases d with |nd k ds=>exact absurd rfl (h k ds)|_=>simp[D.put]
theorem zjh_ {d:D}{js:List Nat}(h:∀k ds,d≠.nd k ds)(hj:js≠[]):d.at js=vk:=by
 cases js with
 |nil=>exact absurd rfl hj
 |cons j js=>cases d with |nd k ds=>exact absurd rfl (h k ds)|_=>simp[D.at]
theorem znQ_ (d:D):(∃k ds,d=.nd k ds)\/∀k ds,d≠.nd k ds:=by
 cases d with
 |nd k ds=>exact .inl ⟨k,ds,rfl⟩
 |_=>exact .inr λk ds z=>by cases z
theorem zaS_ {α:Type}{l:List α}{j:Nat}{c x:α}(e:l[j]?=vj c):(l.set j x)[j]?=vj x:=nA (lO.mp e).1
theorem ziK_:∀(js:List Nat) (d a b:D),(d.put js a).put js b=d.put js b
 |[],d,a,b=>by rw[D.put,D.put]
 |j::js,d,a,b=>by
  rcases znQ_ d with⟨k,ds,rfl⟩|h
  ·cases e:ds[j]? with
   |none=>rw[zx_ e,zx_ e]
   |some c=>rw[zt_ e,zt_ e,zt_ (zaS_ e),pU,ziK_ js c a b]
  ·rw[zbz_ h (by simp),zbz_ h (by simp)]
theorem zfO_:∀(js is:List Nat) (d a b:D),apartL js is=vm->(d.put js a).put is b=(d.put is b).put js a
 |[],_,_,_,_,h=>by cases h
 |_::_,[],_,_,_,h=>by cases h
 |j::js,i::is,d,a,b,h=>by
  rcases znQ_ d with⟨k,ds,rfl⟩|hd
  ·by_cases ij:j=i
   ·subst ij
    cases e:ds[j]? with
    |none=>rw[zx_ e,zx_ e,zx_ e]
    |some c=>rw[zt_ e,zt_ e,zt_ (zaS_ e),zt_ (zaS_ e),pU,pU,zfO_ js is c a b (by simpa [apartL]using h)]
   ·cases e:ds[j]? with
    |none=>
     cases e2:ds[i]? with
     |none=>rw[zx_ e,zx_ e2,zx_ e]
     |some c2=>rw[zx_ e,zt_ e2,zx_ (by rw[l6 (λz=>ij z.symm)];exact e)]
    |some c=>
     cases e2:ds[i]? with
     |none=>rw[zt_ e,zx_ e2,zt_ e,zx_ (by rw[l6 ij];exact e2)]
     |some c2=>rw[zt_ e,zt_ e2,zt_ (by rw[l6 ij];exact e2),zt_ (by rw[l6 (λz=>ij z.symm)];exact e),tY _ _ ij]
  ·rw[zbz_ hd (by simp),zbz_ hd (by simp),zbz_ hd (by simp)]
theorem zmt_:∀(js:List Nat) (d a x:D),d.at js=vj x->(d.put js a).at js=vj a
 |[],d,a,x,h=>by rw[D.put,D.at]
 |j::js,d,a,x,h=>by
  rcases znQ_ d with⟨k,ds,rfl⟩|hd
  ·cases hk:k.own with
   |false=>rw[zbi_,hk]at h;cases h
   |true=>
    rw[zbi_,hk,cond_true]at h;obtain⟨c,e,h⟩:=lI.mp h;rw[zt_ e,zbi_,hk,cond_true,zaS_ e];exact zmt_ js c a x h
  ·rw[zjh_ hd (by simp)]at h;cases h
theorem zfr_:∀(js is:List Nat) (d a:D),apartL js is=vm->(d.put js a).at is=d.at is
 |[],_,_,_,h=>by cases h
 |_::_,[],_,_,h=>by cases h
 |j::js,i::is,d,a,h=>by
  rcases znQ_ d with⟨k,ds,rfl⟩|hd
  ·cases e:ds[j]? with
   |none=>rw[zx_ e]
   |some c=>
    rw[zt_ e,zbi_,zbi_];congr 1;by_cases ij:j=i
    ·subst ij
     rw[zaS_ e,e];exact zfr_ js is c a (by simpa [apartL]using h)
    ·rw[l6 ij]
  ·rw[zbz_ hd (by simp)]
theorem zcm_:∀{js is:List Nat},apartL js is=vm->apartL is js=vm
 |[],_,h=>by cases h
 |_::_,[],h=>by cases h
 |j::js,i::is,h=>by
  unfold apartL at h ⊢;rw[oB]at h ⊢;rcases h with h |h
  ·left;simpa [bne_iff_ne,ne_comm]using h
  ·right;exact zcm_ h
noncomputable abbrev Pl:=Nat×List Nat
def apart (q q':Pl):Bool:=q.1 != q'.1 ||apartL q.2 q'.2
def atE (env:Env)(q:Pl):Option D:=match env[q.1]? with |some (vj d)=>d.at q.2 |_=>vk
def putE (env:Env)(q:Pl)(c:D):Env:=match env[q.1]? with |some (vj d)=>env.set q.1 (vj (d.put q.2 c))|_=>env
theorem zl_ {env:Env}{q:Pl}{c d:D}(e:env[q.1]?=vj (vj d)):putE env q c=env.set q.1 (vj (d.put q.2 c)):=by unfold putE;rw[e]
theorem z0_ {env:Env}{q:Pl}{c:D}(e:∀d,env[q.1]?≠vj (vj d)):putE env q c=env:=by
 unfold putE;split
 ·rename_i d z;exact absurd z (e d)
 ·rfl
theorem ze0_ (env:Env)(i:Nat):(∃d,env[i]?=vj (vj d))\/∀d,env[i]?≠vj (vj d):=by
 cases env[i]? with
 |none=>exact .inr λd z=>by cases z
 |some o=>cases o with |none=>exact .inr λd z=>by cases z |some d=>exact .inl ⟨d,rfl⟩
theorem zh9_ (env:Env)(q:Pl)(a b:D):putE (putE env q a) q b=putE env q b:=by
 rcases ze0_ env q.1 with⟨d,e⟩|e
 ·rw[zl_ e,zl_ e,zl_ (zaS_ e),pU,ziK_]
 ·rw[z0_ e]
theorem zfd_ {env:Env}{q:Pl}{c:D}{i:Nat}(h:q.1≠i):(putE env q c)[i]?=env[i]?:=by
 rcases ze0_ env q.1 with⟨d,e⟩|e
 ·rw[zl_ e,l6 h]
 ·rw[z0_ e]
theorem zP_ {env:Env}{q:Pl}{d:D}(e:env[q.1]?=vj (vj d)):atE env q=d.at q.2:=by unfold atE;rw[e]
theorem zeT_ {env:Env}{q q':Pl}{c:D}(h:apart q q'=vm):atE (putE env q c) q'=atE env q':=by
 unfold apart at h;by_cases e:q.1=q'.1
 ·have h:apartL q.2 q'.2=vm:=by simpa [e]using h
  rcases ze0_ env q.1 with⟨d,z⟩|z
  ·rw[zl_ z,zP_ (d:=d.put q.2 c) (by rw[<- e];exact zaS_ z),zP_ (d:=d) (by rw[<- e];exact z)]
   exact zfr_ _ _ d c h
  ·rw[z0_ z]
 ·unfold atE;rw[zfd_ e]
theorem zl5_ {env:Env}{q:Pl}{a x:D}(h:atE env q=vj x):atE (putE env q a) q=vj a:=by
 rcases ze0_ env q.1 with⟨d,z⟩|z
 ·rw[zP_ z]at h
  rw[zl_ z,zP_ (d:=d.put q.2 a) (zaS_ z)];exact zmt_ _ d a x h
 ·unfold atE at h
  split at h
  ·rename_i d e;exact absurd e (z d)
  ·cases h
theorem zh5_ {env:Env}{q q':Pl}{a b:D}(h:apart q q'=vm):putE (putE env q a) q' b=putE (putE env q' b) q a:=by
 unfold apart at h;by_cases e:q.1=q'.1
 ·have h:apartL q.2 q'.2=vm:=by simpa [e]using h
  rcases ze0_ env q.1 with⟨d,z⟩|z
  ·have z':env[q'.1]?=vj (vj d):=by rw[<- e];exact z
   rw[zl_ z,zl_ z',zl_ (d:=d.put q.2 a) (by rw[<- e];exact zaS_ z),zl_ (d:=d.put q'.2 b) (by rw[e];exact zaS_ z'),<- e,pU,pU,zfO_ _ _ d a b h]
  ·have z':∀d,env[q'.1]?≠vj (vj d):=by rw[<- e];exact z
   rw[z0_ z,z0_ z',z0_ z]
 ·rcases ze0_ env q.1 with⟨d,z⟩|z
  ·rcases ze0_ env q'.1 with⟨d2,z2⟩|z2
   ·rw[zl_ z,zl_ z2,zl_ (d:=d2) (by rw[l6 e];exact z2),zl_ (d:=d) (by rw[l6 (λy=>e y.symm)];exact z),tY _ _ e]
   ·rw[z0_ z2,zl_ z,z0_ (by rw[l6 e];exact z2)]
  ·rcases ze0_ env q'.1 with⟨d2,z2⟩|z2
   ·rw[z0_ z,zl_ z2,z0_ (by rw[l6 (λy=>e y.symm)];exact z)]
   ·rw[z0_ z,z0_ z2,z0_ z]
section
variable {K:mR}{E:XK}{F F' F1 F2 h k H H' H1 H2:Hp}{d c:D}{ds:List D}{v u:V}{us:List V}{p:lE}{Q:VK}{env:Env}{t:TE}{σ:L2.St}{G:Gi}{q:Pl}
inductive Pt where
 |v (i:Nat)|f (p:Pt) (n:Str)|s (p:Pt) (x:X)
def Pt.x:Pt->X
 |.v i=>.v i
 |.f p n=>.fld p.x n
 |.s p y=>.bin .ix p.x y
def kIx:List Key->Key->Nat
 |[],_=>0
 |k0::ks,k=>if k0=k then 0 else kIx ks k+1
def stepF (cs:List Str)(n:Str)(c:D):Option Nat:=match c with
 |.nd (.obj c ns) ds=>if c∈cs/\ns.idxOf n<ds.length then vj (ns.idxOf n)else vk
 |_=>vk
def stepS (c d:D):Option Nat:=match c with
 |.nd .lst ds=>(match d.un with |.int i=>(ixN ds.length i).bind λj=>if j<ds.length then vj j else vk |_=>vk)
 |.nd .tup ds=>(match d.un with |.int i=>(ixN ds.length i).bind λj=>if j<ds.length then vj j else vk |_=>vk)
 |.nd (.dct ks) ds=>(keyD d).bind λk=>if kIx ks k<ks.length/\ks.length=ds.length then vj (kIx ks k)else vk
 |_=>vk
def Pt.ev (G:Gi)(env:Env):Pt->Mo Pl
 |.v i=>if(atE env (i,[])).isSome then .ok (i,[])else .no
 |.f p n=>(p.ev G env).bind λq=>.opt ((atE env q).bind λc=>(stepF G.cs n c).map λj=>(q.1,q.2++[j]))
 |.s p x=>(p.ev G env).bind λq=>(x.ev G env).bind λd=>.opt ((atE env q).bind λc=>(stepS c d).map λj=>(q.1,q.2++[j]))
def EvPa (K:mh)(t:TE)(E:XK)(env:Env)(r:Mo Pl):Prop:=∀σ F H (Q:VK),HoldF (Lof K env) σ F->Same F H ->
 (match r with
  |.ok q=>∀F' H' v u c,Ext F H F' H'->σ[q.1]?=vj (vj v)->vAt H' v q.2=vj u->atE env q=vj c->DR K c u H'->Q u H'
  |.ex c=>∀F' H',Ext F H F' H'->Tell K E c H F' H'
  |.no=>False)->t σ H Q
theorem zgR_:∀{ks:List Key}{us:List V}{k:Key}{w:V},us[kIx ks k]?=vj w->kIx ks k<ks.length->valV (ks.zip us) k=vj w
 |[],_,_,_,_,h=>by simp at h
 |k0::ks,[],k,w,h,_=>by simp at h
 |k0::ks,u::us,k,w,h,hl=>by
  unfold valV;rw[mf,nq];unfold kIx at h hl;by_cases e:k0=k
  ·rw[if_pos e]at h;simp at h;subst h
   rw[show decide ((k0,u).1=k)=vm from decide_eq_true e];rfl
  ·rw[if_neg e,nr]at h
   rw[if_neg e]at hl;rw[show decide ((k0,u).1=k)=vn from decide_eq_false e]
   exact zgR_ h (by simpa using hl)
theorem ziI_ {k:Nd}{ds:List D}{j:Nat}{c:D}(hk:k.own=vm)(hc:ds[j]?=vj c):∀{js:List Nat}{d:D},d.at js=vj (.nd k ds)->d.at (js++[j])=vj c
 |[],d,h=>by rw[D.at]at h;cases h;rw[nQ,zbi_,hk,cond_true,hc];show D.at _ []=_;rw[D.at]
 |i::js,d,h=>by
  rcases znQ_ d with⟨k',ds',rfl⟩|hd
  ·rw[zbi_]at h
   cases bt:k'.own with
   |false=>rw[bt]at h;cases h
   |true=>
    rw[bt,cond_true]at h;obtain⟨c',e,h⟩:=lI.mp h;rw[mK,zbi_,bt,cond_true,e];exact ziI_ hk hc h
  ·rw[zjh_ hd (by simp)]at h;cases h
theorem zgC_ {env:Env}{q0:Pl}{k:Nd}{ds:List D}{j:Nat}{c:D}(hk:k.own=vm)(hc:ds[j]?=vj c)(h:atE env q0=vj (.nd k ds)):atE env (q0.1,q0.2++[j])=vj c:=by
 rcases ze0_ env q0.1 with⟨d,hd⟩|hd
 ·rw[zP_ hd]at h
  rw[zP_ (q:=(q0.1,q0.2++[j])) hd];exact ziI_ hk hc h
 ·unfold atE at h;split at h
  ·rename_i d z;exact absurd z (hd d)
  ·cases h
theorem hL_at {i:Nat}{d:D}(hL:HoldF (Lof K env) σ F)(hd:env[i]?=vj (vj d)):∃v,σ[i]?=vj (vj v)/\DR K d v F:=by
 obtain⟨v,ev,rv⟩:=hL i (slot K (vj d)) (by rw[lK,hd];rfl)
 refine⟨v,?_,rv⟩;cases z:σ[i]? with
 |none=>rw[z]at ev;cases ev
 |some o=>rw[z]at ev;cases(show o=vj v from ev);rfl
theorem Pt.sound (g0:G.Ok K):∀(p:Pt) (E:XK) (env:Env),EvPa K (p.x.den K G E) E env (p.ev G env)
 |.v i,E,env=>by
  intro σ F H Q hL hs q;unfold Pt.ev at q;rcases ze0_ env i with⟨d,hd⟩|hd
  ·have ha:atE env (i,[])=vj d:=by rw[zP_ (q:=(i,[])) hd];show d.at []=_;rw[D.at]
   rw[ha]at q;obtain⟨v,hv,rv⟩:=hL_at hL hd;show mVar i σ H Q
   unfold mVar;rw[hv];exact q F H v v d (.refl hs) hv rfl ha (rv.mono hs)
  ·rw[show atE env (i,[])=vk from by
    unfold atE;split
    ·rename_i d z;exact absurd z (hd d)
    ·rfl]at q
   exact q.elim
 |.f p n,E,env=>by
  intro σ F H Q hL hs q;unfold Pt.ev at q;cases e:p.ev G env with
  |no=>rw[e]at q;exact q.elim
  |ex c=>
   rw[e]at q;cases hcs:G.cs with
   |nil=>exact absurd hcs g0.cs
   |cons c0 cs=>exact⟨c0,by rw[hcs];exact lW ..,Pt.sound g0 p E env σ F H _ hL hs (by rw[e];exact q)⟩
  |ok q0=>
   rw[e]at q;dsimp only[Mo.bind]at q;cases e1:atE env q0 with
   |none=>rw[e1]at q;exact q.elim
   |some c=>
    rw[e1]at q;cases e2:stepF G.cs n c with
    |none=>rw[show(Option.bind (vj c) λc=>(stepF G.cs n c).map λj=>(q0.1,q0.2++[j]))=vk from by simp[e2]]at q;exact q.elim
    |some j=>
     rw[show(Option.bind (vj c) λc=>(stepF G.cs n c).map λj=>(q0.1,q0.2++[j]))=vj (q0.1,q0.2++[j])from by simp[e2]]at q
     unfold stepF at e2;split at e2
     ·rename_i cn ns ds
      split at e2
      ·rename_i hz
       cases e2;refine⟨cn,hz.1,Pt.sound g0 p E env σ F H _ hL hs ?_⟩;rw[e];intro F1 H1 v u c' x1 hv hu hc hr;rw[e1]at hc;cases hc;obtain⟨p',us,rfl,nd,r⟩:=hr.nd;rcases r.get (ns.idxOf n)with⟨z,_⟩|⟨d',w,g4,g5,g6⟩
       ·rw[lA hz.2]at z;cases z
       have je:=nd;obtain⟨dx,g3,gl⟩:=nd;exact⟨dx,_,w,g3,zcA_ g5 gl,q F1 H1 v w d' x1 hv (zdZ_ rfl je g5 hu) (zgC_ rfl g4 e1) g6⟩
      ·cases e2
     ·cases e2
 |.s p x,E,env=>by
  intro σ F H Q hL hs q;unfold Pt.ev at q;cases e:p.ev G env with
  |no=>rw[e]at q;exact q.elim
  |ex c=>rw[e]at q;exact Pt.sound g0 p E env σ F H _ hL hs (by rw[e];exact q)
  |ok q0=>
   rw[e]at q;refine Pt.sound g0 p E env σ F H _ hL hs ?_;rw[e];intro F1 H1 v u c x1 hv hu hc hr;dsimp only[Mo.bind]at q;cases ex:x.ev G env with
   |no=>rw[ex]at q;exact q.elim
   |ex c=>
    rw[ex]at q;refine X.sound g0 x E env σ F1 H1 _ (hL.mono x1.1) x1.2.1 ?_;rw[ex];exact λF2 H2 x2=>(q F2 H2 (x1.trans x2)).up x1.2.2.1
   |ok d0=>
    rw[ex]at q;dsimp only at q;rw[hc]at q;cases e2:stepS c d0 with
    |none=>rw[show(Option.bind (vj c) λc=>(stepS c d0).map λj=>(q0.1,q0.2++[j]))=vk from by simp[e2]]at q;exact q.elim
    |some j=>
     rw[show(Option.bind (vj c) λc=>(stepS c d0).map λj=>(q0.1,q0.2++[j]))=vj (q0.1,q0.2++[j])from by simp[e2]]at q
     refine ex_v (X.sound g0 x E env) σ F1 H1 _ (hL.mono x1.1) x1.2.1 ?_;rw[ex];intro F2 H2 x2 y hy;have dM:=DR.un hy;have fL:=hr.mono x2.2.2.1;have fin:∀{k:Nd}{ds:List D}{p':lE}{us:List V},k.own=vm->c=.nd k ds->u=.ref p'->NdR K k p' us H2->DRs K ds us H2->j<ds.length->∃w,us[j]?=vj w/\Q w H2:=λ{k ds p' us} hk ec eu nd r hj=>by
      subst ec;subst eu;rcases r.get j with⟨z,_⟩|⟨d',w,g4,g5,g6⟩
      ·rw[lA hj]at z;cases z
      exact⟨w,g5,q F2 H2 v w d' (x1.trans x2) hv (zdZ_ hk nd g5 (zbP_ x2.2.2.1 hu)) (zgC_ hk g4 hc) g6⟩
     unfold stepS at e2;split at e2
     ·split at e2
      ·rename_i i ei
       rw[ei]at dM;cases dM.int;obtain⟨j',ej,e2⟩:=lI.mp e2;split at e2
       ·rename_i hj
        cases e2;obtain⟨p',us,rfl,nd,r⟩:=fL.nd;obtain⟨w,g5,fin⟩:=fin rfl rfl rfl nd r hj;refine .inl ⟨us,.inl (.of nd),?_⟩;rw[show atI us i=vj w from by unfold atI;rw[<- r.len,ej];exact g5];exact fin
       ·cases e2
      ·cases e2
     ·split at e2
      ·rename_i i ei
       rw[ei]at dM;cases dM.int;obtain⟨j',ej,e2⟩:=lI.mp e2;split at e2
       ·rename_i hj
        cases e2;obtain⟨p',us,rfl,nd,r⟩:=fL.nd;obtain⟨w,g5,fin⟩:=fin rfl rfl rfl nd r hj;refine .inl ⟨us,.inr (.of nd),?_⟩;rw[show atI us i=vj w from by unfold atI;rw[<- r.len,ej];exact g5];exact fin
       ·cases e2
      ·cases e2
     ·rename_i ks ds
      obtain⟨k,ek,e2⟩:=lI.mp e2;split at e2
      ·rename_i hz
       cases e2;obtain⟨p',us,rfl,nd,r⟩:=fL.nd;obtain⟨w,g5,fin⟩:=fin rfl rfl rfl nd r (by rw[<- hz.2];exact hz.1)
       exact .inr (zdB_ rfl (zld_ ek hy).1 nd.1 ⟨w,zgR_ g5 hz.1,fin⟩)
      ·cases e2
     ·cases e2
end
def Mr.bind {s α β:Type}(m:Mr s α)(k:α->s->Mr s β):Mr s β:=match m with |.ok a t=>k a t |.ex c t=>.ex c t |.no=>.no
inductive A where
 |x (x:X)|l (p:Pt)
def A.t:A->X
 |.x y=>y
 |.l p=>p.x
inductive Ag where
 |d (d:D)|l (q:Pl)
def evG (G:Gi):Env->List A->Mr Env (List Ag)
 |env,[]=>.ok [] env
 |env,.x x::as=>(stX G env x).bind λd e=>(evG G e as).bind λgs e'=>.ok (.d d::gs) e'
 |env,.l p::as=>match p.ev G env with
  |.ok q=>(evG G env as).bind λgs e'=>.ok (.l q::gs) e'
  |.ex c=>.ex c env
  |.no=>.no
section
variable {K:mR}{E:XK}{F F' F0 F1 F2 H0 h h1 h2 H H' H1 H2:Hp}{d c:D}{ds:List D}{v u:V}{vs:List V}{p:lE}{Q:VK}{env:Env}{t:TE}{ws:Ws}{σ:L2.St}{G:Gi}{q:Pl}{ta:TA}{f:Fn}
def AgR (K:mh)(σ:L2.St)(F H:Hp):List Ag->List V->Hp->Prop
 |[],vs,h=>vs=[]/\∀p,h p=vk
 |.d d::gs,vs,h=>∃v bg h1 h2,vs=v::bg/\Jn h1 h2 h/\OD K d v F h1/\AgR K σ F H gs bg h2
 |.l q::gs,vs,h=>∃u v bg,vs=u::bg/\σ[q.1]?=vj (vj v)/\vAt H v q.2=vj u/\AgR K σ F H gs bg h
def FinG (K:mh)(r:Mr Env (List Ag))(E:XK)(ws:Ws)(σ:L2.St)(F0 H0 Hs:Hp)(Q:List V->Hp->Prop):Prop:=match r with
 |.ok gs env=>∀vs F hA hE h H,Hold (LofW K ws env) σ F hE->AgR K σ F H gs vs hA->Jn hA hE h->Okk F0 H0 F h H->Same Hs H->Q vs H
 |.ex c env=>∀F h H,Hold (LofW K ws env) σ F h->Okk F0 H0 F h H->Tell K E c H0 F H
 |.no=>False
def EvG (K:mh)(t:TA)(E:XK)(ws:Ws)(env:Env)(r:Mr Env (List Ag)):Prop:=
 ∀F0 H0 σ F h H (Q:List V->Hp->Prop),Hold (LofW K ws env) σ F h->Okk F0 H0 F h H->FinG K r E ws σ F0 H0 H Q->t σ H Q
theorem no_l (z:Hp)(hz:∀p,z p=vk):Jn z h h:=λp=>.inl ⟨hz p,rfl⟩
theorem zoK_ {a b c:Hp}(d1:Dj a b)(d2:Dj a c)(d3:Dj b c):Jn (un a b) c (un a (un b c)):=λp=>by
 unfold un;cases x:a p with
 |some o=>
  right;rcases d2 p with y |y
  ·rw[y]at x;cases x
  ·exact⟨y,rfl⟩
 |none=>
  cases y:b p with
  |some o=>
   right;rcases d3 p with z |z
   ·rw[z]at y;cases y
   ·exact⟨z,rfl⟩
  |none=>left;exact⟨rfl,rfl⟩
theorem zci_ (j:Jn h1 h2 h):h=un h1 h2:=funext λp=>by
 unfold un;rcases j p with⟨a,b⟩|⟨a,b⟩
 ·rw[a,b]
 ·rw[b]
  cases h1 p with
  |none=>exact a.symm
  |some o=>rfl
theorem zp7_:EvG K tNil E ws env (.ok [] env):=λF0 H0 σ F h H Q hL ok fin=>fin [] F (λ_=>vk) h h H hL ⟨rfl,λ_=>rfl⟩ (no_l _ λ_=>rfl) ok (Same.refl _)
theorem eg_x {r:Mr Env D}{g:Env->Mr Env (List Ag)}(he:EvK K t E ws env r)(hg:∀e,EvG K ta E ws e (g e)):EvG K (tCons t ta) E ws env (r.bind λd e=>(g e).bind λgs e'=>.ok (.d d::gs) e'):=by
 intro F0 H0 σ F h H Q hL ok fin;refine he F0 H0 σ F h H _ hL ok ?_;cases r with
 |no=>exact fin
 |ex c e=>exact fin
 |ok d e=>
  intro v F1 hr hE h' H1 av od j aw i6;have o2:=zgF_ aw j;refine hg e F1 (less H1 hE) σ F1 hE H1 _ av o2 ?_;dsimp only[Mr.bind]at fin;cases e2:g e with
  |no=>rw[e2]at fin;exact fin
  |ex c e'=>
   rw[e2]at fin;intro F2 h2 H2 bC ay;obtain⟨s,dk,bj⟩:=zaL_ aw j ay;refine zbO_ aw j (fin F2 (un hr h2) H2 (Hold.more bC (zah_ dk)) bj)
  |ok gs e'=>
   rw[e2]at fin;intro vs F2 hA ff h2 H2 bC ag j2 ay fF;obtain⟨s,dk,bj⟩:=zaL_ aw j ay;have eh:=zci_ j2;subst eh;have d1:Dj hr hA:=λp=>by rcases dk p with z |z;exact .inl z;exact .inr ((zah_ j2.dj).l.free z)
   have d2:Dj hr ff:=λp=>by rcases dk p with z |z;exact .inl z;exact .inr ((zah_ j2.dj).r.free z)
   exact fin (v::vs) F2 (un hr hA) ff _ H2 bC ⟨v,vs,hr,hA,rfl,zah_ d1,od.mono s,ag⟩ (zoK_ d1 d2 j2.dj) bj (i6.trans fF)
theorem eg_l (g0:G.Ok K){pt:Pt}{r:Mr Env (List Ag)}(hg:EvG K ta E ws env r):EvG K (tCons (pt.x.den K G E) ta) E ws env (match pt.ev G env with |.ok q=>r.bind λgs e'=>.ok (.l q::gs) e' |.ex c=>.ex c env |.no=>.no):=by
 intro F0 H0 σ F h H Q hL ok fin;refine Pt.sound g0 pt E env σ (un F h) H _ (zcr_ (hL.froz ok.2.1)) ok.thaw ?_;cases e:pt.ev G env with
 |no=>rw[e]at fin;exact fin
 |ex c=>
  rw[e]at fin;exact λF' H' y=>(fin _ _ _ (hL.mono (ok.back y).2.1) (ok.back y).1).back ok y
 |ok q=>
  rw[e]at fin;intro F1 H1 v u c x1 hv hu _ _;obtain⟨o1,hsF,ht⟩:=ok.back x1;refine hg F0 H0 σ _ h H1 _ (hL.mono hsF) o1 ?_;cases r with
  |no=>exact fin
  |ex c e'=>exact fin
  |ok gs e'=>exact λvs F2 hA ff h2 H2 bC ag j2 ay fF=>fin (u::vs) F2 hA ff h2 H2 bC ⟨u,v,vs,rfl,hv,zbP_ fF hu,ag⟩ j2 ay (x1.2.2.1.trans fF)
theorem zdj_ (g0:G.Ok K):∀(as:List A) (env:Env),EvG K (X.dens K G E (as.map A.t)) E ws env (evG G env as)
 |[],env=>zp7_
 |.x x::as,env=>eg_x (ek_x g0 x) λe=>zdj_ g0 as e
 |.l p::as,env=>eg_l g0 (zdj_ g0 as env)
def resolve (env:Env):List Ag->Option (List D)
 |[]=>vj []
 |.d d::gs=>(resolve env gs).map λds=>d::ds
 |.l q::gs=>(atE env q).bind λc=>(resolve env gs).map λds=>c::ds
def apartOf (q:Pl):List Ag->Bool
 |[]=>vm
 |.d _::gs=>apartOf q gs
 |.l q'::gs=>apart q q' && apartOf q gs
def apartAll:List Ag->Bool
 |[]=>vm
 |.d _::gs=>apartAll gs
 |.l q::gs=>apartOf q gs && apartAll gs
def restE (env:Env):List Ag->List D->Env
 |.d _::gs,_::ds=>restE env gs ds
 |.l q::gs,d::ds=>putE (restE env gs ds) q d
 |_,_=>env
theorem zbs_ {c:D}:∀{gs:List Ag},apartOf q gs=vm->resolve (putE env q c) gs=resolve env gs
 |[],_=>rfl
 |.d d::gs,h=>by unfold apartOf at h;unfold resolve;rw[zbs_ h]
 |.l q'::gs,h=>by
  unfold apartOf at h;obtain⟨h1,h2⟩:=ml.mp h;unfold resolve;rw[zbs_ h2,zeT_ h1]
theorem zdQ_ {c:D}:∀{gs:List Ag}{ds:List D},apartOf q gs=vm->restE (putE env q c) gs ds=putE (restE env gs ds) q c
 |[],_,_=>by unfold restE;rfl
 |.d d::gs,[],_=>by unfold restE;rfl
 |.l q'::gs,[],_=>by unfold restE;rfl
 |.d d::gs,_::ds,h=>by unfold apartOf at h;unfold restE;exact zdQ_ h
 |.l q'::gs,d::ds,h=>by
  unfold apartOf at h;obtain⟨h1,h2⟩:=ml.mp h;unfold restE;rw[zdQ_ h2,zh5_ h1]
theorem zgB_:∀{gs:List Ag}{ds:List D},apartOf q gs=vm->atE (restE env gs ds) q=atE env q
 |[],_,_=>by unfold restE;rfl
 |.d d::gs,[],_=>by unfold restE;rfl
 |.l q'::gs,[],_=>by unfold restE;rfl
 |.d d::gs,_::ds,h=>by unfold apartOf at h;unfold restE;exact zgB_ h
 |.l q'::gs,d::ds,h=>by
  unfold apartOf at h;obtain⟨h1,h2⟩:=ml.mp h;unfold restE;have h1':apart q' q=vm:=by
   unfold apart at h1 ⊢;rw[oB]at h1 ⊢;rcases h1 with h1 |h1
   ·left;simpa [bne_iff_ne,ne_comm]using h1
   ·right;exact zcm_ h1
  rw[zeT_ h1',zgB_ h2]
theorem lend:∀{gs:List Ag}{env:Env}{ds:List D}{vs:List V}{hA hE h:Hp},resolve env gs=vj ds->apartAll gs=vm->AgR K σ F H gs vs hA->Hold (LofW K ws env) σ F hE->Jn hA hE h->Same F H->Same h H ->
  ∃hD hR,Jn hD hR h/\ODs K ds vs F hD/\ds.length=gs.length/\∀ds' F' dz h',Same F F'->ODs K ds' vs F' dz->Jn dz hR h'->Hold (LofW K ws (restE env gs ds')) σ F' h'
 |[],env,ds,vs,hA,hE,h,e,_,ag,hL,j,sF,sH=>by
  unfold resolve at e;cases e;obtain⟨rfl,n⟩:=ag;refine⟨hA,hE,j,by unfold ODs;exact⟨rfl,n⟩,rfl,λds' F' dz h' s os j'=>?_⟩
  unfold restE;exact Hold.more (hL.mono s) j'
 |.d d::gs,env,ds,vs,hA,hE,h,e,ap,ag,hL,j,sF,sH=>by
  unfold resolve at e;obtain⟨ds1,e1,rfl⟩:=lJ.mp e;obtain⟨v,bg,h1,h2,rfl,j1,od,ag⟩:=ag;obtain⟨m,jm,jh⟩:=zm_ j1 j;obtain⟨hD,hR,jd,os,ln,f⟩:=lend e1 (by unfold apartAll at ap;exact ap) ag hL jm sF (jh.r.trans sH)
  obtain⟨a,ja,jb⟩:=zm_ (z8_ jh |> λz=>z |> z8_) (show Jn h (λ_=>vk) h from λp=>.inr ⟨rfl,rfl⟩)
  have dd:Dj h1 hD:=λp=>by rcases jh.dj p with z |z;exact .inl z;exact .inr (jd.l.free z)
  have dr:Dj h1 hR:=λp=>by rcases jh.dj p with z |z;exact .inl z;exact .inr (jd.r.free z)
  refine⟨un h1 hD,hR,?_,by unfold ODs;exact⟨v,bg,h1,hD,rfl,zah_ dd,od,os⟩,by rw[lG,lG,ln],λds' F' dz h' s aL j'=>?_⟩
  ·have:=zoK_ dd dr jd.dj
   rw[<- zci_ jd,<- zci_ jh]at this;exact this
  ·cases ds' with
   |nil=>unfold ODs at aL;cases aL.1
   |cons d' ds'=>
    unfold ODs at aL;obtain⟨v',vs2,m1,m2,ee,jm2,_,aL⟩:=aL;cases ee;obtain⟨b,jb1,jb2⟩:=zm_ jm2 j';unfold restE;exact Hold.more (f ds' F' m2 b s aL jb1) jb2
 |.l q::gs,env,ds,vs,hA,hE,h,e,ap,ag,hL,j,sF,sH=>by
  unfold resolve at e;obtain⟨c,ec,e⟩:=lI.mp e;obtain⟨ds1,e1,rfl⟩:=lJ.mp e;obtain⟨u,v,bg,rfl,ev,vp,ag⟩:=ag;unfold apartAll at ap;obtain⟨ib,ap2⟩:=ml.mp ap;rcases ze0_ env q.1 with⟨d0,hd⟩|hd
  rotate_left
  ·unfold atE at ec;split at ec
   ·rename_i d z;exact absurd z (hd d)
   ·cases ec
  have hc:d0.at q.2=vj c:=by rw[<- zP_ hd];exact ec
  obtain⟨v',u',k1,k2,ev',vp',jk,oc,g⟩:=zb6_ hL hd hc;rw[ev]at ev';cases ev';have j9:Same hE H:=j.r.trans sH;have eu:u'=u:=l9 ((vp' H sF j9).symm.trans vp);subst eu;have hp:putE env q (.pin u')=env.set q.1 (vj (d0.put q.2 (.pin u'))):=zl_ hd;have av:Hold (LofW K ws (putE env q (.pin u'))) σ F k2:=by
   rw[hp];exact g (.pin u') F (λ_=>vk) k2 (Same.refl _) (by unfold OD;exact⟨λ_=>rfl,by unfold DR;rfl⟩) (no_l _ λ_=>rfl)
  obtain⟨m,jm,jh⟩:=zm_ jk (z8_ j);have jA:Jn hA k2 m:=z8_ jm;obtain⟨hD,hR,jd,os,ln,f⟩:=lend (gs:=gs) (env:=putE env q (.pin u')) (by rw[zbs_ ib];exact e1) ap2 ag av jA sF (jh.r.trans sH)
  have dd:Dj k1 hD:=λp=>by rcases jh.dj p with z |z;exact .inl z;exact .inr (jd.l.free z)
  have dr:Dj k1 hR:=λp=>by rcases jh.dj p with z |z;exact .inl z;exact .inr (jd.r.free z)
  refine⟨un k1 hD,hR,?_,by unfold ODs;exact⟨u',bg,k1,hD,rfl,zah_ dd,oc,os⟩,by rw[lG,lG,ln],λds' F' dz h' s aL j'=>?_⟩
  ·have:=zoK_ dd dr jd.dj
   rw[<- zci_ jd,<- zci_ jh]at this;exact this
  ·cases ds' with
   |nil=>unfold ODs at aL;cases aL.1
   |cons d' ds'=>
    unfold ODs at aL;obtain⟨w,vs2,m1,m2,ee,jm2,gd,aL⟩:=aL;cases ee;obtain⟨b,jb1,jb2⟩:=zm_ jm2 j';have h2:=f ds' F' m2 b s aL jb1;have ea:atE (restE (putE env q (.pin u')) gs ds') q=vj (.pin u'):=by rw[zgB_ ib];exact zl5_ ec
    rcases ze0_ (restE (putE env q (.pin u')) gs ds') q.1 with⟨d2,hd2⟩|hd2
    rotate_left
    ·unfold atE at ea;split at ea
     ·rename_i d z;exact absurd z (hd2 d)
     ·cases ea
    have bI:d2.at q.2=vj (.pin u'):=by rw[<- zP_ hd2];exact ea
    obtain⟨v3,u3,n1,n2,_,_,jn,on,g2⟩:=zb6_ h2 hd2 bI;unfold OD at on;obtain⟨nn,on⟩:=on;unfold DR at on;subst on;have en:b=n2:=by rw[zci_ jn];funext p;unfold un;rw[nn p]
    subst en;have:=g2 d' F' m1 h' (Same.refl _) gd jb2;unfold restE;rw[show putE (restE env gs ds') q d'=putE (restE (putE env q (.pin u3)) gs ds') q d' from by rw[zdQ_ ib,zh9_],zl_ hd2]
    exact this
def callG (f:Fn)(gs:List Ag)(env:Env):Mr Env D:=match resolve env gs with
 | some ds=>if apartAll gs then(match f ds with
   |.ok d ds'=>.ok d (restE env gs ds')
   |.ex c ds'=>.ex c (restE env gs ds')
   |.no=>.no)else .no
 |none=>.no
def CtX (K:mh)(f:Fn)(ds:List D)(vs:List V)(H:Hp)(Q:VK)(E:XK):Prop:=∃F h,Same F H/\Dj F h/\Same h H/\ODs K ds vs F h/\FinC K (f ds) E F (less H h) vs Q
theorem CtX.g {ds:List D}(h:CtX K f ds vs H Q E):CtG K f vs H Q E:=by obtain⟨F,h,a⟩:=h;exact⟨F,h,ds,a⟩
theorem zfF_ {gs:List Ag}{hA hE:Hp}(hL:Hold (LofW K ws env) σ F hE)(ag:AgR K σ F H gs vs hA)(j:Jn hA hE h)(ok:Okk F0 H0 F h H)(fin:FinE K (callG f gs env) E ws σ F0 H0 Q):∃ds,resolve env gs=vj ds/\CtX K f ds vs H Q E:=by
 unfold callG at fin;cases er:resolve env gs with
 |none=>rw[er]at fin;exact fin.elim
 |some ds=>
  rw[er]at fin;dsimp only at fin;by_cases ap:apartAll gs=vm
  rotate_left
  ·rw[if_neg ap]at fin;exact fin.elim
  rw[if_pos ap]at fin;obtain⟨hD,hR,jd,os,ln,g⟩:=lend er ap ag hL j ok.1.2.1 ok.2.2.1;have gm:=z8_ jd;refine⟨ds,rfl,F,hD,ok.1.2.1,dj_l ok.2.1 jd,jd.l.trans ok.2.2.1,os,?_⟩;cases ef:f ds with
  |no=>rw[ef]at fin;exact fin
  |ex c ds'=>
   rw[ef]at fin;intro F2 h2 H2 ay os2;obtain⟨s,dk,bj⟩:=zaL_ ok gm ay;exact zbO_ ok gm (fin F2 (un hR h2) H2 (g ds' F2 h2 _ s os2 (z8_ (zah_ dk))) bj)
  |ok d ds'=>
   rw[ef]at fin;intro v F2 h2 H2 hr hm ay j2 od os2;obtain⟨s,dk,bj⟩:=zaL_ ok gm ay;have d1:Dj hR hr:=λp=>by rcases dk p with z |z;exact .inl z;exact .inr (j2.l.free z)
   have d2:Dj hR hm:=λp=>by rcases dk p with z |z;exact .inl z;exact .inr (j2.r.free z)
   have dm:Dj hm hR:=λp=>(d2 p).symm
   refine fin v F2 hr (un hm hR) (un hR h2) H2 (g ds' F2 hm _ s os2 (zah_ dm)) od ?_ bj;rw[zci_ j2];intro p;unfold un;cases x:hr p with
   |some o=>
    right;rcases j2.dj p with z |z
    ·rw[z]at x;cases x
    ·rcases d1 p with y |y
     ·rw[z,y];exact⟨rfl,rfl⟩
     ·rw[y]at x;cases x
   |none=>
    left;refine⟨rfl,?_⟩;cases y:hR p with
    |some o=>
     rcases d2 p with z |z
     ·rw[z]at y;cases y
     ·rw[z]
    |none=>cases hm p<;>rfl
theorem zcy_ {gs:List Ag}{hA hE:Hp}(hL:Hold (LofW K ws env) σ F hE)(ag:AgR K σ F H gs vs hA)(j:Jn hA hE h)(ok:Okk F0 H0 F h H)(fin:FinE K (callG f gs env) E ws σ F0 H0 Q):CtG K f vs H Q E:=by
 obtain⟨ds,_,c⟩:=zfF_ hL ag j ok fin;exact c.g
theorem zn1_ {r:Mr Env (List Ag)}(hg:EvG K ta E ws env r):EvE K (tCall (CtG K f) [] E ta) E ws env (r.bind (callG f)):=by
 intro F0 H0 σ F h H Q hL ok fin;refine hg F0 H0 σ F h H _ hL ok ?_;cases r with
 |no=>exact fin
 |ex c e=>exact fin
 |ok gs e=>
  intro vs F1 hA hE h1 H1 av ag j aw _;rw[nG];exact zcy_ av ag j aw fin
end
inductive Fl where
 |nx |rt (d:D)|ct |bk
section
variable {K:mR}{E:XK}{F F' F0 F1 F2 H0 h h1 h2 H H' H1 H2:Hp}{d c:D}{ds:List D}{v u:V}{vs:List V}{p:lE}{env:Env}{t:TE}{ws:Ws}{σ:L2.St}{q:Pl}{ta:TA}{f:Fn}{s s1 s2:TS}{i:Nat}
def FinS (K:mh)(r:Mr Env Fl)(E:XK)(ws:Ws)(F0 H0:Hp)(N:Ends):Prop:=match r with
 |.ok .nx env=>∀σ F h H,Hold (LofW K ws env) σ F h->Okk F0 H0 F h H->N.nx σ H
 |.ok .ct env=>∀σ F h H,Hold (LofW K ws env) σ F h->Okk F0 H0 F h H->N.ct σ H
 |.ok .bk env=>∀σ F h H,Hold (LofW K ws env) σ F h->Okk F0 H0 F h H->N.bk σ H
 |.ok (.rt d) env=>∀v σ F hr h2 h H,Hold (LofW K ws env) σ F h2->OD K d v F hr->Jn hr h2 h->Okk F0 H0 F h H->N.rt v H
 |.ex c env=>∀σ F h H,Hold (LofW K ws env) σ F h->Okk F0 H0 F h H->Tell K E c H0 F H
 |.no=>False
def EvS (K:mh)(t:TS)(E:XK)(ws:Ws)(env:Env)(r:Mr Env Fl):Prop:=
 ∀F0 H0 σ F h H (N:Ends),Hold (LofW K ws env) σ F h->Okk F0 H0 F h H->FinS K r E ws F0 H0 N->t N σ H
theorem ziQ_:EvS K tNext E ws env (.ok .nx env):=λF0 H0 σ F h H N hL ok fin=>fin σ F h H hL ok
theorem zox_:EvS K tCont E ws env (.ok .ct env):=λF0 H0 σ F h H N hL ok fin=>fin σ F h H hL ok
def seqM (r:Mr Env Fl)(g:Env->Mr Env Fl):Mr Env Fl:=r.bind λo e=>match o with |.nx=>g e |_=>.ok o e
theorem znk_ {r:Mr Env Fl}{g:Env->Mr Env Fl}(eG:EvS K s1 E ws env r)(aR:∀e,EvS K s2 E ws e (g e)):EvS K (tSeq s1 s2) E ws env (seqM r g):=by
 intro F0 H0 σ F h H N hL ok fin;refine eG F0 H0 σ F h H {N with nx:=s2 N} hL ok ?_;cases r with
 |no=>exact fin
 |ex c e=>exact fin
 |ok o e=>
  cases o with
  |nx=>exact λσ F h H hL ok=>aR e F0 H0 σ F h H N hL ok fin
  |rt d=>exact fin
  |ct=>exact fin
  |bk=>exact fin
theorem zgm_ {hr hE:Hp}(hw:ws i=vk)(hi:i<env.length)(hL:Hold (LofW K ws env) σ F hE)(od:OD K d v F hr)(j:Jn hr hE h):Hold (LofW K ws (env.set i (vj d))) (σ.set i (vj v)) F h:=by
 obtain⟨o,k1,k2,e1,jk,pp,g⟩:=Hold.atG hL (zbw_ (lA hi));have d1:Dj hr k2:=λp=>by rcases j.dj p with z |z;exact .inl z;exact .inr (jk.r.free z)
 have:=g (slotW K (ws i) (vj d)) (vj v) F hr (un hr k2) (Same.refl _) (zcH_ (λu z=>by rw[hw]at z;cases z) od) (zah_ d1)
 rw[zcO_]at this;refine Hold.more this (g:=k1) ?_;rw[zci_ j,zci_ jk];intro p;unfold un;cases x:hr p with
 |some o=>
  left;refine⟨?_,rfl⟩;rcases j.dj p with z |z
  ·rw[z]at x;cases x
  ·exact jk.l.free z
 |none=>
  cases y:k1 p with
  |some o=>
   right;refine⟨?_,rfl⟩;rcases jk.dj p with z |z
   ·rw[z]at y;cases y
   ·exact z
  |none=>left;exact⟨rfl,rfl⟩
def asgM (pn:Nat->Bool)(i:Nat)(r:Mr Env D):Mr Env Fl:=r.bind λd e=>if pn i=vn/\i<e.length then .ok .nx (e.set i (vj d))else .no
theorem zpp_ {pn:Nat->Bool}{r:Mr Env D}(hp:∀i,pn i=vn->ws i=vk)(he:EvE K t E ws env r):EvS K (tAsg t (gName i)) E ws env (asgM pn i r):=by
 intro F0 H0 σ F h H N hL ok fin;refine he F0 H0 σ F h H _ hL ok ?_;cases r with
 |no=>exact fin
 |ex c e=>exact λF h H hL ok=>fin σ F h H hL ok
 |ok d e=>
  have fin:FinS K (if pn i=vn/\i<e.length then .ok .nx (e.set i (vj d))else .no) E ws F0 H0 N:=fin
  split at fin
  ·rename_i z
   exact λv F1 hr hE h1 H1 av od j aw=>fin _ F1 h1 H1 (zgm_ (hp i z.1) z.2 av od j) aw
  ·exact fin.elim
def dropM (r:Mr Env D):Mr Env Fl:=r.bind λ_ e=>.ok .nx e
theorem zm4_ {r:Mr Env D}(he:EvE K t E ws env r):EvS K (tDrop t) E ws env (dropM r):=by
 intro F0 H0 σ F h H N hL ok fin;refine he F0 H0 σ F h H _ hL ok ?_;cases r with
 |no=>exact fin
 |ex c e=>exact λF h H hL ok=>fin σ F h H hL ok
 |ok d e=>exact λv F1 hr hE h1 H1 av od j aw=>fin σ F1 h1 H1 (Hold.more av j) aw
def retM (r:Mr Env D):Mr Env Fl:=r.bind λd e=>.ok (.rt d) e
theorem zph_ {r:Mr Env D}(he:EvE K t E ws env r):EvS K (tRet t) E ws env (retM r):=by
 intro F0 H0 σ F h H N hL ok fin;refine he F0 H0 σ F h H _ hL ok ?_;cases r with
 |no=>exact fin
 |ex c e=>exact λF h H hL ok=>fin σ F h H hL ok
 |ok d e=>exact λv F1 hr hE h1 H1 av od j aw=>fin v σ F1 hr hE h1 H1 av od j aw
theorem znC_:EvS K tRetN E ws env (.ok (.rt .non) env):=λF0 H0 σ F h H N hL ok fin=>
 fin .non σ F (λ_=>vk) h h H hL (by unfold OD;exact⟨λ_=>rfl,by unfold DR;rfl⟩) (no_l _ λ_=>rfl) ok
def ifM (env:Env)(b:Mo Bool)(r1 r2:Mr Env Fl):Mr Env Fl:=match b with
 |.ok c=>if c then r1 else r2
 |.ex c=>.ex c env
 |.no=>.no
theorem es_if {tt:TT}{b:Mo Bool}{r1 r2:Mr Env Fl}(hc:EvT K tt E (Lof K env) b)(eG:EvS K s1 E ws env r1)(aR:EvS K s2 E ws env r2):EvS K (mIfS tt s1 s2) E ws env (ifM env b r1 r2):=by
 intro F0 H0 σ F h H N hL ok fin;refine hc σ (un F h) H _ (zcr_ (hL.froz ok.2.1)) ok.thaw ?_;cases b with
 |no=>exact fin
 |ex c=>exact λF' H' y=>(fin σ _ _ _ (hL.mono (ok.back y).2.1) (ok.back y).1).back ok y
 |ok c=>
  intro F' H' y;obtain⟨o,hsF,ht⟩:=ok.back y;refine⟨λz=>?_,λz=>?_⟩
  ·subst z;exact eG F0 H0 σ _ h H' N (hL.mono hsF) o fin
  ·subst z;exact aR F0 H0 σ _ h H' N (hL.mono hsF) o fin
def forM (step:Env->List D->Mr Env Fl):List (List D)->Env->Mr Env Fl
 |[],e=>.ok .nx e
 |x::xs,e=>(step e x).bind λo e'=>match o with |.nx=>forM step xs e' |.ct=>forM step xs e' |.bk=>.ok .nx e' |.rt d=>.ok (.rt d) e'
def setG (pn:Nat->Bool):Env->List Nat->List D->Option Env
 |e,i::is,d::ds=>if pn i=vn/\i<e.length then setG pn (e.set i (vj d.vw)) is ds else vk
 |e,[],[]=>vj e
 |_,_,_=>vk
theorem zei_ {pn:Nat->Bool}(hp:∀i,pn i=vn->ws i=vk):∀{is:List Nat}{ds:List D}{env e:Env}{σ:L2.St}{vs:List (Nat×Option V)},setG pn env is ds=vj e->Plain F (ssT K is ds) vs->Hold (LofW K ws env) σ F h->Hold (LofW K ws e) (setS σ vs) F h
 |[],[],env,e,σ,vs,z,pl,hL=>by unfold setG at z;cases z;cases pl;exact hL
 |i::is,d::ds,env,e,σ,vs,z,pl,hL=>by
  unfold setG at z;split at z
  ·rename_i y
   cases pl with
   |cons hv pl=>
    refine zei_ hp (is:=is) (ds:=ds) (σ:=σ.set i (vj _)) z pl ?_;exact zgm_ (hp i y.1) y.2 hL (OD.vw (h:=λ_=>vk) (λ_=>rfl) hv) (no_l _ λ_=>rfl)
  ·cases z
 |[],_::_,_,_,_,_,z,_,_=>by unfold setG at z;cases z
 |_::_,[],_,_,_,_,z,_,_=>by unfold setG at z;cases z
theorem zi4_ {hr hE:Hp}(od:ODs K ds vs F hr)(j:Jn hr hE h)(ok:Okk F0 H0 F h H):DRs K ds vs (un F hr)/\Same F (un F hr)/\Okk F0 H0 (un F hr) hE H:=by
 obtain⟨o1,o2,o3,o4,o5⟩:=ok;refine⟨OD.view.go zW_ (zdJ_ (dj_l o2 j)) od,zW_,⟨o1.1.trans zW_,λp o e=>?_,o1.2.2.1,λp a b=>?_⟩,λp=>?_,j.r.trans o3,λp z=>?_,λp xs e=>o5 p xs (j.r _ _ e)⟩
 ·unfold un at e
  cases z:F p with
  |some w=>rw[z]at e;cases e;exact o1.2.1 _ _ z
  |none=>rw[z]at e;exact o3 _ _ (j.l _ _ e)
 ·unfold un at b
  cases z:F p with
  |some w=>exact o1.2.2.2 p a (by rw[z];exact sN _)
  |none=>
   rw[z]at b;cases y:hr p with
   |none=>exact absurd y b
   |some w=>exact o4 p (by rw[j.l _ _ y];exact sN _)
 ·unfold un
  cases z:F p with
  |some w=>
   rcases dj_r o2 j p with y |y
   ·rw[y]at z;cases z
   ·exact .inr y
  |none=>exact j.dj p
 ·cases y:hE p with
  |none=>exact absurd y z
  |some w=>exact o4 p (by rw[j.r _ _ y];exact sN _)
noncomputable def dsOf:List Ag->Option (List D)
 |[]=>vj []
 |.d d::gs=>(dsOf gs).map λds=>d::ds
 |.l _::_=>vk
theorem ag_ds:∀{gs:List Ag}{ds:List D}{vs:List V}{h:Hp},dsOf gs=vj ds->AgR K σ F H gs vs h->ODs K ds vs F h
 |[],_,_,_,e,r=>by unfold dsOf at e;cases e;unfold ODs;exact r
 |.d d::gs,_,_,_,e,q_=>by
  obtain⟨v,bg,h1,h2,e1,j,o,r⟩:=q_;unfold dsOf at e;obtain⟨ds,e2,rfl⟩:=lJ.mp e;unfold ODs;exact⟨v,bg,h1,h2,e1,j,o,ag_ds e2 r⟩
 |.l _::_,_,_,_,e,_=>by unfold dsOf at e;cases e
def forS (pn:Nat->Bool)(ik:Ik)(g:Tg)(r:Mr Env (List Ag))(body:Env->Mr Env Fl):Mr Env Fl:=r.bind λgs e=>match dsOf gs with
 |some ds=>(match ik.f ds with
  |.ok items=>(match tgsD g items with
   |some xs=>forM (λe x=>match setG pn e g.is x with |some e'=>body e' |none=>.no) xs e
   |none=>.no)
  |_=>.no)
 |none=>.no
theorem zqa_ {pn:Nat->Bool}{ik:Ik}{g:Tg}{r:Mr Env (List Ag)}{body:Env->Mr Env Fl}(hp:∀i,pn i=vn->ws i=vk)(hg:EvG K ta E ws env r)(hb:∀e,EvS K s E ws e (body e)):EvS K (tFor (ik.t K ta) (tgT K g) s) E ws env (forS pn ik g r body):=by
 intro F0 H0 σ F h H N hL ok fin;refine hg F0 H0 σ F h H _ hL ok ?_;cases r with
 |no=>exact fin
 |ex c e=>exact λF h H hL ok=>fin σ F h H hL ok
 |ok gs e=>
  intro vs F1 hA hE h1 H1 av ag j aw _
  have fin:FinS K (match dsOf gs with
   |some ds=>(match ik.f ds with
    |.ok items=>(match tgsD g items with
     |some xs=>forM (λe x=>match setG pn e g.is x with |some e'=>body e' |none=>.no) xs e
     |none=>.no)
    |_=>.no)
   |none=>.no) E ws F0 H0 N:=fin
  cases e1:dsOf gs with
  |none=>rw[e1]at fin;exact fin.elim
  |some ds=>
   rw[e1]at fin;dsimp only at fin;obtain⟨dr,sF,ay⟩:=zi4_ (ag_ds e1 ag) j aw;cases e2:ik.f ds with
   |no=>rw[e2]at fin;exact fin.elim
   |ex c=>rw[e2]at fin;exact fin.elim
   |ok items=>
    rw[e2]at fin;dsimp only at fin;cases e3:tgsD g items with
    |none=>rw[e3]at fin;exact fin.elim
    |some xs=>
     rw[e3]at fin;dsimp only at fin;refine ik_w (E:=E) ik ds vs σ (un F1 hA) H1 _ ay.1.2.1 dr ?_;rw[e2];intro F2 H2 x2 J Y;have bj:=ay.cold x2;obtain⟨l,gx⟩:=zd7_ e3;have xx:Ext F0 H0 F2 H2:=bj.1
     refine⟨λn m σ H=>m=xs.length-n/\n<=xs.length/\∃e F h,Hold (LofW K ws e) σ F h/\Okk F2 H0 F h H/\FinS K (forM (λe x=>match setG pn e g.is x with |some e'=>body e' |none=>.no) (xs.drop n) e) E ws F0 H0 N,
      ⟨_,rfl,mq _,e,F2,hE,av.mono (sF.trans x2.1),bj.rebase xx (Same.refl _),fin⟩,?_⟩
     rintro n m σ H ⟨rfl,hn,e,F,h,hL,ok,fin⟩;have s1:Same F2 H:=ok.1.1.trans ok.1.2.1;by_cases aB:n<xs.length
     ·right
      obtain⟨d,hd,td⟩:=gx n xs[n] (lA aB);obtain⟨g1,g2⟩:=Y.go n H d s1 hd;refine⟨g1,λah H'=>n+1<=xs.length/\∃e F h,Hold (LofW K ws e) ah F h/\Okk F2 H0 F h H'/\FinS K (forM (λe x=>match setG pn e g.is x with |some e'=>body e' |none=>.no) (xs.drop (n+1)) e) E ws F0 H0 N,λah H' z=>⟨xs.length-(n+1),by lia,rfl,z⟩,λv H3 hy=>?_⟩
      obtain⟨F3,x3,hv⟩:=g2 v H3 hy F ok.1.1 ok.1.2.1;refine tg_R g xs[n] v σ F3 H3 _ x3.2.1 (tgD_R td hv) λvs pl=>?_
      rw[pI aB]at fin;unfold forM at fin;cases es:setG pn e g.is xs[n]with
      |none=>rw[es]at fin;exact fin.elim
      |some e'=>
       rw[es]at fin;refine hb e' F2 H0 _ F3 h H3 _ (zei_ hp es pl (hL.mono x3.1)) (ok.cold x3) ?_;dsimp only[Mr.bind]at fin;cases eb:body e' with
       |no=>rw[eb]at fin;exact fin
       |ex c e2=>rw[eb]at fin;exact λσ F h H hL ok=>fin σ F h H hL (ok.unbase xx)
       |ok o e2=>
        rw[eb]at fin;cases o with
        |nx=>exact λah F' h' H' fc bO=>⟨aB,e2,F',h',fc,bO,fin⟩
        |ct=>exact λah F' h' H' fc bO=>⟨aB,e2,F',h',fc,bO,fin⟩
        |bk=>exact λah F' h' H' fc bO=>fin ah F' h' H' fc (bO.unbase xx)
        |rt a=>exact λv σ F hr h2 h H a1 a2 a3 ok=>fin v σ F hr h2 h H a1 a2 a3 (ok.unbase xx)
     ·left
      have en:n=xs.length:=by lia
      subst en;rw[qJ]at fin;exact⟨by rw[l];exact Y.stop H s1,fin σ F h H hL (ok.unbase xx)⟩
theorem zhq_:∀{gs:List Ag}{vs:List V}{h:Hp},AgR K σ F H gs vs h->vs.length=gs.length
 |[],_,_,r=>by rw[r.1];rfl
 |.d d::gs,_,_,r=>by obtain⟨v,bg,h1,h2,e,j,o,r⟩:=r;rw[e,lG,lG,zhq_ r]
 |.l q::gs,_,_,r=>by obtain⟨u,v,bg,e,e1,f,r⟩:=r;rw[e,lG,lG,zhq_ r]
variable {h3 k:Hp}{us:List V}{Q:VK}{G:Gi}
theorem ODs.snoc:∀{ds:List D}{us:List V}{h1 h:Hp},ODs K ds us F h1->OD K d v F h2->Jn h1 h2 h->ODs K (ds++[d]) (us++[v]) F h
 |[],_,h1,h,q,o,j=>by
  unfold ODs at q;rw[q.1,nQ,nQ];have:h=h2:=by rw[zci_ j];funext p;unfold un;rw[q.2 p]
  subst this;unfold ODs;exact⟨v,[],h,λ_=>vk,rfl,no_r _ λ_=>rfl,o,by unfold ODs;exact⟨rfl,λ_=>rfl⟩⟩
 |e::es,_,h1,h,q,o,j=>by
  unfold ODs at q;obtain⟨w,ws,k1,k2,rfl,jk,a,r⟩:=q;obtain⟨m,jm,jh⟩:=zm_ jk j;rw[mK,mK];unfold ODs;exact⟨w,ws++[v],k1,m,rfl,jh,a,ODs.snoc r o jm⟩
theorem ODs.app:∀{ds es:List D}{us ws:List V}{h1 h2 h:Hp},ODs K ds us F h1->ODs K es ws F h2->Jn h1 h2 h->ODs K (ds++es) (us++ws) F h
 |[],es,_,ws,h1,h2,h,q,o,j=>by
  unfold ODs at q;rw[q.1,nQ,nQ];have:h=h2:=by rw[zci_ j];funext p;unfold un;rw[q.2 p]
  subst this;exact o
 |e::ds,es,_,ws,h1,h2,h,q,o,j=>by
  unfold ODs at q;obtain⟨w,ws',k1,k2,rfl,jk,a,r⟩:=q;obtain⟨m,jm,jh⟩:=zm_ jk j;rw[mK,mK];unfold ODs;exact⟨w,ws'++ws,k1,m,rfl,jh,a,ODs.app r o jm⟩
theorem zed_ {o o':HO}{hc ha k:Hp}{ds':List D}(hs:Same F H)(dj:Dj F h)(sh:Same h H)(nt:∀p xs,h p≠vj (.tup xs))(jh:Jn (one p o) k h)(n':∀xs,o'≠.tup xs){d:D}{v:V}{hr h2:Hp}(jk:Jn hr h2 (un (one p o') k))
  (od:OD K d v F hr) (os:ODs K ds' vs F h2) (fin:∀v F' h' H' hr h2,Okk F (less H h) F' h' H'->Jn hr h2 h'->OD K d v F' hr->ODs K ds' vs F' h2->Q v H'):Q v (upd H p o'):=by
 have ok:=zbq_ hs dj sh nt;have hp:h p≠vk:=by rw[jh.l _ _ zp_];exact sN _
 have bO:=zgH_ (h1':=h) (hr:=h) (h':=h) ok hp n' (un (one p o') k) λq=>by
  unfold un;rw[zb_];by_cases e:q=p
  ·rw[if_pos e,if_pos e]
  ·rw[if_neg e,if_neg e]
   rcases jh q with⟨_,b⟩|⟨a,b⟩
   ·exact b.symm
   ·rw[a,b,zb_,if_neg e]
 exact fin v F _ _ hr h2 bO jk od os
def BmOk (K:mh)(r:V->List V->Hp->VK->Prop)(f:Fn):Prop:=∀x xs H Q E,CtG K f (x::xs) H Q E->r x xs H Q
def appendF:Fn:=λds=>match ds with
 |[.nd .lst xs,d]=>if xs.length<lL then .ok .non [.nd .lst (xs++[d]),.gone]else .no
 |_=>.no
theorem zfi_ (os:ODs K ds vs F h):∀p xs,h p≠vj (.tup xs):=OD.notup.go os
theorem zaU_ {h:Hp}(hn:∀p,h p=vk):OD K .gone v F h:=by unfold OD;exact⟨hn,by unfold DR;trivial⟩
theorem zcD_ {h:Hp}(hn:∀p,h p=vk):OD K .non .non F h:=by unfold OD;exact⟨hn,by unfold DR;rfl⟩
theorem zh3_:BmOk K rAppend appendF:=by
 rintro x xs H Q E ⟨F,h,ds,hs,dj,sh,os,fin⟩;have nt:=zfi_ os;unfold appendF at fin;split at fin
 ·rename_i ys d
  split at fin
  ·rename_i hl
   unfold ODs at os;obtain⟨w,ws,m1,m2,e1,jm,o1,os⟩:=os;cases e1;unfold ODs at os;obtain⟨y,ws2,n1,n2,e2,jn,o2,os⟩:=os;cases e2;unfold ODs at os;obtain⟨rfl,nn⟩:=os;unfold OD at o1;obtain⟨p,us,h0,hc,rfl,cl,jc,oc⟩:=o1;have e0:h0=one p (.lst us):=cl;subst e0;have em:m2=n1:=by rw[zci_ jn];funext q;unfold un;cases z:n1 q with |none=>exact nn q |some o=>rfl
   subst em;obtain⟨a,ja,jb⟩:=zm_ jc jm;have hp:H p=vj (.lst us):=sh _ _ (jb.l _ _ zp_);refine⟨p,us,y,rfl,rfl,hp,by rw[<- ODs.len oc];exact hl,?_⟩
   have d1:Dj (one p (.lst (us++[y]))) a:=λq=>by
    rw[zb_];split
    ·rename_i e;subst e;right;exact(by rcases jb.dj q with z |z;rw[zp_]at z;cases z;exact z)
    ·exact .inl rfl
   refine zed_ (vs:=[.ref p,y]) (ds':=[.nd .lst (ys++[d]),.gone]) (hr:=λ_=>vk) (h2:=un (one p (.lst (us++[y]))) a) (hc:=h) (ha:=h) hs dj sh nt jb (λxs z=>by cases z) (no_l _ λ_=>rfl) (zcD_ λ_=>rfl) ?_ fin
   unfold ODs;refine⟨.ref p,[y],_,λ_=>vk,rfl,no_r _ λ_=>rfl,?_,?_⟩
   ·unfold OD
    exact⟨p,us++[y],_,a,rfl,rfl,zah_ d1,ODs.snoc oc o2 ja⟩
   ·unfold ODs
    exact⟨y,[],λ_=>vk,λ_=>vk,rfl,no_r _ λ_=>rfl,zaU_ λ_=>rfl,by unfold ODs;exact⟨rfl,λ_=>rfl⟩⟩
  ·exact fin.elim
 ·exact fin.elim
theorem recv1 {k:Nd}{ys args:List D}{x:V}{xs:List V}(os:ODs K (.nd k ys::args) (x::xs) F h):∃p us h0 hc ha a,x=.ref p/\Cell K k p us F h0/\Jn h0 a h/\Jn hc ha a/\ODs K ys us F hc/\ODs K args xs F ha:=by
 unfold ODs at os;obtain⟨w,ws,m1,m2,e1,jm,o1,os⟩:=os;cases e1;unfold OD at o1;obtain⟨p,us,h0,hc,rfl,cl,jc,oc⟩:=o1;obtain⟨a,ja,jb⟩:=zm_ jc jm;exact⟨p,us,h0,hc,m2,a,rfl,cl,jb,ja,oc,os⟩
theorem zeX_ {o o':HO}{a:Hp}(jb:Jn (one p o) a h):Dj (one p o') a:=λq=>by
 rw[zb_];split
 ·rename_i e;subst e;right;rcases jb.dj q with z |z
  ·rw[zp_]at z;cases z
  ·exact z
 ·exact .inl rfl
theorem recv2 {cz cW:List D}{bF:List V}{xs:List V}{a b aI:Hp}(d1:Dj (one p (.lst bF)) a)(jc:Jn aI b a)(oc:ODs K cz bF F aI)(oa:ODs K cW xs F b):ODs K (.nd .lst cz::cW) (.ref p::xs) F (un (one p (.lst bF)) a):=by
 have d2:Dj (one p (.lst bF)) aI:=λq=>by rcases d1 q with z |z;exact .inl z;exact .inr (jc.l.free z)
 have d3:Dj (one p (.lst bF)) b:=λq=>by rcases d1 q with z |z;exact .inl z;exact .inr (jc.r.free z)
 unfold ODs;refine⟨.ref p,xs,un (one p (.lst bF)) aI,b,rfl,?_,?_,oa⟩
 ·have:=zoK_ d2 d3 jc.dj
  rw[<- zci_ jc]at this;exact this
 ·unfold OD
  exact⟨p,bF,_,aI,rfl,rfl,zah_ d2,oc⟩
theorem zhs_ {y:V}:ODs K [.gone] [y] F (λ_=>vk):=by
 unfold ODs;exact⟨y,[],λ_=>vk,λ_=>vk,rfl,no_r _ λ_=>rfl,zaU_ λ_=>rfl,by unfold ODs;exact⟨rfl,λ_=>rfl⟩⟩
theorem zeK_:∀{ds:List D}{us:List V},ds.length=us.length->ODs K (ds.map λ_=>.gone) us F (λ_=>vk)
 |[],[],_=>by rw[nL];unfold ODs;exact⟨rfl,λ_=>rfl⟩
 |d::ds,u::us,l=>by rw[lB];unfold ODs;exact⟨u,us,λ_=>vk,λ_=>vk,rfl,no_r _ λ_=>rfl,zaU_ λ_=>rfl,zeK_ (by simpa using l)⟩
 |[],_::_,l=>by simp at l
 |_::_,[],l=>by simp at l
theorem zcG_:ODs K [] [] F (λ_=>vk):=by unfold ODs;exact⟨rfl,λ_=>rfl⟩
theorem zeG_ {y:V}(h1:ODs K [d] [y] F h):OD K d y F h:=by
 unfold ODs at h1;obtain⟨v,vs,m1,m2,e,j,o,r⟩:=h1;cases e;unfold ODs at r;have:h=m1:=by rw[zci_ j];funext q;unfold un;cases z:m1 q with |none=>exact r.2 q |some o=>rfl
 rw[this];exact o
theorem zgg_ {xs:List V}(h1:ODs K [d] xs F h):∃y,xs=[y]:=nE.mp (ODs.len h1).symm
theorem len2_ {l:List V}(h:l.length=2):∃a b,l=[a,b]:=by
 obtain⟨a,t,rfl⟩:=mE h;obtain⟨b,rfl⟩:=nE.mp (nh h);exact⟨a,b,rfl⟩
theorem len3_ {l:List V}(h:l.length=3):∃a b c,l=[a,b,c]:=by
 obtain⟨a,t,rfl⟩:=mE h;obtain⟨b,c,rfl⟩:=len2_ (nh h);exact⟨a,b,c,rfl⟩
def extendF:Fn:=λds=>match ds with
 |[.nd .lst xs,.nd .lst ys]=>if xs.length+ys.length<=lL then .ok .non [.nd .lst (xs++ys),.nd .lst (ys.map λ_=>.gone)]else .no
 |[.nd .lst xs,.fz d]=>(match d.un with |.nd .lst ys=>if xs.length+ys.length<=lL then .ok .non [.nd .lst (xs++ys.map .vw),.gone]else .no |_=>.no)
 |_=>.no
theorem zhJ_:BmOk K rExtend extendF:=by
 rintro x xs H Q E ⟨F,h,ds,hs,dj,sh,os,fin⟩;have nt:=zfi_ os;unfold extendF at fin;split at fin
 ·rename_i ys zs
  split at fin
  ·rename_i hl
   obtain⟨p,us,h0,hc,ha,a,rfl,cl,jb,ja,oc,oa⟩:=recv1 os;have e0:h0=one p (.lst us):=cl;subst e0;obtain⟨y,rfl⟩:=zgg_ oa;have o2:=zeG_ oa;unfold OD at o2;obtain⟨p2,us2,h2,bI,rfl,cl2,jc2,dI⟩:=o2;have e2:h2=one p2 (.lst us2):=cl2;subst e2;have hp:H p=vj (.lst us):=sh _ _ (jb.l _ _ zp_);have cH:H p2=vj (.lst us2):=sh _ _ (jb.r _ _ (ja.r _ _ (jc2.l _ _ zp_)));refine⟨p,p2,us,us2,rfl,rfl,hp,cH,by rw[<- ODs.len oc,<- ODs.len dI];exact hl,?_⟩
   obtain⟨m,jm,jh⟩:=zm_ (z8_ jc2) (z8_ ja);obtain⟨m3,jm3,jh3⟩:=zm_ jm (z8_ jh);have i9:=ODs.app oc dI jm3;have jg:Jn m3 (one p2 (.lst us2)) a:=z8_ jh3;refine zed_ (vs:=[.ref p,.ref p2]) (ds':=[.nd .lst (ys++zs),.nd .lst (zs.map λ_=>.gone)]) (hr:=λ_=>vk) (h2:=un (one p (.lst (us++us2))) a) (hc:=h) (ha:=h) hs dj sh nt jb (λxs z=>by cases z) (no_l _ λ_=>rfl) (zcD_ λ_=>rfl) (recv2 (zeX_ jb) jg i9 ?_) fin
   unfold ODs;refine⟨.ref p2,[],_,λ_=>vk,rfl,no_r _ λ_=>rfl,?_,zcG_⟩
   unfold OD;exact⟨p2,us2,_,λ_=>vk,rfl,rfl,no_r _ λ_=>rfl,zeK_ (ODs.len dI)⟩
  ·exact fin.elim
 ·rename_i ys d
  split at fin
  ·rename_i zs e
   split at fin
   ·rename_i hl
    obtain⟨p,us,h0,hc,ha,a,rfl,cl,jb,ja,oc,oa⟩:=recv1 os;have e0:h0=one p (.lst us):=cl;subst e0;obtain⟨y,rfl⟩:=zgg_ oa;have o2:=zeG_ oa;unfold OD at o2;obtain⟨n2,r2⟩:=o2;have r2:=DR.un r2;rw[show(D.fz d).un=d.un from by rw[D.un],e]at r2
    obtain⟨p2,us2,rfl,n,r⟩:=r2.nd;have hp:H p=vj (.lst us):=sh _ _ (jb.l _ _ zp_);refine⟨p,p2,us,us2,rfl,rfl,hp,hs _ _ n,by rw[<- ODs.len oc,<- r.len];exact hl,?_⟩
    have ea:a=hc:=by rw[zci_ ja];funext q;unfold un;cases z:hc q with |none=>exact n2 q |some o=>rfl
    subst ea;exact zed_ (vs:=[.ref p,.ref p2]) (ds':=[.nd .lst (ys++zs.map D.vw),.gone]) (hr:=λ_=>vk) (h2:=un (one p (.lst (us++us2))) a) (hc:=h) (ha:=h) hs dj sh nt jb (λxs z=>by cases z) (no_l _ λ_=>rfl) (zcD_ λ_=>rfl) (recv2 (zeX_ jb) (no_r _ λ_=>rfl) (ODs.app oc (ODs.vw (h:=λ_=>vk) (λ_=>rfl) r) (no_r _ λ_=>rfl)) zhs_) fin
   ·exact fin.elim
  ·exact fin.elim
 ·exact fin.elim
theorem recvV {v0 d0:D}{args:List D}{x y:V}{xs:List V}(os:ODs K (v0::d0::args) (x::y::xs) F h):∃h1 h2 h3 a,Jn h1 a h/\Jn h2 h3 a/\OD K v0 x F h1/\OD K d0 y F h2/\ODs K args xs F h3:=by
 unfold ODs at os;obtain⟨w,ws,m1,m2,e1,jm,o1,os⟩:=os;cases e1;unfold ODs at os;obtain⟨w2,ws2,n1,n2,e2,jn,o2,os⟩:=os;cases e2;exact⟨m1,n1,n2,m2,jm,jn,o1,o2,os⟩
def rSetD:TSet:=λo i v H Q=>atD o i H λa kvs k=>kvs.length<lL/\Q (upd H a (.dK (putK kvs k v)))
def rSetA:TSet:=λo i v H Q=>mSet o i v H Q\/rSetD o i v H Q
theorem set_A {X:Cx}(hu:X.A.units+60<cLine):PSet X rSetA:=by
 intro pins s σ H o i v ov iv u Q I ro ri rv h;rcases h with h |h
 ·exact set_M pins s σ H o i v ov iv u Q I ro ri rv h
 ·obtain⟨a,kvs,k,rfl,rfl,hd,hl,q⟩:=zg1_ h
  cases ro;exact zhu_ (by lia) I (DPut.k hd hl) ri rv λs4 I4=>⟨_,I4,q⟩
def setIF:Fn:=λds=>match ds with
 |[v,.nd .lst xs,.int i]=>(match ixN xs.length i with |some j=>.ok .non [.gone,.nd .lst (xs.set j v),.int i]|none=>.no)
 |[v,.nd (.dct ks) xs,k]=>(match keyD k with
  |some k'=>if kIx ks k'<ks.length/\xs.length<lL then .ok .non [.gone,.nd (.dct ks) (xs.set (kIx ks k') v),k]else if xs.length<lL/\¬kIx ks k'<ks.length then .ok .non [.gone,.nd (.dct (ks++[k'])) (xs++[v]),k]else .no
  |none=>.no)
 |_=>.no
theorem zek_ {o o':HO}{k m:Hp}{ds':List D}(hs:Same F H)(dj:Dj F h)(sh:Same h H)(nt:∀p xs,h p≠vj (.tup xs))(jh:Jn (one p o) k h)(n':∀xs,o'≠.tup xs)(sm:Same m (un (one p o') k)){d:D}{v:V}{hr h2:Hp}(jk:Jn hr h2 m)
  (od:OD K d v F hr) (os:ODs K ds' vs F h2) (fin:∀v F' h' H' hr h2,Okk F (less H h) F' h' H'->Jn hr h2 h'->OD K d v F' hr->ODs K ds' vs F' h2->Q v H'):Q v (upd H p o'):=by
 have ok:=zbq_ hs dj sh nt;have hp:h p≠vk:=by rw[jh.l _ _ zp_];exact sN _
 have bO:=zgH_ (h1':=h) (hr:=h) (h':=h) ok hp n' (un (one p o') k) λq=>by
  unfold un;rw[zb_];by_cases e:q=p
  ·rw[if_pos e,if_pos e]
  ·rw[if_neg e,if_neg e]
   rcases jh q with⟨_,b⟩|⟨a,b⟩
   ·exact b.symm
   ·rw[a,b,zb_,if_neg e]
 exact fin v F _ _ hr h2 (zc9_ bO sm) jk od os
theorem zh2_:∀{ks:List Key}{k:Key},kIx ks k<ks.length↔k∈ks
 |[],k=>by simp[kIx]
 |k0::ks,k=>by
  unfold kIx;by_cases e:k0=k
  ·subst e;simp
  ·rw[if_neg e,lG,Nat.succ_lt_succ_iff,zh2_,lQ]
   exact⟨.inr,λz=>by rcases z with z |z;exact absurd z.symm e;exact z⟩
theorem zow_:∀{ks:List Key}{us:List V}{k:Key}{v:V},k∈ks->ks.Nodup->ks.length=us.length->putK (ks.zip us) k v=ks.zip (us.set (kIx ks k) v):=λ{ks us k v} hk nd hl=>by
 have ha:((ks.zip us).any λkv=>decide (kv.1=k))=vm:=by
  rw[qM];obtain⟨i,hi,e⟩:=qh hk;exact⟨(ks[i],us[i]'(by lia)),m8 (i:=i) (by rw[pH];exact⟨by rw[lA hi],by rw[lA]⟩),by simpa using e⟩
 unfold putK;rw[if_pos ha];clear ha;induction ks generalizing us with
 |nil=>simp at hk
 |cons k0 ks ih=>
  cases us with
  |nil=>simp at hl
  |cons u us=>
   obtain⟨n1,n2⟩:=oz.mp nd;rw[mf,lB];unfold kIx;by_cases e:k0=k
   ·subst e
    rw[if_pos rfl,if_pos rfl,oq,mf];congr 1;have:∀q∈ks.zip us,(if q.1=k0 then(q.1,v)else q)=q:=λq hq=>by
     have h1:=(oA (a:=q.1) (b:=q.2) hq).1;rw[if_neg (show¬q.1=k0 from λz=>n1 (z ▸ h1))]
    exact(nS this).trans (uX _)
   ·rw[if_neg e,if_neg e,oW,mf]
    congr 1;exact ih (by rcases lQ.mp hk with z |z;exact absurd z.symm e;exact z) n2 (by simpa using hl)
theorem zhj_ {ks:List Key}{us:List V}{k:Key}{v:V}(hk:k∉ks)(hl:ks.length=us.length):putK (ks.zip us) k v=(ks++[k]).zip (us++[v]):=by
 have ha:¬((ks.zip us).any λkv=>decide (kv.1=k))=vm:=by
  rw[qM];rintro⟨q,hq,e⟩;exact hk (by have:=(oA hq).1;simp at e;rw[<- e];exact this)
 unfold putK;rw[if_neg ha,List.zip_append hl];rfl
theorem zjS_ {k:Nd}{ys:List D}(o:OD K (.nd k ys) v F h):∃p us h0 hc,v=.ref p/\Cell K k p us F h0/\Jn h0 hc h/\ODs K ys us F hc:=by unfold OD at o;exact o
theorem ods3 {a b c:D}{x y z:V}{h1 h2 h3 m:Hp}(o1:OD K a x F h1)(o2:OD K b y F h2)(o3:OD K c z F h3)(j1:Jn h2 h3 m)(j2:Jn h1 m h):ODs K [a,b,c] [x,y,z] F h:=by
 unfold ODs;refine⟨x,[y,z],h1,m,rfl,j2,o1,?_⟩;unfold ODs;refine⟨y,[z],h2,h3,rfl,j1,o2,?_⟩;unfold ODs;exact⟨z,[],h3,λ_=>vk,rfl,no_r _ λ_=>rfl,o3,zcG_⟩
theorem zqz_ {x o i:V}{QQ:Hp->Prop}(h0:CtG K setIF [x,o,i] H (λv H'=>v=.non->QQ H') E):rSetA o i x H QQ:=by
 obtain⟨F,h,ds,hs,dj,sh,os,fin⟩:=h0;have nt:=zfi_ os;unfold setIF at fin;split at fin
 ·rename_i v0 ys j0
  obtain⟨h1,h2,h3,a,ja,jb,ov,orr,oi⟩:=recvV os;have oi:=zeG_ oi;unfold OD at oi;obtain⟨n3,r3⟩:=oi;cases r3.int;obtain⟨p,us,c0,hc,rfl,cl,jc,oc⟩:=zjS_ orr;have e0:c0=one p (.lst us):=cl;subst e0;have ea:a=h2:=by rw[zci_ jb];funext q;unfold un;cases z:h2 q with |none=>exact n3 q |some o=>rfl
  subst ea;cases ej:ixN ys.length j0 with
  |none=>rw[ej]at fin;exact fin.elim
  |some j=>
   rw[ej]at fin;dsimp only at fin;have jO:=(zgx_ ej).2.1;obtain⟨u,k1,k2,eu,jk,ow,g⟩:=ODs.focus oc (lA jO);obtain⟨m,jm,jh⟩:=zm_ jc (z8_ ja);have d1:Dj h1 hc:=λq=>(jm.dj q).symm
   have d2:Dj h1 k2:=λq=>by rcases d1 q with z |z;exact .inl z;exact .inr (jk.r.free z)
   have on:=g v0 F x h1 (un h1 k2) (Same.refl _) ov (zah_ d2);have hp:H p=vj (.lst us):=sh _ _ (jh.l _ _ zp_);have sm:Same (un h1 k2) m:=λq o e=>by
    unfold un at e;cases z:h1 q with
    |some w=>rw[z]at e;cases e;exact jm.r _ _ z
    |none=>rw[z]at e;exact jm.l _ _ (jk.r _ _ e)
   have dp:Dj (one p (.lst (us.set j x))) (un h1 k2):=λq=>by
    rcases zeX_ (o':=.lst (us.set j x)) jh q with z |z
    ·exact .inl z
    ·exact .inr (sm.free z)
   refine .inl ⟨us,hp,?_⟩;rw[<- ODs.len oc,ej];refine zek_ (vs:=[x,.ref p,.int j0]) (m:=un (one p (.lst (us.set j x))) (un h1 k2)) (d:=.non) (v:=.non) (Q:=λv H'=>v=.non->QQ H') (hr:=λ_=>vk) hs dj sh nt jh (λxs z=>by cases z) (λq o e=>?_) (no_l _ λ_=>rfl) (zcD_ λ_=>rfl) (ods3 (zaU_ λ_=>rfl) ?_ (by unfold OD;exact⟨λ_=>rfl,by unfold DR;rfl⟩) (no_r _ λ_=>rfl) (no_l _ λ_=>rfl)) fin rfl
   ·unfold un at e ⊢
    cases z:one p (.lst (us.set j x)) q with
    |some w=>rw[z]at e;exact e
    |none=>rw[z]at e;exact sm _ _ e
   ·unfold OD
    exact⟨p,us.set j x,_,un h1 k2,rfl,rfl,zah_ dp,on⟩
 ·rename_i v0 ks ys key
  obtain⟨h1,h2,h3,a,ja,jb,ov,orr,oi⟩:=recvV os;have oi:=zeG_ oi;obtain⟨p,us,c0,hc,rfl,cl,jc,oc⟩:=zjS_ orr;obtain⟨e0,el,nd⟩:=cl;subst e0;cases ek:keyD key with
  |none=>rw[ek]at fin;exact fin.elim
  |some k'=>
   rw[ek]at fin;dsimp only at fin;have ck:(∀q,h3 q=vk)/\DR K key i F:=by
    have:∀{d:D}{k:Key},keyD d=vj k->d.cold=vm:=λ{d}=>by
     cases d with
     |nd=>intro k e;cases e
     |_=>intro k e;rfl
    exact OD.cold (this ek) oi
   obtain⟨n3,r3⟩:=ck;have kv:=zld_ ek r3;have ea:a=h2:=by rw[zci_ jb];funext q;unfold un;cases z:h2 q with |none=>exact n3 q |some o=>rfl
   subst ea;obtain⟨m,jm,jh⟩:=zm_ jc (z8_ ja);have hp:H p=vj (.dK (ks.zip us)):=sh _ _ (jh.l _ _ zp_);have d1:Dj h1 hc:=λq=>(jm.dj q).symm
   split at fin
   ·rename_i gL
    obtain⟨hk,dt⟩:=gL;have hj:kIx ks k'<ys.length:=by rw[ODs.len oc,<- el];exact hk
    obtain⟨u,k1,k2,eu,jk,ow,g⟩:=ODs.focus oc (lA hj);have d2:Dj h1 k2:=λq=>by rcases d1 q with z |z;exact .inl z;exact .inr (jk.r.free z)
    have on:=g v0 F x h1 (un h1 k2) (Same.refl _) ov (zah_ d2);have sm:Same (un h1 k2) m:=λq o e=>by
     unfold un at e;cases z:h1 q with
     |some w=>rw[z]at e;cases e;exact jm.r _ _ z
     |none=>rw[z]at e;exact jm.l _ _ (jk.r _ _ e)
    have dp:Dj (one p (.dK (ks.zip (us.set (kIx ks k') x)))) (un h1 k2):=λq=>by
     rcases zeX_ (o':=.dK (ks.zip (us.set (kIx ks k') x))) jh q with z |z
     ·exact .inl z
     ·exact .inr (sm.free z)
    refine .inr (zdB_ rfl kv.1 hp ⟨?_,?_⟩)
    ·rw[mX,el,oI,<- ODs.len oc];exact dt
    ·rw[zow_ (zh2_.mp hk) nd el]
     refine zek_ (vs:=[x,.ref p,i]) (m:=un (one p (.dK (ks.zip (us.set (kIx ks k') x)))) (un h1 k2)) (d:=.non) (v:=.non) (Q:=λv H'=>v=.non->QQ H') (hr:=λ_=>vk) hs dj sh nt jh (λxs z=>by cases z) (λq o e=>?_) (no_l _ λ_=>rfl) (zcD_ λ_=>rfl) (ods3 (zaU_ λ_=>rfl) ?_ oi (λq=>.inr ⟨n3 q,rfl⟩) (no_l _ λ_=>rfl)) fin rfl
     ·unfold un at e ⊢
      cases z:one p (.dK (ks.zip (us.set (kIx ks k') x))) q with
      |some w=>rw[z]at e;exact e
      |none=>rw[z]at e;exact sm _ _ e
     ·unfold OD
      exact⟨p,us.set (kIx ks k') x,_,un h1 k2,rfl,⟨rfl,by rw[nj];exact el,nd⟩,zah_ dp,on⟩
   ·split at fin
    ·rename_i dt
     obtain⟨hl,hk⟩:=dt;have bt:k'∉ks:=λz=>hk (zh2_.mpr z)
     refine .inr (zdB_ rfl kv.1 hp ⟨by rw[mX,el,oI,<- ODs.len oc];exact hl,?_⟩)
     rw[zhj_ bt el];have on:=ODs.snoc oc ov jm;have dp:=zeX_ (o':=.dK ((ks++[k']).zip (us++[x]))) jh;refine zek_ (vs:=[x,.ref p,i]) (m:=un (one p (.dK ((ks++[k']).zip (us++[x])))) m) (d:=.non) (v:=.non) (Q:=λv H'=>v=.non->QQ H') (hr:=λ_=>vk) hs dj sh nt jh (λxs z=>by cases z) (Same.refl _) (no_l _ λ_=>rfl) (zcD_ λ_=>rfl) (ods3 (zaU_ λ_=>rfl) ?_ oi (λq=>.inr ⟨n3 q,rfl⟩) (no_l _ λ_=>rfl)) fin rfl
     unfold OD;exact⟨p,us++[x],_,m,rfl,⟨rfl,by simp[el],qz.mpr ⟨nd,by simp,by rintro a ha b hb rfl;simp at hb;subst hb;exact bt ha⟩⟩,zah_ dp,on⟩
    ·exact fin.elim
 ·exact fin.elim
theorem zga_ {dx:lE}{o o':HO}{k m:Hp}{ds':List D}(hs:Same F H)(dj:Dj F h)(sh:Same h H)(nt:∀p xs,h p≠vj (.tup xs))(jh:Jn (two p dx o) k h)(n':∀xs,o'≠.tup xs)(sm:Same m (un (two p dx o') k)){d:D}{v:V}{hr h2:Hp}(jk:Jn hr h2 m)
  (od:OD K d v F hr) (os:ODs K ds' vs F h2) (fin:∀v F' h' H' hr h2,Okk F (less H h) F' h' H'->Jn hr h2 h'->OD K d v F' hr->ODs K ds' vs F' h2->Q v H'):Q v (upd H p o'):=by
 have ok:=zbq_ hs dj sh nt;have hp:h p≠vk:=by rw[jh.l _ _ zp6_];exact sN _
 have bO:=zgH_ (h1':=h) (hr:=h) (h':=h) ok hp n' (un (two p dx o') k) λq=>by
  unfold un;rw[z6_];by_cases e:q=p
  ·rw[if_pos e,if_pos e]
  ·rw[if_neg e,if_neg e]
   rcases jh q with⟨a,b⟩|⟨a,b⟩
   ·rw[z6_,if_neg e]at a
    rw[b];split at a
    ·cases a
    ·rename_i z;rw[if_neg z]
   ·rw[a,b,z6_,if_neg e];split<;>(rename_i z;exact z.symm)
 exact fin v F _ _ hr h2 (zc9_ bO sm) jk od os
theorem zi0_:∀{ns:List Str}{us:List V}{f:Str}{v:V},f∈ns->ns.length=us.length->putF f v (ns.zip us)=ns.zip (us.set (ns.idxOf f) v)
 |[],_,_,_,h,_=>by simp at h
 |n::ns,[],_,_,_,l=>by simp at l
 |n::ns,u::us,f,v,h,l=>by
  rw[mf,putF];by_cases e:n=f
  ·subst e;rw[if_pos rfl];simp
  ·rw[if_neg e,zi0_ (by rcases lQ.mp h with z |z;exact absurd z.symm e;exact z) (by simpa using l),tG,show(n == f)=vn from beq_eq_false_iff_ne.mpr e,cond_false,oW,mf]
def setFF (f:Str):Fn:=λds=>match ds with
 |[v,.nd (.obj c ns) xs]=>if ns.length<1000 then(if f∈ns then .ok .non [.gone,.nd (.obj c ns) (xs.set (ns.idxOf f) v)]else .ok .non [.gone,.nd (.obj c (ns++[f])) (xs++[v])])else .no
 |_=>.no
theorem znq_ {dx:lE}{o o':HO}{a:Hp}(jb:Jn (two p dx o) a h):Dj (two p dx o') a:=λq=>by
 rcases jb.dj q with z |z
 ·left
  rw[z6_]at z ⊢;split at z
  ·cases z
  ·rename_i e;rw[if_neg e];exact z
 ·exact .inr z
theorem ods2 {a b:D}{x y:V}{h1 h2:Hp}(o1:OD K a x F h1)(o2:OD K b y F h2)(j2:Jn h1 h2 h):ODs K [a,b] [x,y] F h:=by
 unfold ODs;refine⟨x,[y],h1,h2,rfl,j2,o1,?_⟩;unfold ODs;exact⟨y,[],h2,λ_=>vk,rfl,no_r _ λ_=>rfl,o2,zcG_⟩
theorem zon_ {x o:V}{n:Str}{v0:D}{c':Str}{ns:List Str}{ys:List D}{QQ:Hp->Prop}(h0:CtX K (setFF n) [v0,.nd (.obj c' ns) ys] [x,o] H (λv H'=>v=.non->QQ H') E):
  ∃a,o=.ref a/\∃dx fs,H a=vj (.ins (gA K c') dx fs)/\fs.length<1000/\QQ (upd H a (.ins (gA K c') dx (putF n x fs))):=by
 obtain⟨F,h,hs,dj,sh,os,fin⟩:=h0;have nt:=zfi_ os;unfold setFF at fin;dsimp only at fin
 ·split at fin
  ·rename_i hl
   obtain⟨h1,h2,h3,a,ja,jb,ov,orr,oi⟩:=recvV os;obtain⟨p,us,c0,hcc,rfl,cl,jc,oc⟩:=zjS_ orr;obtain⟨dx,dJ,e0,el⟩:=cl;subst e0;unfold ODs at oi;have ea:a=h2:=by rw[zci_ jb];funext q;unfold un;cases z:h2 q with |none=>exact oi.2 q |some o=>rfl
   subst ea;obtain⟨m,jm,jh⟩:=zm_ jc (z8_ ja);have hp:H p=vj (.ins (gA K c') dx (ns.zip us)):=sh _ _ (jh.l _ _ zp6_);have d1:Dj h1 hcc:=λq=>(jm.dj q).symm
   refine⟨p,rfl,dx,ns.zip us,hp,by rw[mX,el,oI,<- el];exact hl,?_⟩
   split at fin
   ·rename_i hn
    have hj:ns.idxOf n<ys.length:=by rw[ODs.len oc,<- el];exact List.idxOf_lt_length_iff.mpr hn
    obtain⟨u,k1,k2,eu,jk,ow,g⟩:=ODs.focus oc (lA hj);have d2:Dj h1 k2:=λq=>by rcases d1 q with z |z;exact .inl z;exact .inr (jk.r.free z)
    have on:=g v0 F x h1 (un h1 k2) (Same.refl _) ov (zah_ d2);have sm:Same (un h1 k2) m:=λq o e=>by
     unfold un at e;cases z:h1 q with
     |some w=>rw[z]at e;cases e;exact jm.r _ _ z
     |none=>rw[z]at e;exact jm.l _ _ (jk.r _ _ e)
    have dp:Dj (two p dx (.ins (gA K c') dx (ns.zip (us.set (ns.idxOf n) x)))) (un h1 k2):=λq=>by
     rcases znq_ (o':=.ins (gA K c') dx (ns.zip (us.set (ns.idxOf n) x))) jh q with z |z
     ·exact .inl z
     ·exact .inr (sm.free z)
    rw[zi0_ hn el];refine zga_ (vs:=[x,.ref p]) (m:=un (two p dx (.ins (gA K c') dx (ns.zip (us.set (ns.idxOf n) x)))) (un h1 k2)) (d:=.non) (v:=.non) (Q:=λv H'=>v=.non->QQ H') (hr:=λ_=>vk) hs dj sh nt jh (λxs z=>by cases z) (λq o e=>?_) (no_l _ λ_=>rfl) (zcD_ λ_=>rfl) (ods2 (zaU_ λ_=>rfl) ?_ (no_l _ λ_=>rfl)) fin rfl
    ·unfold un at e ⊢
     cases z:two p dx (.ins (gA K c') dx (ns.zip (us.set (ns.idxOf n) x))) q with
     |some w=>rw[z]at e;exact e
     |none=>rw[z]at e;exact sm _ _ e
    ·unfold OD
     exact⟨p,us.set (ns.idxOf n) x,_,un h1 k2,rfl,⟨dx,dJ,rfl,by rw[nj];exact el⟩,zah_ dp,on⟩
   ·rename_i hn
    rw[zgi_ x hn el.symm];have on:=ODs.snoc oc ov jm;have dp:=znq_ (o':=.ins (gA K c') dx ((ns++[n]).zip (us++[x]))) jh;refine zga_ (vs:=[x,.ref p]) (m:=un (two p dx (.ins (gA K c') dx ((ns++[n]).zip (us++[x])))) m) (d:=.non) (v:=.non) (Q:=λv H'=>v=.non->QQ H') (hr:=λ_=>vk) hs dj sh nt jh (λxs z=>by cases z) (Same.refl _) (no_l _ λ_=>rfl) (zcD_ λ_=>rfl) (ods2 (zaU_ λ_=>rfl) ?_ (no_l _ λ_=>rfl)) fin rfl
    unfold OD;exact⟨p,us++[x],_,m,rfl,⟨dx,dJ,rfl,by simp[el]⟩,zah_ dp,on⟩
  ·exact fin.elim
def tSFldA (K:mh)(cs:List Str)(t tv:TE)(f:Str):TS:=λN σ H=>∃c∈cs,mSFld (gA K c) t tv f N σ H
def clsAt (env:Env)(q:Pl):Option Str:=match atE env q with |some (.nd (.obj c _) _)=>vj c |_=>vk
def setFM (G:Gi)(n:Str)(p:Pt)(x:X)(env:Env):Mr Env Fl:=(evG G env [.x x,.l p]).bind λgs e=>match gs with
 |[g,.l q]=>(match clsAt e q with |some c=>if c∈G.cs then dropM (callG (setFF n) [g,.l q] e)else .no |none=>.no)
 |_=>.no
theorem zoD_ (g0:G.Ok K)(n:Str)(pt:Pt)(x:X):EvS K (tSFldA K G.cs (pt.x.den K G E) (x.den K G E) n) E ws env (setFM G n pt x env):=by
 intro F0 H0 σ F h H N hL ok fin;unfold setFM at fin;have main:∀c∈G.cs,(∀gs e,evG G env [.x x,.l pt]=.ok gs e->∃g q,gs=[g,.l q]/\clsAt e q=vj c)->tSFldA K G.cs (pt.x.den K G E) (x.den K G E) n N σ H:=λc hc hg=>⟨c,hc,by
  have:=zdj_ (K:=K) (E:=E) (ws:=ws) g0 [.x x,.l pt] env;rw[show X.dens K G E ([A.x x,.l pt].map A.t)=tCons (x.den K G E) (tCons (pt.x.den K G E) tNil)from rfl]at this
  have key:FinG K (evG G env [.x x,.l pt]) E ws σ F0 H0 H (λvs H2=>match vs with |[y,.ref a]=>∃dx fs,H2 a=vj (.ins (gA K c) dx fs)/\fs.length<1000/\N.nx σ (upd H2 a (.ins (gA K c) dx (putF n y fs)))|_=>False):=by
   cases e:evG G env [.x x,.l pt]with
   |no=>rw[e]at fin;exact fin
   |ex c e'=>rw[e]at fin;exact λF h H hL ok=>fin σ F h H hL ok
   |ok gs e'=>
    rw[e]at fin;obtain⟨g,q,rfl,ecl⟩:=hg gs e' e;dsimp only[Mr.bind]at fin;rw[ecl]at fin;dsimp only at fin;rw[if_pos hc]at fin;intro vs F1 hA hE h1 H1 av ag j aw _;have fe:FinE K (callG (setFF n) [g,.l q] e') E ws σ F0 H0 (λv H'=>v=.non->N.nx σ H'):=by
     cases ec:callG (setFF n) [g,.l q] e' with
     |no=>rw[ec]at fin;exact fin
     |ex c e2=>rw[ec]at fin;exact λF h H hL ok=>fin σ F h H hL ok
     |ok d e2=>rw[ec]at fin;exact λv F hr h2 h H hL od j ok _=>fin σ F h H (Hold.more hL j) ok
    obtain⟨ds,er,cx⟩:=zfF_ av ag j aw fe;have hlen:=zhq_ ag;obtain⟨y,o,rfl⟩:=len2_ hlen;unfold clsAt at ecl;split at ecl
    ·rename_i c1 ns ys ea
     cases ecl;have ed:∃v0,ds=[v0,.nd (.obj c ns) ys]:=by
      cases g with
      |d v0=>simp[resolve,ea]at er;exact⟨v0,er.symm⟩
      |l q'=>
       cases eq':atE e' q' with
       |none=>simp[resolve,eq']at er
       |some v0=>simp[resolve,ea,eq']at er;exact⟨v0,er.symm⟩
     obtain⟨v0,rfl⟩:=ed;obtain⟨a,rfl,r⟩:=zon_ cx;exact r
    ·cases ecl
  ·-- the same,read as an assignment
   have z:=this F0 H0 σ F h H _ hL ok key;unfold mSFld;unfold tCons tNil at z;have e:(λ(y:V) (H1:Hp)=>(pt.x.den K G E) σ H1 λo H2=>(match([y,o]:List V)with |[y,.ref a]=>∃dx fs,H2 a=vj (.ins (gA K c) dx fs)/\fs.length<1000/\N.nx σ (upd H2 a (.ins (gA K c) dx (putF n y fs)))|_=>False))=λy H1=>(pt.x.den K G E) σ H1 λo H2=>(match o with |.ref a=>∃dx fs,H2 a=vj (.ins (gA K c) dx fs)/\fs.length<1000/\N.nx σ (upd H2 a (.ins (gA K c) dx (putF n y fs)))|_=>False):=by
    funext y H1;congr 1;funext o H2;cases o<;>rfl
   have z2:=z;rw[e]at z2;exact z2⟩
 cases e:evG G env [.x x,.l pt]with
 |no=>rw[e]at fin;exact fin.elim
 |ex c e'=>
  cases hcs:G.cs with
  |nil=>exact absurd hcs g0.cs
  |cons c0 cs=>
   have:=main c0 (by rw[hcs];exact lW ..) λgs e2 z=>by rw[e]at z;cases z
   rw[hcs]at this;exact this
 |ok gs e'=>
  rw[e]at fin;dsimp only[Mr.bind]at fin;split at fin
  ·rename_i g q
   cases ec:clsAt e' q with
   |none=>rw[ec]at fin;exact fin.elim
   |some c=>
    rw[ec]at fin;dsimp only at fin;by_cases hc:c∈G.cs
    ·exact main c hc λgs e2 z=>by rw[e]at z;cases z;exact⟨g,q,rfl,ec⟩
    ·rw[if_neg hc]at fin;exact fin.elim
  ·exact fin.elim
def setIM (G:Gi)(p:Pt)(k x:X)(env:Env):Mr Env Fl:=dropM ((evG G env [.x x,.l p,.x k]).bind (callG setIF))
theorem zm8_ (g0:G.Ok K)(pt:Pt)(k x:X):EvS K (tAsg (x.den K G E) (gSub (pt.x.den K G E) (k.den K G E) rSetA)) E ws env (setIM G pt k x env):=by
 intro F0 H0 σ F h H N hL ok fin;unfold setIM at fin;have:=zdj_ (K:=K) (E:=E) (ws:=ws) g0 [.x x,.l pt,.x k] env;rw[show X.dens K G E ([A.x x,.l pt,.x k].map A.t)=tCons (x.den K G E) (tCons (pt.x.den K G E) (tCons (k.den K G E) tNil))from rfl]at this
 refine this F0 H0 σ F h H (λvs H2=>match vs with |[y,o,i]=>rSetA o i y H2 (N.nx σ)|_=>False) hL ok ?_
 cases e:evG G env [.x x,.l pt,.x k]with
 |no=>rw[e]at fin;exact fin
 |ex c e'=>rw[e]at fin;exact λF h H hL ok=>fin σ F h H hL ok
 |ok gs e'=>
  rw[e]at fin;intro vs F1 hA hE h1 H1 av ag j aw _;have fin:FinS K (dropM (callG setIF gs e')) E ws F0 H0 N:=fin;have fe:FinE K (callG setIF gs e') E ws σ F0 H0 (λv H'=>v=.non->N.nx σ H'):=by
   cases ec:callG setIF gs e' with
   |no=>rw[ec]at fin;exact fin
   |ex c e2=>rw[ec]at fin;exact λF h H hL ok=>fin σ F h H hL ok
   |ok d e2=>rw[ec]at fin;exact λv F hr h2 h H hL od j ok _=>fin σ F h H (Hold.more hL j) ok
  have cx:=zcy_ av ag j aw fe;have hlen:=zhq_ ag;have jR:gs.length=3:=by
   have:∀{as:List A}{env e:Env}{gs:List Ag},evG G env as=.ok gs e->gs.length=as.length:=λ{as}=>by
    induction as with
    |nil=>intro env e gs h;unfold evG at h;cases h;rfl
    |cons a as ih=>
     intro env e gs h;cases a with
     |x y=>
      unfold evG at h;cases e1:stX G env y with
      |no=>rw[e1]at h;cases h
      |ex c t=>rw[e1]at h;cases h
      |ok d t=>
       rw[e1]at h;dsimp only[Mr.bind]at h;cases e2:evG G t as with
       |no=>rw[e2]at h;cases h
       |ex c t=>rw[e2]at h;cases h
       |ok gs' t'=>rw[e2]at h;cases h;rw[lG,lG,ih e2]
     |l p=>
      unfold evG at h;split at h
      ·cases e2:evG G env as with
       |no=>rw[e2]at h;cases h
       |ex c t=>rw[e2]at h;cases h
       |ok gs' t'=>rw[e2]at h;cases h;rw[lG,lG,ih e2]
      ·cases h
      ·cases h
   exact this e
  rw[jR]at hlen;obtain⟨y,o,i,rfl⟩:=len3_ hlen;exact zqz_ cx
theorem zdq_ (g0:G.Ok K){pt:Pt}(hL:Hold (LofW K ws env) σ F h)(ok:Okk F0 H0 F h H)(e:pt.ev G env=.ok q)(hc:atE env q=vj c)
  (hk:∀u F1 H1 k1 v,Okk F0 H0 F1 h H1->Hold (LofW K ws env) σ F1 h->Same k1 h->OD K c u F1 k1->σ[q.1]?=vj (vj v)->vAt H1 v q.2=vj u->Q u H1):pt.x.den K G E σ H Q:=by
 refine Pt.sound g0 pt E env σ (un F h) H _ (zcr_ (hL.froz ok.2.1)) ok.thaw ?_;rw[e];intro F1 H1 v u c' x1 hv hu _ _;obtain⟨o1,hsF,ht⟩:=ok.back x1;rcases ze0_ env q.1 with⟨d,hd⟩|hd
 ·rw[zP_ hd]at hc
  obtain⟨v',u',k1,k2,ev,vp,j,oc,_⟩:=zb6_ hL hd hc;rw[hv]at ev;cases ev;cases l9 ((zbP_ x1.2.2.1 (vp H ok.1.2.1 ok.2.2.1)).symm.trans hu);exact hk u _ H1 k1 v o1 (hL.mono hsF) j.l (oc.mono hsF) hv hu
 ·unfold atE at hc;split at hc
  ·rename_i d z;exact absurd z (hd d)
  ·cases hc
theorem pt_ex (g0:G.Ok K){pt:Pt}{x:Xc}(hL:Hold (LofW K ws env) σ F h)(ok:Okk F0 H0 F h H)(e:pt.ev G env=.ex x)(fin:∀F h H,Hold (LofW K ws env) σ F h->Okk F0 H0 F h H->Tell K E x H0 F H):pt.x.den K G E σ H Q:=by
 refine Pt.sound g0 pt E env σ (un F h) H _ (zcr_ (hL.froz ok.2.1)) ok.thaw ?_;rw[e];exact λF' H' y=>(fin _ _ _ (hL.mono (ok.back y).2.1) (ok.back y).1).back ok y
def lentG (G:Gi)(env:Env)(p:Pt)(as:List A)(ok:D->Bool)(k:Pl->List Ag->Env->Mr Env D):Mr Env D:=match p.ev G env with
 |.ok q=>(match atE env q with |some c=>if ok c then(evG G env as).bind (k q)else .no |none=>.no)
 |.ex c=>.ex c env
 |.no=>.no
theorem zi8_ {gs:List Ag}{v:V}{hA:Hp}(ev:σ[q.1]?=vj (vj v))(vp:vAt H1 v q.2=vj u)(sm:Same H1 H2)(ag:AgR K σ F2 H2 gs vs hA):AgR K σ F2 H2 (.l q::gs) (u::vs) hA:=⟨u,v,vs,rfl,ev,zbP_ sm vp,ag⟩
def isK (T:String)(c:D):Bool:=match c with |.nd .lst _=>T=="list" |.nd (.dct _) _=>T=="dict" |_=>vn
theorem zo9_ {T:String}(h0:isK T c=vm)(oc:OD K c u F k)(sF:Same F H)(sk:Same k H):tyV K T u H:=by
 unfold isK at h0;split at h0
 ·obtain⟨p,us,c0,hc,rfl,cl,jc,_⟩:=zjS_ oc
  have e0:c0=one p (.lst us):=cl;subst e0;have:T="list":=by simpa using h0
  exact .inl ⟨this,us,.of (sk _ _ (jc.l _ _ zp_))⟩
 ·obtain⟨p,us,c0,hc,rfl,cl,jc,_⟩:=zjS_ oc
  obtain⟨e0,_⟩:=cl;subst e0;have:T="dict":=by simpa using h0
  exact .inr (.inr (.inl ⟨this,.inl ⟨_,sk _ _ (jc.l _ _ zp_)⟩⟩))
 ·cases h0
theorem ee_bm (g0:G.Ok K){T:String}{r:V->List V->Hp->VK->Prop}(b:BmOk K r f)(pt:Pt)(as:List A):EvE K (tBM K T r (pt.x.den K G E) (X.dens K G E (as.map A.t))) E ws env (lentG G env pt as (isK T) λq gs e=>callG f (.l q::gs) e):=by
 intro F0 H0 σ F h H Q hL ok fin;unfold lentG at fin;cases e:pt.ev G env with
 |no=>rw[e]at fin;exact fin.elim
 |ex c=>rw[e]at fin;exact pt_ex g0 hL ok e fin
 |ok q=>
  rw[e]at fin;dsimp only at fin;cases hc:atE env q with
  |none=>rw[hc]at fin;exact fin.elim
  |some c=>
   rw[hc]at fin;dsimp only at fin;by_cases hk:isK T c=vm
   rotate_left
   ·rw[if_neg hk]at fin;exact fin.elim
   rw[if_pos hk]at fin;refine zdq_ g0 hL ok e hc λu F1 H1 k1 v o1 av sk oc ev vp=>⟨zo9_ hk oc o1.1.2.1 (sk.trans o1.2.2.1),?_⟩
   refine zdj_ (K:=K) (E:=E) (ws:=ws) g0 as env F0 H0 σ F1 h H1 _ av o1 ?_;cases eg:evG G env as with
   |no=>rw[eg]at fin;exact fin
   |ex x e'=>rw[eg]at fin;exact fin
   |ok gs e'=>
    rw[eg]at fin;intro vs F2 hA hE h2 H2 bC ag j ay sm;exact b u vs H2 Q E (zcy_ bC (zi8_ ev vp sm ag) j ay fin)
theorem zqy_ (g0:G.Ok K){T:String}{r:V->List V->Hp->VK->Prop}(b:BmOk K r f)(pt:Pt):EvE K (tBM0 K T r (pt.x.den K G E)) E ws env (lentG G env pt [] (isK T) λq gs e=>callG f (.l q::gs) e):=by
 intro F0 H0 σ F h H Q hL ok fin;have:=ee_bm (ws:=ws) (env:=env) (E:=E) g0 (T:=T) b pt [] F0 H0 σ F h H Q hL ok fin;exact this
def setdF:Fn:=λds=>match ds with
 | [.nd (.dct ks) ys,key,v]=>if v.cold then(match keyD key with
   |some k'=>if kIx ks k'<ks.length then(match ys[kIx ks k']? with |some y=>if y.cold then .ok y [.nd (.dct ks) ys,key,v]else .no |none=>.no)
    else if ys.length<lL then .ok v [.nd (.dct (ks++[k'])) (ys++[v]),key,v]else .no
   |none=>.no)else .no
 |_=>.no
def rSetd:V->List V->Hp->VK->Prop:=λx xs H Q=>match xs with
 |[y,z]=>atD x y H λa kvs k=>match valV kvs k with |some v=>Q v H |none=>kvs.length<lL/\Q z (upd H a (.dK (putK kvs k z)))
 |_=>False
theorem zjW_ {ks:List Key}{us:List V}{k:Key}(hk:k∉ks):valV (ks.zip us) k=vk:=by
 unfold valV;rw[List.find?_eq_none.mpr]
 ·rfl
 ·intro q hq z
  exact hk (by have:=(oA (a:=q.1) (b:=q.2) hq).1;simp at z;rw[<- z];exact this)
theorem zkO_:∀{d:D}{k:Key},keyD d=vj k->d.cold=vm:=λ{d}=>by
 cases d with
 |nd=>intro k e;cases e
 |_=>intro k e;rfl
theorem zlO_:BmOk K rSetd setdF:=by
 rintro x xs H Q E ⟨F,h,ds,hs,dj,sh,os,fin⟩;have nt:=zfi_ os;have i8:=os;unfold setdF at fin;split at fin
 ·rename_i ks ys key v0
  split at fin
  rotate_left
  ·exact fin.elim
  rename_i hc
  unfold ODs at os;obtain⟨xr,vs1,hA,hB,e1,jA,oR,os1⟩:=os;unfold ODs at os1;obtain⟨xk,vs2,hK,hV,e2,jK,oK,os2⟩:=os1;unfold ODs at os2;obtain⟨xz,vs3,hZ,hN,e3,jZ,oZ,os3⟩:=os2;unfold ODs at os3;obtain⟨e4,nN⟩:=os3;cases e1;subst e2;subst e3;subst e4;obtain⟨nZ,rZ⟩:=OD.cold hc oZ;cases ek:keyD key with
  |none=>rw[ek]at fin;exact fin.elim
  |some k'=>
   rw[ek]at fin;dsimp only at fin;obtain⟨nK,rK⟩:=OD.cold (zkO_ ek) oK;have kv:=zld_ ek rK;obtain⟨p,us,c0,aI,rfl,cl,jc,oc⟩:=zjS_ oR;obtain⟨e0,el,nd⟩:=cl;subst e0;have nV:∀q,hV q=vk:=λq=>by rw[zci_ jZ];unfold un;rw[nZ q];exact nN q
   have nB:∀q,hB q=vk:=λq=>by rw[zci_ jK];unfold un;rw[nK q];exact nV q
   have eh:h=hA:=by rw[zci_ jA];funext q;unfold un;cases z:hA q with |none=>exact nB q |some o=>rfl
   subst eh;have hp:H p=vj (.dK (ks.zip us)):=sh _ _ (jc.l _ _ zp_);have zK:hK=λ_=>vk:=funext nK
   have zZ:hZ=λ_=>vk:=funext nZ
   split at fin
   ·rename_i hk
    cases ey:ys[kIx ks k']? with
    |none=>rw[ey]at fin;exact fin.elim
    |some y=>
     rw[ey]at fin;dsimp only at fin;split at fin
     rotate_left
     ·exact fin.elim
     rename_i hy
     obtain⟨u,k1,k2,eu,jk,ow,g⟩:=ODs.focus oc ey;obtain⟨n1,r1⟩:=OD.cold hy ow;unfold rSetd;refine zdB_ rfl kv.1 hp ?_;rw[zgR_ eu hk];have:k1=λ_=>vk:=funext n1
     rw[this]at ow;exact fin u F h H (λ_=>vk) h (zbq_ hs dj sh nt) (no_l _ λ_=>rfl) ow i8
   ·rename_i hk
    split at fin
    rotate_left
    ·exact fin.elim
    rename_i hl
    have bt:k'∉ks:=λz=>hk (zh2_.mpr z)
    unfold rSetd;refine zdB_ rfl kv.1 hp ?_;rw[zjW_ bt];refine⟨by rw[mX,el,oI,<- ODs.len oc];exact hl,?_⟩
    rw[zhj_ bt el];have on:=ODs.snoc oc oZ (no_r _ nZ);have dp:=zeX_ (o':=.dK ((ks++[k']).zip (us++[xz]))) jc;rw[zK]at oK;rw[zZ]at oZ;have o1:OD K (.nd (.dct (ks++[k'])) (ys++[v0])) (.ref p) F (un (one p (.dK ((ks++[k']).zip (us++[xz])))) aI):=by
     unfold OD;exact⟨p,us++[xz],_,aI,rfl,⟨rfl,by simp[el],qz.mpr ⟨nd,by simp,by rintro a ha b hb rfl;simp at hb;subst hb;exact bt ha⟩⟩,zah_ dp,on⟩
    exact zek_ (vs:=[.ref p,xk,xz]) (m:=un (one p (.dK ((ks++[k']).zip (us++[xz])))) aI) (d:=v0) (v:=xz) (Q:=Q) (hr:=λ_=>vk) hs dj sh nt jc (λxs z=>by cases z) (Same.refl _) (no_l _ λ_=>rfl) oZ (ods3 o1 oK oZ (no_l _ λ_=>rfl) (no_r _ λ_=>rfl)) fin
 ·exact fin.elim
theorem zma_ (g0:G.Ok K)(pt:Pt)(k v:X):EvE K (mSetD (pt.x.den K G E) (k.den K G E) (v.den K G E)) E ws env (lentG G env pt [.x k,.x v] (isK "dict") λq gs e=>callG setdF (.l q::gs) e):=by
 intro F0 H0 σ F h H Q hL ok fin;unfold lentG at fin;cases e:pt.ev G env with
 |no=>rw[e]at fin;exact fin.elim
 |ex c=>rw[e]at fin;exact pt_ex g0 hL ok e fin
 |ok q=>
  rw[e]at fin;dsimp only at fin;cases hc:atE env q with
  |none=>rw[hc]at fin;exact fin.elim
  |some c=>
   rw[hc]at fin;dsimp only at fin;by_cases hk:isK "dict" c=vm
   rotate_left
   ·rw[if_neg hk]at fin;exact fin.elim
   rw[if_pos hk]at fin;refine zdq_ g0 hL ok e hc λu F1 H1 k1 v0 o1 av sk oc ev vp=>⟨?_,?_⟩
   ·unfold isK at hk
    split at hk
    ·cases hk
    ·obtain⟨p,us,c0,hc,rfl,cl,jc,_⟩:=zjS_ oc
     obtain⟨e0,_⟩:=cl;subst e0;exact⟨_,(sk.trans o1.2.2.1) _ _ (jc.l _ _ zp_)⟩
    ·cases hk
   ·have key:=zdj_ (K:=K) (E:=E) (ws:=ws) g0 [.x k,.x v] env F0 H0 σ F1 h H1 (λvs H2=>rSetd u vs H2 Q) av o1
    rw[show X.dens K G E ([A.x k,.x v].map A.t)=tCons (k.den K G E) (tCons (v.den K G E) tNil)from rfl]at key
    refine key ?_;cases eg:evG G env [.x k,.x v]with
    |no=>rw[eg]at fin;exact fin
    |ex x e'=>rw[eg]at fin;exact fin
    |ok gs e'=>
     rw[eg]at fin;intro vs F2 hA hE h2 H2 bC ag j ay sm;exact zlO_ u vs H2 Q E (zcy_ bC (zi8_ ev vp sm ag) j ay fin)
end
inductive Bm where
 |append |extend
noncomputable def Bm.ty:Bm->String
 |_ => "list"
def Bm.r:Bm->V->List V->Hp->VK->Prop
 |.append=>rAppend |.extend=>rExtend
def Bm.f:Bm->Fn
 |.append=>appendF |.extend=>extendF
theorem bm_ok {K:mh}(o:Bm):BmOk K o.r o.f:=by
 cases o with
 |append=>exact zh3_
 |extend=>exact zhJ_
inductive Y where
 |pu (x:X)|mv (i:Nat)
 |call (f:Fn) (x:Str) (as:List A)
 |bm (o:Bm) (p:Pt) (as:List A)
 |bin (o:Bo) (y z:Y)
 |sd (p:Pt) (k v:X)
 |not (y:Y)
inductive S where
 |asg (i:Nat) (y:Y)
 |setF (p:Pt) (n:Str) (x:X)|setI (p:Pt) (k x:X)
 |ex (y:Y)|ret (y:Y)|retN
 |if_ (c:X) (a b:List S)|ifY (c:Y) (a b:List S)|ifL (c:X) (a b:List S)
 |for_ (ik:Ik) (src:List X) (tg:Tg) (b:List S)
 |pass |cont |never
 |try0 (b ba:List S)
section
variable (K:mR)(G:Gi)
def Y.den (E:XK):Y->TE
 |.pu x=>x.den K G E
 |.mv i=>mVar i
 |.call f _ as=>tCall (CtG K f) [] E (X.dens K G E (as.map A.t))
 |.bm o p as=>(match as with |[]=>tBM0 K o.ty o.r (p.x.den K G E)|_=>tBM K o.ty o.r (p.x.den K G E) (X.dens K G E (as.map A.t)))
 |.bin o y z=>tOp (o.r K) (y.den E) (z.den E)
 |.sd p k v=>mSetD (p.x.den K G E) (k.den K G E) (v.den K G E)
 |.not y=>mNotV (y.den E)
mutual
def S.den (E:XK):S->TS
 |.asg i y=>tAsg (y.den K G E) (gName i)
 |.setF p n x=>tSFldA K G.cs (p.x.den K G E) (x.den K G E) n
 |.setI p k x=>tAsg (x.den K G E) (gSub (p.x.den K G E) (k.den K G E) rSetA)
 |.ex y=>tDrop (y.den K G E)
 |.ret y=>tRet (y.den K G E)
 |.retN=>tRetN
 |.if_ c a b=>mIfS (mTest (c.den K G E)) (S.dens E a) (S.dens E b)
 |.ifY c a b=>mIfS (mTest (c.den K G E)) (S.dens E a) (S.dens E b)
 |.ifL c a b=>mIfS (mTrL K (c.den K G E)) (S.dens E a) (S.dens E b)
 |.for_ ik src tg b=>tFor (ik.t K (X.dens K G E src)) (tgT K tg) (S.dens E b)
 |.pass=>tNext
 |.cont=>tCont
 |.never=>tNever
 |.try0 b ba=>tSeq (S.dens E0 b) (S.dens E ba)
def S.dens (E:XK):List S->TS
 |[]=>tNext
 |s::ss=>tSeq (s.den E) (S.dens E ss)
end
end
def trD (d:D):Mo Bool:=match d.un with |.bl b=>.ok b |.nd .lst xs=>.ok (!xs.isEmpty)|_=>.no
theorem zo8_ {K:mh}{E:XK}{env:Env}{t:TE}{r:Mo D}(h:EvX K t E env r):EvT K (mTrL K t) E (Lof K env) (r.bind trD):=by
 intro σ F H Q hL hs q;refine ex_v h σ F H _ hL hs (q.bind.imp λa F1 H1 x1 k1 v1 aM=>?_)
 have ha:=DR.un aM;unfold trD at k1;split at k1
 ·rename_i b e;rw[e]at ha;cases ha.bl;exact k1.ok x1.2.1
 ·rename_i xs e;rw[e]at ha;obtain⟨p,us,rfl,n,r⟩:=ha.nd
  refine⟨us,.of (x1.2.1 _ _ n),?_⟩;rw[show us.isEmpty=xs.isEmpty from by have:=r.len;cases us<;>cases xs<;>first |rfl |cases this]
  exact k1.ok x1.2.1
 ·exact k1.elim
def moTo {α:Type}(m:Mo α)(e:Env):Mr Env α:=match m with |.ok a=>.ok a e |.ex c=>.ex c e |.no=>.no
def noEx (r:Mr Env Fl):Mr Env Fl:=match r with |.ex _ _=>.no |r=>r
section
variable (G:Gi)
def mvM (env:Env)(i:Nat):Mr Env D:=match env[i]? with |some (vj d)=>.ok d (env.set i vk)|_=>.no
def Y.ev:Y->Env->Mr Env D
 |.pu x,env=>stX G env x
 |.mv i,env=>mvM env i
 |.call f _ as,env=>(evG G env as).bind (callG f)
 |.bm o p as,env=>lentG G env p as (isK o.ty) λq gs e=>callG o.f (.l q::gs) e
 |.bin o y z,env=>(y.ev env).bind λd e=>(z.ev e).bind λd2 e2=>moTo (o.f d d2) e2
 |.sd p k v,env=>lentG G env p [.x k,.x v] (isK "dict") λq gs e=>callG setdF (.l q::gs) e
 |.not y,env=>(y.ev env).bind λd e=>moTo ((blD d).bind λb=>.ok (.bl (!b))) e
mutual
def S.run:(Nat->Bool)->S->Env->Mr Env Fl
 |pn,.asg i y,env=>asgM pn i (y.ev G env)
 |pn,.setF p n x,env=>setFM G n p x env
 |pn,.setI p k x,env=>setIM G p k x env
 |pn,.ex y,env=>dropM (y.ev G env)
 |pn,.ret y,env=>retM (y.ev G env)
 |pn,.retN,env=>.ok (.rt .non) env
 |pn,.if_ c a b,env=>ifM env ((c.ev G env).bind blD) (S.runs pn a env) (S.runs pn b env)
 |pn,.ifY c a b,env=>(c.ev G env).bind λd e=>ifM e (blD d) (S.runs pn a e) (S.runs pn b e)
 |pn,.ifL c a b,env=>ifM env ((c.ev G env).bind trD) (S.runs pn a env) (S.runs pn b env)
 |pn,.for_ ik src tg b,env=>forS pn ik tg (evG G env (src.map .x)) (λe=>S.runs pn b e)
 |pn,.pass,env=>.ok .nx env
 |pn,.cont,env=>.ok .ct env
 |pn,.never,env=>.no
 |pn,.try0 b ba,env=>seqM (noEx (S.runs pn b env)) λe=>S.runs pn ba e
def S.runs:(Nat->Bool)->List S->Env->Mr Env Fl
 |pn,[],env=>.ok .nx env
 |pn,s::ss,env=>seqM (S.run pn s env) (λe=>S.runs pn ss e)
end
end
section
variable {K:mR}{E:XK}{F F0 H0 h H:Hp}{env:Env}{t:TE}{ws:Ws}{G:Gi}{i:Nat}{pn:Nat->Bool}{s1 s2:TS}
theorem ee_mv:EvE K (mVar i) E ws env (mvM env i):=by
 intro F0 H0 σ F h H Q hL ok fin;unfold mvM at fin;split at fin
 ·rename_i d hd
  obtain⟨o,k1,k2,e1,j,pp,g⟩:=Hold.atG hL (zbw_ hd);obtain⟨v,rfl,hv,od⟩:=zdd_ pp;unfold mVar;rw[e1];refine fin v F k1 k2 h H ?_ od j ok;have:=g (slotW K (ws i) vk) (vj v) F (λ_=>vk) k2 (Same.refl _) trivial (no_l _ λ_=>rfl)
  rw[zcO_,zcL_ e1]at this;exact this
 ·exact fin.elim
theorem zjp_ {m:Mo D}{e:Env}{σ:L2.St}{Q:VK}{hE:Hp}(hL:Hold (LofW K ws e) σ F hE)(ok:Okk F0 H0 F hE H)(fin:FinE K (moTo m e) E ws σ F0 H0 Q):After K m E F H (OwnK (owD K) H Q):=by
 cases m with
 |no=>exact fin
 |ex c=>exact λF' H' x=>Tell.up ok.1.2.2.1 (fin F' hE H' (hL.mono x.1) (ok.cold x))
 |ok d=>
  intro F' H' x v hn fresh dj s o;have o1:=ok.cold x;have dh:Dj hn hE:=zjF_ ok.2.2.1 fresh;refine fin v F' hn hE (un hn hE) H' (hL.mono x.1) o (zah_ dh) ⟨o1.1,λp=>?_,λp o e=>?_,λp z=>?_,λp xs z=>?_⟩
  ·unfold un
   cases z:hn p with
   |some w=>
    rcases dj p with y |y
    ·exact .inl y
    ·rw[y]at z;cases z
   |none=>exact o1.2.1 p
  ·unfold un at e
   cases z:hn p with
   |some w=>rw[z]at e;cases e;exact s _ _ z
   |none=>rw[z]at e;exact o1.2.2.1 _ _ e
  ·unfold un at z
   cases y:hn p with
   |some w=>exact ok.1.2.2.1.free (fresh p (by rw[y];exact sN _))
   |none=>rw[y]at z;exact ok.2.2.2.1 p z
  ·unfold un at z
   cases y:hn p with
   |some w=>rw[y]at z;cases z;exact OD.notup o p xs y
   |none=>rw[y]at z;exact ok.2.2.2.2 p xs z
theorem zhW_ {d:D}{v:V}{hr hE:Hp}(od:OD K d v F hr)(j:Jn hr hE h)(ok:Okk F0 H0 F h H):DR K d v (un F hr)/\Same F (un F hr)/\Okk F0 H0 (un F hr) hE H:=by
 obtain⟨a,b,c⟩:=zi4_ (ds:=[d]) (vs:=[v]) (by unfold ODs;exact⟨v,[],hr,λ_=>vk,rfl,no_r _ λ_=>rfl,od,zcG_⟩) j ok
 obtain⟨v',e,r⟩:=DRs.one a;cases e;exact⟨r,b,c⟩
theorem zoQ_ {o:Bo}{r:Mr Env D}{g:Env->Mr Env D}{t2:TE}(h1:EvE K t E ws env r)(h2:∀e,EvE K t2 E ws e (g e)):EvE K (tOp (o.r K) t t2) E ws env (r.bind λd e=>(g e).bind λd2 e2=>moTo (o.f d d2) e2):=by
 intro F0 H0 σ F h H Q hL ok fin;refine h1 F0 H0 σ F h H _ hL ok ?_;cases r with
 |no=>exact fin
 |ex c e=>exact fin
 |ok d e=>
  intro v F1 hr hE h' H1 av od j aw;obtain⟨dr,sF,ay⟩:=zhW_ od j aw;have fJ:Jn (λ_=>vk) hE hE:=no_l _ λ_=>rfl
  have ob:=zgF_ ay fJ;have ig:∀x:Hp,un (λ_=>vk) x=x:=λx=>rfl
  refine h2 e _ (less H1 hE) σ _ hE H1 _ (av.mono sF) ob ?_;dsimp only[Mr.bind]at fin;cases e2:g e with
  |no=>rw[e2]at fin;exact fin
  |ex c e'=>
   rw[e2]at fin;intro F2 h2 H2 bC bj;obtain⟨s,_,ok4⟩:=zaL_ ay fJ bj;rw[ig]at ok4;exact zbO_ ay fJ (fin F2 h2 H2 bC ok4)
  |ok d2 e'=>
   rw[e2]at fin;intro v2 F2 fL ff aK H2 bC fG j2 bj;obtain⟨s,_,ok4⟩:=zaL_ ay fJ bj;rw[ig]at ok4;obtain⟨kq,sF2,ok5⟩:=zhW_ fG j2 ok4;exact zky_ o d d2 v v2 _ H2 Q ok5.1.2.1 (dr.mono (s.trans sF2)) kq (zjp_ (bC.mono sF2) ok5 fin)
theorem zqu_ {r:Mr Env D}(h1:EvE K t E ws env r):EvE K (mNotV t) E ws env (r.bind λd e=>moTo ((blD d).bind λb=>.ok (.bl (!b))) e):=by
 intro F0 H0 σ F h H Q hL ok fin;refine h1 F0 H0 σ F h H _ hL ok ?_;cases r with
 |no=>exact fin
 |ex c e=>exact fin
 |ok d e=>
  intro v F1 hr hE h' H1 av od j aw;obtain⟨dr,sF,ay⟩:=zhW_ od j aw;have k1:=zjp_ (m:=(blD d).bind λb=>.ok (.bl (!b))) (av.mono sF) ay fin
  have ha:=DR.un dr;unfold blD at k1;split at k1
  ·rename_i b e2;rw[e2]at ha;cases ha.bl;exact gotB k1 ay.1.2.1
  ·exact k1.elim
theorem Y.sound (g0:G.Ok K):∀(y:Y) (env:Env),EvE K (y.den K G E) E ws env (y.ev G env)
 |.pu x,env=>ee_x g0 x
 |.mv i,env=>ee_mv
 |.call f x as,env=>zn1_ (zdj_ g0 as env)
 |.bm o p as,env=>by
  cases as with
  |nil=>exact zqy_ g0 (bm_ok o) p
  |cons a as=>exact ee_bm g0 (bm_ok o) p (a::as)
 |.bin o y z,env=>zoQ_ (Y.sound g0 y env) λe=>Y.sound g0 z e
 |.sd p k v,env=>zma_ g0 p k v
 |.not y,env=>zqu_ (Y.sound g0 y env)
theorem zpL_ {r:Mr Env D}{g1 g2:Env->Mr Env Fl}(he:EvE K t E ws env r)(eG:∀e,EvS K s1 E ws e (g1 e))(aR:∀e,EvS K s2 E ws e (g2 e)):EvS K (mIfS (mTest t) s1 s2) E ws env (r.bind λd e=>ifM e (blD d) (g1 e) (g2 e)):=by
 intro F0 H0 σ F h H N hL ok fin;refine he F0 H0 σ F h H _ hL ok ?_;cases r with
 |no=>exact fin
 |ex c e=>exact λF h H hL ok=>fin σ F h H hL ok
 |ok d e=>
  intro v F1 hr hE h1 H1 av od j aw;obtain⟨dr,sF,ay⟩:=zhW_ od j aw;have ha:=DR.un dr;have fin:FinS K (ifM e (blD d) (g1 e) (g2 e)) E ws F0 H0 N:=fin;unfold blD at fin;split at fin
  ·rename_i b e2
   rw[e2]at ha;cases ha.bl;refine⟨λz=>?_,λz=>?_⟩
   ·subst z;exact eG e F0 H0 σ _ hE H1 N (av.mono sF) ay fin
   ·subst z;exact aR e F0 H0 σ _ hE H1 N (av.mono sF) ay fin
  ·exact fin.elim
theorem znf_ {t:TS}{r:Mr Env Fl}(h:EvS K t E0 ws env r):EvS K t E ws env (noEx r):=by
 intro F0 H0 σ F h0 H N hL ok fin;refine h F0 H0 σ F h0 H N hL ok ?_;cases r with
 |no=>exact fin
 |ex c e=>exact fin.elim
 |ok a e=>cases a<;>exact fin
theorem map_x (as:List X):(as.map A.x).map A.t=as:=by
 rw[mD];exact(nS λa _=>rfl).trans (uX _)
mutual
theorem S.sound (g0:G.Ok K):∀(s:S) {pn:Nat->Bool}{ws:Ws}(hp:∀i,pn i=vn->ws i=vk) {E:XK}(env:Env),EvS K (s.den K G E) E ws env (S.run G pn s env)
 |.asg i y,pn,ws,hp,E,env=>zpp_ hp (Y.sound g0 y env)
 |.setF p n x,pn,ws,hp,E,env=>zoD_ g0 n p x
 |.setI p k x,pn,ws,hp,E,env=>zm8_ g0 p k x
 |.ex y,pn,ws,hp,E,env=>zm4_ (Y.sound g0 y env)
 |.ret y,pn,ws,hp,E,env=>zph_ (Y.sound g0 y env)
 |.retN,pn,ws,hp,E,env=>znC_
 |.if_ c a b,pn,ws,hp,E,env=>es_if (zgQ_ (X.sound g0 c E env)) (S.sounds g0 a hp env) (S.sounds g0 b hp env)
 |.ifL c a b,pn,ws,hp,E,env=>es_if (zo8_ (X.sound g0 c E env)) (S.sounds g0 a hp env) (S.sounds g0 b hp env)
 |.ifY c a b,pn,ws,hp,E,env=>zpL_ (Y.sound g0 c env) (λe=>S.sounds g0 a hp e) λe=>S.sounds g0 b hp e
 |.for_ ik src tg b,pn,ws,hp,E,env=>by
  have:=zdj_ (K:=K) (E:=E) (ws:=ws) g0 (src.map .x) env;rw[map_x]at this;exact zqa_ hp this λe=>S.sounds g0 b hp e
 |.pass,pn,ws,hp,E,env=>ziQ_
 |.cont,pn,ws,hp,E,env=>zox_
 |.never,pn,ws,hp,E,env=>λF0 H0 σ F h H N hL ok fin=>fin.elim
 |.try0 b ba,pn,ws,hp,E,env=>by
  show EvS K (tSeq (S.dens K G E0 b) (S.dens K G E ba)) E ws env (seqM (noEx (S.runs G pn b env)) λe=>S.runs G pn ba e)
  exact znk_ (znf_ (S.sounds g0 b hp env)) λe=>S.sounds g0 ba hp e
theorem S.sounds (g0:G.Ok K):∀(ss:List S) {pn:Nat->Bool}{ws:Ws}(hp:∀i,pn i=vn->ws i=vk) {E:XK}(env:Env),EvS K (S.dens K G E ss) E ws env (S.runs G pn ss env)
 |[],pn,ws,hp,E,env=>ziQ_
 |s::ss,pn,ws,hp,E,env=>znk_ (S.sound g0 s hp env) λe=>S.sounds g0 ss hp e
end
end
def pins (ds:List D)(i:Nat):Bool:=match ds[i]? with |some d=>!d.cold |none=>vn
def outs:List D->Env->List D
 |[],_=>[]
 |d::ds,o::env=>(if d.cold then d else match o with |some d'=>d' |none=>.gone)::outs ds env
 |d::ds,[]=>(if d.cold then d else .gone)::outs ds []
def fnOf (G:Gi)(n m:Nat)(body:List S):Fn:=λds=>if ds.length=n then(match S.runs G (pins ds) body (ds.map vj++lR m vk)with
 |.ok (.rt d) env=>.ok d (outs ds env)
 |.ok .nx env=>.ok .non (outs ds env)
 |.ex c env=>.ex c (outs ds env)
 |_=>.no)else .no
section
variable {K:mR}{E:XK}{F F' h H:Hp}{env:Env}{ws:Ws}{G:Gi}{σ:L2.St}
theorem zbK_ {o:Option D}:LofW K ws (o::env)=slotW K (ws 0) o::LofW K (λi=>ws (i+1)) env:=by
 show List.mapIdx _ _=_
 rw[List.mapIdx_cons]
theorem zcW_:∀(m:Nat) {ws:Ws}{h:Hp},Hold (LofW K ws (lR m vk)) (lR m vk) F h
 |0,ws,h=>trivial
 |m+1,ws,h=>by
  rw[mZ,mZ,zbK_];exact⟨λ_=>vk,h,no_l _ λ_=>rfl,trivial,zcW_ m⟩
def wsOf (ds:List D)(vs:List V):Ws:=λi=>if pins ds i then vs[i]? else vk
theorem zey_ (m:Nat):∀{ds:List D}{vs:List V}{h:Hp}{ws:Ws},(∀(i:Nat) u,ws i=vj u->vs[i]?=vj u)->ODs K ds vs F h->Hold (LofW K ws (ds.map vj++lR m vk)) (vs.map vj++lR m vk) F h
 |[],_,h,ws,hw,q=>by
  unfold ODs at q;rw[q.1];exact zcW_ m
 |d::ds,_,h,ws,hw,q=>by
  unfold ODs at q;obtain⟨v,vs,h1,h2,rfl,j,o,r⟩:=q;rw[lB,lB,mK,mK,zbK_];exact⟨h1,h2,j,zcH_ (λu z=>by have:=hw 0 u z;simpa using this) o,zey_ m (λi u z=>by have:=hw (i+1) u z;simpa using this) r⟩
theorem zbl_:∀{ds:List D}{vs:List V}{env:Env}{σ:L2.St}{h h0:Hp}{ws:Ws},(∀(i:Nat) d,ds[i]?=vj d->d.cold=vn->ws i=vs[i]?)->ODs K ds vs F h0->Same F F'->Hold (LofW K ws env) σ F' h->∃h3,Same h3 h/\ODs K (outs ds env) vs F' h3
 |[],_,env,σ,h,h0,ws,hw,q,s,hL=>by
  unfold ODs at q;rw[q.1];refine⟨λ_=>vk,(λp o z=>by cases z),?_⟩
  unfold outs ODs;exact⟨rfl,λ_=>rfl⟩
 |d::ds,_,[],σ,h,h0,ws,hw,q,s,hL=>by
  unfold ODs at q;obtain⟨v,vs,h1,h2,rfl,j,od,r⟩:=q;obtain⟨h3,s3,os⟩:=zbl_ (env:=[]) (σ:=σ) (h:=h) (ws:=λi=>ws (i+1)) (λi d' e c=>by have:=hw (i+1) d' (by simpa using e) c;simpa using this) r s hL
  refine⟨h3,s3,?_⟩;unfold outs ODs;refine⟨v,vs,λ_=>vk,h3,rfl,no_l _ λ_=>rfl,?_,os⟩
  by_cases hc:d.cold=vm
  ·rw[if_pos hc]
   have:=od.mono s;obtain⟨n,_⟩:=OD.cold hc this;have e:h1=λ_=>vk:=funext n
   rw[e]at this;exact this
  ·rw[if_neg hc];exact zaU_ λ_=>rfl
 |d::ds,_,o::env,[],h,h0,ws,hw,q,s,hL=>by rw[zbK_]at hL;exact hL.elim
 |d::ds,_,o::env,x::σ,h,h0,ws,hw,q,s,hL=>by
  unfold ODs at q;obtain⟨v,vs,h1,h2,rfl,j,od,r⟩:=q;rw[zbK_]at hL;obtain⟨k1,k2,jk,pp,hL⟩:=hL;obtain⟨h3,s3,os⟩:=zbl_ (ws:=λi=>ws (i+1)) (λi d' e c=>by have:=hw (i+1) d' (by simpa using e) c;simpa using this) r s hL
  have d1:∀{m:Hp},Same m k1->Dj m h3:=λ{m} sm p=>by
   rcases jk.dj p with z |z
   ·exact .inl (sm.free z)
   ·exact .inr (s3.free z)
  have key:∃c m,Same m k1/\(if d.cold then d else match o with |some d'=>d' |none=>.gone)=c/\OD K c v F' m:=by
   by_cases hc:d.cold=vm
   ·obtain⟨_,dr⟩:=OD.cold hc od
    refine⟨d,λ_=>vk,(λp o z=>by cases z),by rw[if_pos hc],?_⟩
    have:=od.mono s;obtain⟨n,_⟩:=OD.cold hc this;have e:h1=λ_=>vk:=funext n
    rw[e]at this;exact this
   ·have hf:d.cold=vn:=by simpa using hc
    rw[if_neg hc];cases o with
    |none=>exact⟨.gone,λ_=>vk,(λp o z=>by cases z),rfl,zaU_ λ_=>rfl⟩
    |some d'=>
     obtain⟨v',e1,e2,o'⟩:=zdd_ pp;have:ws 0=vj v:=by have:=hw 0 d (by simp) hf;simpa using this
     have:=e2 v this;subst this;exact⟨d',k1,Same.refl _,rfl,o'⟩
  obtain⟨c,m,sm,ec,oc⟩:=key;refine⟨un m h3,λp o z=>?_,?_⟩
  ·unfold un at z
   cases y:m p with
   |some w=>rw[y]at z;cases z;exact jk.l _ _ (sm _ _ y)
   |none=>rw[y]at z;exact jk.r _ _ (s3 _ _ z)
  ·unfold outs;rw[ec]
   unfold ODs;exact⟨v,vs,m,h3,rfl,zah_ (d1 sm),oc,os⟩
theorem zkm_ (g0:G.Ok K){N:List Str}{n m:Nat}{body:List S}(hN:N.length=n+m):
  ∀vs H Q E,CtG K (fnOf G n m body) vs H Q E->S.dens K G E body {nx:=λ_ H'=>Q .non H',rt:=Q} (L2.start N vs) H:=by
 rintro vs H Q E ⟨F,h,ds,hs,dj,sh,os,fin⟩;have nt:=zfi_ os;have ln:=ODs.len os;unfold fnOf at fin;split at fin
 rotate_left
 ·exact fin.elim
 rename_i hd
 have c9:L2.start N vs=vs.map vj++lR m vk:=by unfold L2.start;rw[hN,<- ln,hd,Nat.add_sub_cancel_left]
 rw[c9];have hw:∀(i:Nat) u,wsOf ds vs i=vj u->vs[i]?=vj u:=λi u z=>by
  unfold wsOf at z;split at z
  ·exact z
  ·cases z
 have hp:∀i,pins ds i=vn->wsOf ds vs i=vk:=λi z=>by unfold wsOf;rw[z];rfl
 have gB:∀(i:Nat) d,ds[i]?=vj d->d.cold=vn->wsOf ds vs i=vs[i]?:=λi d e c=>by
  unfold wsOf pins;rw[e];simp[c]
 refine S.sounds g0 body hp _ F (less H h) _ F h H _ (zey_ m hw os) (zbq_ hs dj sh nt) ?_;cases e:S.runs G (pins ds) body (ds.map vj++lR m vk)with
 |no=>rw[e]at fin;exact fin
 |ex c env=>
  rw[e]at fin;intro σ F' h' H' hL ok;obtain⟨h3,s3,aL⟩:=zbl_ gB os ok.1.1 hL;exact fin F' h3 H' (zc9_ ok s3) aL
 |ok o env=>
  rw[e]at fin;cases o with
  |nx=>
   intro σ F' h' H' hL ok;obtain⟨h3,s3,aL⟩:=zbl_ gB os ok.1.1 hL;exact fin .non F' h3 H' (λ_=>vk) h3 (zc9_ ok s3) (no_l _ λ_=>rfl) (zcD_ λ_=>rfl) aL
  |rt d=>
   intro v σ F' hr h2 h' H' hL od j ok;obtain⟨h3,s3,aL⟩:=zbl_ gB os ok.1.1 hL;have dd:Dj hr h3:=λp=>by rcases j.dj p with z |z;exact .inl z;exact .inr (s3.free z)
   refine fin v F' (un hr h3) H' hr h3 (zc9_ ok λp o z=>?_) (zah_ dd) od aL
   unfold un at z;cases y:hr p with
   |some w=>rw[y]at z;cases z;exact j.l _ _ y
   |none=>rw[y]at z;exact j.r _ _ (s3 _ _ z)
  |ct=>exact fin.elim
  |bk=>exact fin.elim
end
noncomputable def noStar (e:lP):Bool:=e.ctorIdx != 22
def noSup:lP->Bool
 |.Call (.Name x _) [] [] _=>x != "super" |_=>vm
noncomputable def noIf (e:lP):Bool:=e.ctorIdx != 5
noncomputable def noSl (e:lP):Bool:=e.ctorIdx != 26
noncomputable def noSet (e:lP):Bool:=e.ctorIdx != 7
noncomputable def noCmp (e:lP):Bool:=e.ctorIdx<8 ||10<e.ctorIdx
section
variable {env:PySem.Env}{e o:lP}{es:List lP}{pos:Pos}{m:Str}
theorem zn_ (h:noStar e=vm):me (e::es) env=(vn,eval e env)::me es env:=by
 cases e<;>first |rfl |cases h
theorem zaX_:∀{es:List lP},es.all noStar=vm->me es env=es.map λe=>(vn,eval e env)
 |[],_=>rfl
 |e::es,h=>by
  rw[mO,lj]at h;rw[zn_ h.1,zaX_ h.2];rfl
theorem zaq_ (h:es.all noStar=vm):((oM pos (me es env)).any λx=>x.1)=vn:=by
 rw[zaX_ h];unfold oM;simp
theorem zjL_ (h:es.all noStar=vm):((oM pos (me es env)).all λx=>!x.1)=vm:=by
 rw[zaX_ h];unfold oM;simp
theorem zeI_ (h:noSup o=vm):attributeBase o m env (eval o env)=eval o env:=by
 cases o with
 |Call f es ks q=>cases f with
  |Name id p=>cases es with
   |nil=>cases ks with
    |nil=>
     have h:(id != "super")=vm:=h;unfold attributeBase;dsimp only;rw[h];rfl
    |cons=>rfl
   |cons=>rfl
  |_=>rfl
 |_=>rfl
theorem zl2_ (h:es.all noStar=vm)(hl:es.length<29):methodCallForm (es.length+([]:List Keyword).length) (oM pos (me es env)) (rD pos (p8 [] env))=vm:=by
 unfold methodCallForm;rw[zjL_ h];simp[p8,rD];lia
theorem zjC_ (h:es.all noStar=vm)(hl:es.length<29):((((oM pos (me es env)).all λx=>!x.fst) && (rD pos (p8 [] env)).all λx=>x.fst.isSome) && decide ((es.length+([]:List Keyword).length+if([]:List Keyword).isEmpty=vm then 0 else 1)<30))=vm:=zl2_ h hl
theorem zla_ (h:noSl e=vm):PlainIx e:=λ_ _=>by
 cases e<;>first |rfl |cases h
theorem zaI_ {op:CmpOp}(h:noSet e=vm):behindInMarks op e=vn:=by
 cases e<;>first |rfl |cases h
theorem zcu_ (h:noSet e=vm)(x:aV):foldedSetIterable e env x=pure x:=by
 cases e<;>first |rfl |cases h
theorem zfx_ (h:noCmp e=vm)(t:Option lP)(n:Nat):swapsWith e t n env=pure vn:=by
 cases e<;>first |rfl |cases h
theorem zf3_ {o i:lP}{p:Pos}:swappedStores [.Subscript o i p] e env=pure vk:=by
 unfold swappedStores;rfl
noncomputable def plainT:lP->Bool
 |.UnaryOp .Not ..=>vn |.BoolOp ..=>vn |.IfExp ..=>vn |.Compare ..=>vn |_=>vm
theorem zc7_ (h:plainT e=vm)(whole:Sem aV):isTrue e env whole=(do let v <- whole;standAt e.pos;holding [v] (truthy v)):=by
 cases e with
 |UnaryOp op a p=>cases op<;>first |rfl |cases h
 |_=>first |rfl |cases h
end
structure Ck where
 N:List Str
 nm:List (Str×oh)
structure Ft where
 bs:List Str
 at_:List Str
 gc:List (Str×V)
structure Ft.Ok (T:Ft)(G:Gi)(K:mh)(mg:Str->Option aV):Prop where
 bs:∀x∈T.bs,mg x=vk
 cls:∀c∈G.cs,Cls K (gA K c)
 at_:∀c∈G.cs,∀a∈T.at_,NoAttr K (gA K c) a
 gc:∀q∈T.gc,Gc mg q.1 q.2
 kt:∀q∈G.kt,Gc mg q.1 (.ref (gA K q.1))
inductive Fc where
 |call (f:Fn) (x:Str)|mkd (f:Fn) (c:Str) (dv:List D)
def Fc.H (P:l5)(w:mx)(K:mh)(mg:Str->Option aV)(base:Heap)(k:Nat):Fc->Prop
 |.call f x=>∃ps j,j<=k/\Gd P w K mg base CX0 j x ps (CtG K f)
 |.mkd f c dv=>∃ps j,j+1<=k/\GkD P w K mg base CX0 j c (gA K c) ps ((flats dv).getD []) (CtG K f)
mutual
def X.fcs:X->List Fc
 |.v _=>[]|.k _=>[]|.g _ _=>[]|.gt _ _=>[]
 |.bin _ a b=>a.fcs++b.fcs
 |.ch _ _ a b c=>a.fcs++(b.fcs++c.fcs)
 |.and a b=>a.fcs++b.fcs
 |.or a b=>a.fcs++b.fcs
 |.not a=>a.fcs
 |.neg a=>a.fcs
 |.ifx c a b=>c.fcs++(a.fcs++b.fcs)
 |.sl a lo hi=>a.fcs++(X.fcsO lo++X.fcsO hi)
 |.tup as=>X.fcss as
 |.lst as=>X.fcss as
 |.fld a _=>a.fcs
 |.call f x as=>.call f x::X.fcss as
 |.bf _ as=>X.fcss as
 |.sm _ a as=>a.fcs++X.fcss as
 |.comp _ _ _ src _ c e=>X.fcss src++(X.fcsO c++e.fcs)
 |.lr a b=>a.fcs++b.fcs
 |.isa a _=>a.fcs
 |.srt _ _ _ e=>e.fcs
 |.mkd f c as dv=>.mkd f c dv::X.fcss as
 |.ds1 a0 b0=>a0.fcs++b0.fcs
 |.ds2 a0 b0 c0 d0=>a0.fcs++(b0.fcs++(c0.fcs++d0.fcs))
 |.dct0=>[]
 |.ch3 _ _ _ a b c d=>(a.fcs++b.fcs)++(c.fcs++d.fcs)
def X.fcss:List X->List Fc
 |[]=>[]
 |a::as=>a.fcs++X.fcss as
def X.fcsO:Option X->List Fc
 |none=>[]
 |some a=>a.fcs
end
noncomputable def visB:Option oh->Bool
 |some .local=>vm |some .cell=>vm |some .free=>vm |_=>vn
noncomputable def locB:Option oh->Bool
 |some .local=>vm |some .cell=>vm |_=>vn
def nmOk (x:Str):Bool:=!(x=="__debug__") && !(x=="__classdict__")
def glB (c:Ck)(x:Str):Bool:=c.nm.lookup x==vj .globalImplicit && !(x=="__debug__")
def constB (d:D):Const->Bool
 |.int i=>(match d with |.int j=>i == j |_=>vn)
 |.bool b=>(match d with |.bl c=>b == c |_=>vn)
 |.none=>(match d with |.non=>vm |_=>vn)
 |.str x=>(match d with |.str l=>x.cps.toList == l |_=>vn)
 |_=>vn
noncomputable def Bo.op:Bo->Option Operator
 |.add=>vj .Add |.sub=>vj .Sub |.mul=>vj .Mult |.mod=>vj .Mod |.div=>vj .FloorDiv |_=>vk
noncomputable def Bo.cmp:Bo->Option CmpOp
 |.lt=>vj .Lt |.le=>vj .LtE |.gt=>vj .Gt |.ge=>vj .GtE |.eq=>vj .Eq |.ne=>vj .NotEq |.is=>vj .Is |.isn=>vj .IsNot |.inn=>vj .In |.nin=>vj .NotIn |.ned=>vj .NotEq |_=>vk
noncomputable def Bo.isIx:Bo->Bool
 |.ix=>vm |_=>vn
noncomputable def Bf.nm:Bf->Str
 |.len => "len" |.list => "list" |.min => "min" |.str => "str" |.all => "all" |.sorted => "sorted"
noncomputable def Sm.nm:Sm->Str
 |.join => "join" |.index => "index" |.zfill => "zfill"
noncomputable def tyNm:String->Option Str
 |"int" => vj "int" |"bool" => vj "bool" |"str" => vj "str" |"list" => vj "list" |"tuple" => vj "tuple" |"dict" => vj "dict" |_=>vk
def relab (nm names:List (Str×oh)):List (Str×oh):=names.map λ(n,k)=>if k == .free && nm.lookup n == vj .cell then(n,.cell)else(n,k)
def tgB (c:Ck)(i:Nat):lP->Bool
 |.Name x _=>c.N[i]? == vj x && locB (c.nm.lookup x)
 |_=>vn
def tgsB (c:Ck):List Nat->List lP->Bool
 |[],[]=>vm
 |i::is,e::es=>tgB c i e && tgsB c is es
 |_,_=>vn
def tgOk (c:Ck)(g:Tg)(e:lP):Bool:=match g.tup,e with
 |true,.Tuple es _ _=>tgsB c g.is es
 |false,e=>g.is.length == 1 && tgB c (g.is.headD 0) e
 |_,_=>vn
def locals? (c:Ck)(g:Tg):Bool:=g.is.all λi=>match c.N[i]? with |some x=>c.nm.lookup x == vj .local |none=>vn
def scB (c:Ck)(sc:Scope)(lv:List Str)(fr:List (Str×Nat)):Bool:=
 sc.names.all (λy=>y.2 != .cell && (y.2 != .free ||c.nm.lookup y.1 == vj .cell ||c.nm.lookup y.1 == vj .free) && (y.2 != .local ||sc.names.lookup y.1 == vj .local)) && sc.kind == .function &&
 fr.all (λq=>c.N[q.2]? == vj q.1 && sc.names.contains (q.1,NameKind.free) && (c.nm.lookup q.1 == vj .cell ||c.nm.lookup q.1 == vj .free) && ((relab c.nm sc.names).lookup q.1 == vj .cell ||(relab c.nm sc.names).lookup q.1 == vj .free)) && decide (cN lv fr).Nodup
def kN:lP->(Str->Bool)->Bool
 |.Name x _,k=>k x |_,_=>vn
def kC:lP->(lP->List lP->Pos->Bool)->Bool
 |.Call f es [] q,k=>k f es q |_,_=>vn
noncomputable def kA:lP->(lP->Str->Pos->Bool)->Bool
 |.Attribute o m p,k=>k o m p |_,_=>vn
def kB:lP->(lP->Operator->lP->Bool)->Bool
 |.BinOp l o r _,k=>k l o r |_,_=>vn
def kM:lP->(lP->List CmpOp->List lP->Bool)->Bool
 |.Compare l o r _,k=>k l o r |_,_=>vn
def kS:lP->(lP->lP->Bool)->Bool
 |.Subscript l r _,k=>k l r |_,_=>vn
def kL:lP->(Option lP->Option lP->Option lP->Bool)->Bool
 |.Slice a b c _,k=>k a b c |_,_=>vn
def kU:lP->(UnaryOp->lP->Bool)->Bool
 |.UnaryOp o x _,k=>k o x |_,_=>vn
def kI:lP->(lP->lP->lP->Bool)->Bool
 |.IfExp t x y _,k=>k t x y |_,_=>vn
noncomputable def kT:lP->(List lP->Bool)->Bool
 |.Tuple es _ _,k=>k es |_,_=>vn
noncomputable def kW:lP->(List lP->Bool)->Bool
 |.List es _,k=>k es |_,_=>vn
def kK:lP->(Const->Bool)->Bool
 |.Constant c _ _,k=>k c |_,_=>vn
def kG:lP->(lP->List Comprehension->Scope->Bool)->Bool
 |.ListComp x g s _,k=>k x g s |_,_=>vn
noncomputable def kDi:lP->Bool
 |.Dict [] [] _=>vm |_=>vn
noncomputable def kDd:lP->(List (Option lP)->List lP->Bool)->Bool
 |.Dict a b _,k=>k a b |_,_=>vn
noncomputable def kco:List (Option lP)->(lP->List (Option lP)->Bool)->Bool
 |some a::l,k=>k a l |_,_=>vn
def kO (o:BoolOp):lP->(lP->lP->Bool->Bool)->Bool
 |.BoolOp o' (x::y::l) p,k=>o' == o && k x (bif l.isEmpty then y else .BoolOp o (y::l) p) l.isEmpty |_,_=>vn
noncomputable def kc:List lP->(lP->List lP->Bool)->Bool
 |a::l,k=>k a l |[],_=>vn
section
variable {e:lP}{C:lP->Prop}
theorem kN_ {k}(h:kN e k=vm)(H:∀x p,k x=vm->C (.Name x p)):C e:=by cases e<;>first |exact H _ _ h |cases h
theorem kC_ {k}(h:kC e k=vm)(H:∀f es q,k f es q=vm->C (.Call f es [] q)):C e:=by
 cases e with
 |Call f es ks q=>cases ks with |nil=>exact H _ _ _ h |cons=>cases h
 |_=>cases h
theorem kA_ {k}(h:kA e k=vm)(H:∀o m p,k o m p=vm->C (.Attribute o m p)):C e:=by cases e<;>first |exact H _ _ _ h |cases h
theorem kB_ {k}(h:kB e k=vm)(H:∀l o r p,k l o r=vm->C (.BinOp l o r p)):C e:=by cases e<;>first |exact H _ _ _ _ h |cases h
theorem kM_ {k}(h:kM e k=vm)(H:∀l o r p,k l o r=vm->C (.Compare l o r p)):C e:=by cases e<;>first |exact H _ _ _ _ h |cases h
theorem kS_ {k}(h:kS e k=vm)(H:∀l r p,k l r=vm->C (.Subscript l r p)):C e:=by cases e<;>first |exact H _ _ _ h |cases h
theorem kL_ {k}(h:kL e k=vm)(H:∀a b c p,k a b c=vm->C (.Slice a b c p)):C e:=by cases e<;>first |exact H _ _ _ _ h |cases h
theorem kU_ {k}(h:kU e k=vm)(H:∀o x p,k o x=vm->C (.UnaryOp o x p)):C e:=by cases e<;>first |exact H _ _ _ h |cases h
theorem kI_ {k}(h:kI e k=vm)(H:∀t x y p,k t x y=vm->C (.IfExp t x y p)):C e:=by cases e<;>first |exact H _ _ _ _ h |cases h
theorem kT_ {k}(h:kT e k=vm)(H:∀es n p,k es=vm->C (.Tuple es n p)):C e:=by cases e<;>first |exact H _ _ _ h |cases h
theorem kW_ {k}(h:kW e k=vm)(H:∀es p,k es=vm->C (.List es p)):C e:=by cases e<;>first |exact H _ _ h |cases h
theorem kK_ {k}(h:kK e k=vm)(H:∀c n p,k c=vm->C (.Constant c n p)):C e:=by cases e<;>first |exact H _ _ _ h |cases h
theorem kG_ {k}(h:kG e k=vm)(H:∀x g s p,k x g s=vm->C (.ListComp x g s p)):C e:=by cases e<;>first |exact H _ _ _ _ h |cases h
theorem kDi_ (h:kDi e=vm)(H:∀p,C (.Dict [] [] p)):C e:=by
 unfold kDi at h;split at h
 ·exact H _
 ·cases h
theorem kDd_ {k}(h:kDd e k=vm)(H:∀a b p,k a b=vm->C (.Dict a b p)):C e:=by cases e<;>first |exact H _ _ _ h |cases h
theorem kco_ {l:List (Option lP)}{C:List (Option lP)->Prop}{k}(h:kco l k=vm)(H:∀a t,k a t=vm->C (vj a::t)):C l:=by
 cases l with
 |nil=>cases h
 |cons a t=>cases a with |none=>cases h |some a=>exact H a t h
theorem kc_ {l:List lP}{C:List lP->Prop}{k}(h:kc l k=vm)(H:∀a t,k a t=vm->C (a::t)):C l:=by cases l with |nil=>cases h |cons a t=>exact H a t h
theorem kO_ {o:BoolOp}{k}(h:kO o e k=vm)(H:∀x y l p,k x (bif l.isEmpty then y else .BoolOp o (y::l) p) l.isEmpty=vm->C (.BoolOp o (x::y::l) p)):C e:=by
 cases e with
 |BoolOp o' es p=>
  cases es with
  |nil=>cases h
  |cons x es=>cases es with
   |nil=>cases h
   |cons y l=>have h:=ml.mp h;cases eq_of_beq h.1;exact H x y l p h.2
 |_=>cases h
end
noncomputable def Ik.isAny:Ik->Bool
 |.any=>vm |_=>vn
noncomputable def Ik.nm:Ik->Str
 |.en => "enumerate" |.zip => "zip" |_ => "range"
noncomputable def Ik.ar:Ik->Nat
 |.r2=>2 |.zip=>2 |_=>1
noncomputable def Ik.tp:Ik->Bool
 |.en=>vm |.zip=>vm |_=>vn
section
variable (T:Ft)(G:Gi)
def srcB (c:Ck)(ik:Ik)(tg:Tg)(it:lP)(k1:Bool)(ks:List lP->Bool):Bool:=bif ik.isAny then k1 else
 kC it λf es _=>kN f λy=>y == ik.nm && es.length == ik.ar && glB c y && T.bs.contains y && (tg.tup || !ik.tp) && ks es
mutual
def chkE:Ck->X->lP->Bool
 |c,.v i,e=>kN e λx=>c.N[i]? == vj x && visB (c.nm.lookup x) && nmOk x
 |c,.k d,e=>kK e (constB d)
 |c,.g x d,e=>kN e λy=>x == y && glB c x && (d.flat?).any λv=>T.gc.contains (x,v)
 |c,.gt x ls,e=>kN e λy=>x == y && glB c x && G.kt.any (λq=>q.1 == x)
 | c,.bin o a b,e=>kB e (λl op r=>o.op == vj op && chkE c a l && chkE c b r)||
   (kM e (λl os rs=>kc rs λr t=>os.map vj == [o.cmp] && t.isEmpty && noSet r && chkE c a l && chkE c b r)||
   kS e (λl r=>o.isIx && noSl r && chkE c a l && chkE c b r))
 |c,.ch o o' a b d,e=>kM e λl os rs=>kc rs λr t=>kc t λr' t'=>os.map vj == [o.cmp,o'.cmp] && t'.isEmpty && noSet r' && chkE c a l && chkE c b r && chkE c d r'
 |c,.and a b,e=>kO .And e λx y l=>noIf x && (!l ||noIf y) && chkE c a x && chkE c b y
 |c,.or a b,e=>kO .Or e λx y l=>noIf x && (!l ||noIf y) && chkE c a x && chkE c b y
 |c,.not a,e=>kU e λo x=>o == .Not && noIf x && chkE c a x
 |c,.neg a,e=>kU e λo x=>o == .USub && chkE c a x
 |c,.ifx d a b,e=>kI e λt x y=>noIf t && chkE c d t && chkE c a x && chkE c b y
 |c,.sl a lo hi,e=>kS e λl r=>kL r λl1 l2 l3=>l3.isNone && chkE c a l && chkO c lo l1 && chkO c hi l2
 |c,.tup as,e=>kT e (chkEs c as)
 |c,.lst as,e=>kW e (chkEs c as)
 |c,.fld a f,e=>kA e λo f' _=>f == f' && T.at_.contains f && noSup o && chkE c a o
 |c,.call f x as,e=>kC e λy es _=>kN y λy=>x == y && glB c x && chkEs c as es
 |c,.bf o as,e=>kC e λy es _=>kN y λy=>y == o.nm && glB c y && T.bs.contains y && !as.isEmpty && chkEs c as es
 |c,.sm o a as,e=>kC e λr es q=>kA r λr m p=>m == o.nm && noSup r && p.endLine == q.line && decide (es.length<29) && !as.isEmpty && chkE c a r && chkEs c as es
 | c,.comp lv fr ik src tg d x,e=>kG e λelt gs sc=>gs.length == 1 && gs.all λq=>q.is_async == 0 && scB c sc lv fr && tgOk ⟨cN lv fr,relab c.nm sc.names⟩ tg q.target && locals? ⟨cN lv fr,relab c.nm sc.names⟩ tg && noSet q.iter &&
   srcB T c ik tg q.iter (chk1 c src q.iter) (λes=>chkEs c src es) && chkIf ⟨cN lv fr,relab c.nm sc.names⟩ d q.ifs && chkE ⟨cN lv fr,relab c.nm sc.names⟩ x elt
 |c,.lr a b,e=>kC e λy es _=>kN y λy=>kc es λr t=>kC r λz xs _=>kN z λz=>kc xs λx t1=>kc t1 λw t2=>y=="list" && z=="range" && t.isEmpty && t2.isEmpty && glB c y && glB c z && T.bs.contains y && T.bs.contains z && noStar x && noStar w && chkE c a x && chkE c b w
 |c,.isa a n,e=>kC e λy es _=>kN y λy=>kc es λx t=>kc t λz t2=>kN z λz=>y=="isinstance" && t2.isEmpty && glB c y && T.bs.contains y && noStar x && tyNm n==vj z && glB c z && T.bs.contains z && chkE c a x
 |_,.srt _ _ _ _,_=>vn
 |c,.mkd f k as _,e=>kC e λy es _=>kN y λy=>k == y && glB c y && !es.isEmpty && chkEs c as es
 |c,.ds1 a b,e=>kDd e λks vs=>kco ks λk kt=>kc vs λv vt=>kt.isEmpty && vt.isEmpty && chkE c a k && chkE c b v
 |c,.ds2 a b d f,e=>kDd e λks vs=>kco ks λk kt=>kco kt λl lt=>kc vs λv vt=>kc vt λw wt=>lt.isEmpty && wt.isEmpty && chkE c a k && chkE c b v && chkE c d l && chkE c f w
 |_,.dct0,e=>kDi e
 |c,.ch3 o o' aJ a b d f,e=>kM e λl os rs=>kc rs λr t=>kc t λr' t'=>kc t' λbh iu=>os.map vj == [o.cmp,o'.cmp,aJ.cmp] && iu.isEmpty && noSet bh && chkE c a l && chkE c b r && chkE c d r' && chkE c f bh
def chk1:Ck->List X->lP->Bool
 |_,[],_=>vn
 |c,a::as,e=>as.isEmpty && chkE c a e
def chkEs:Ck->List X->List lP->Bool
 |_,[],es=>es.isEmpty
 |c,a::as,es=>kc es λe es=>noStar e && chkE c a e && chkEs c as es
def chkO:Ck->Option X->Option lP->Bool
 |_,vk,e=>e.isNone
 |c,vj a,e=>e.any (chkE c a)
def chkIf:Ck->Option X->List lP->Bool
 |_,vk,es=>es.isEmpty
 |c,vj a,es=>kc es λe t=>t.isEmpty && noIf e && chkE c a e
end
end
theorem zhB_ {X:Cx}{E:XK}:Passes CX0 X E:=λ_ _ _ _ _ _ _ h=>h.elim
structure Cg (Z:Cx)(c:Ck)(k:Nat)(E:XK):Prop where
 N:Z.N=c.N
 nm:Z.env.scope.names=c.nm
 kind:Z.env.scope.kind=.function
 calm:Z.calm=vm
 room:Room k Z.A
 pass:Passes CX0 Z E
 cells:∀x,(c.nm.lookup x=vj .cell\/c.nm.lookup x=vj .free)->∃a,Z.env.cells.lookup x=vj a
section
variable {Z:Cx}{c:Ck}{k:Nat}{E:XK}{x m:Str}{e o:lP}{es:List lP}{t:TE}{ta:TA}{p pos apos:Pos}
theorem Cg.units (g:Cg Z c k E):Z.A.units+60<cLine:=by have:=g.room.un;lia
theorem zpb_ (g:Cg Z c k E)(h:visB (c.nm.lookup x)=vm):Vis Z.env.scope x:=by
 unfold Vis;rw[g.nm]
 revert h;cases c.nm.lookup x with
 |none=>intro h;cases h
 |some k=>cases k<;>intro h<;>first |exact .inl rfl |exact .inr (.inl rfl)|exact .inr (.inr rfl)|cases h
theorem zl6_ (g:Cg Z c k E)(h:locB (c.nm.lookup x)=vm):L2.Loc Z.env.scope x:=by
 unfold L2.Loc;rw[g.nm]
 revert h;cases c.nm.lookup x with
 |none=>intro h;cases h
 |some k=>cases k<;>intro h<;>first |exact .inl rfl |exact .inr rfl |cases h
theorem zgD_ (g:Cg Z c k E)(h:glB c x=vm):Gl Z x/\(x==("__debug__":Str))=vn:=by
 unfold glB at h;rw[lj]at h;refine⟨?_,by simpa using h.2⟩
 unfold Gl p5;rw[g.nm];exact eq_of_beq h.1
structure Rd (Z:Cx)(e:lP)(t:TE):Prop where
 pe:PE Z e t
 pt:noIf e=vm->PT Z e (mTest t)
 pw:∀op vs p,e=.BoolOp op vs p->PW Z e (mTest t)
theorem zj_ (h:PE Z e t)(hp:plainT e=vm):Rd Z e t:=⟨h,λ_=>znT_ h (zc7_ hp),λop vs p z=>by rw[z]at hp;cases hp⟩
theorem rd_if (h:PE Z e t)(hp:noIf e=vn):Rd Z e t:=⟨h,(λz=>by rw[hp]at z;cases z),(λop vs p z=>by rw[z]at hp;cases hp)⟩
theorem zl7_ {a b:lP}{t1 t2:TE}{op:CmpOp}{r:R2}(ho:OpR Z (l4 op) r)(ha:Rd Z a t1)(hb:Rd Z b t2)(hs:noSet b=vm):Rd Z (.Compare a [op] [b] pos) (tOp r t1 t2):=
 ⟨zoo_ ho ha.pe hb.pe (zaI_ hs),λ_=>zlj_ ho ha.pe hb.pe (zaI_ hs),λ_ _ _ z=>by cases z⟩
theorem zkU_ {a b d:lP}{t1 t2 t3:TE}{op aF:CmpOp}{r r':R2}(ho:OpR Z (l4 op) r)(aH:OpR Z (l4 aF) r')(ha:Rd Z a t1)(hb:Rd Z b t2)(hd:Rd Z d t3)(hs:noSet d=vm):Rd Z (.Compare a [op,aF] [b,d] pos) (mChain r r' t1 t2 t3):=
 ⟨zih_ ho aH ha.pe hb.pe hd.pe (zaI_ hs),λ_=>zhv_ ho aH ha.pe hb.pe hd.pe (zaI_ hs),λ_ _ _ z=>by cases z⟩
theorem zfA_ (t1 t2:TE):mTest (mAndV t1 t2)=mAnd (mTest t1) (mTest t2):=by
 funext σ H Q;exact congrArg (t1 σ H) (funext λx=>funext λH1=>by cases x<;>rfl)
theorem ziZ_ (t1 t2:TE):mTest (mOrV t1 t2)=mOr (mTest t1) (mTest t2):=by
 funext σ H Q;exact congrArg (t1 σ H) (funext λx=>funext λH1=>by cases x<;>rfl)
theorem zkD_ (t1:TE):mTest (mNotV t1)=tNot (mTest t1):=by
 funext σ H Q;exact congrArg (t1 σ H) (funext λx=>funext λH1=>by cases x<;>rfl)
theorem zeN_ {op:BoolOp}{vs:List lP}(h:PE Z (.BoolOp op vs pos) t)(h2:PW Z (.BoolOp op vs pos) (mTest t)):Rd Z (.BoolOp op vs pos) t:=⟨h,λ_=>h2.pt,λ_ _ _ _=>h2⟩
theorem zll_ {a b:lP}{t1 t2:TE}(ha:Rd Z a t1)(hb:Rd Z b t2)(na:noIf a=vm)(nb:noIf b=vm):Rd Z (.BoolOp .And [a,b] pos) (mAndV t1 t2):=
 zeN_ (ziN_ ha.pe (zlz_ hb.pe)) (by rw[zfA_];exact zi5_ (ha.pt na) (zl0_ (hb.pt nb)))
theorem zpm_ {a b d:lP}{r:List lP}{t1 t2:TE}(ha:Rd Z a t1)(hb:Rd Z (.BoolOp .And (b::d::r) pos) t2)(na:noIf a=vm):Rd Z (.BoolOp .And (a::b::d::r) pos) (mAndV t1 t2):=
 zeN_ (ziN_ ha.pe hb.pe) (by rw[zfA_];exact zi5_ (ha.pt na) (hb.pw _ _ _ rfl))
theorem zrq_ {a b:lP}{t1 t2:TE}(ha:Rd Z a t1)(hb:Rd Z b t2)(na:noIf a=vm)(nb:noIf b=vm):Rd Z (.BoolOp .Or [a,b] pos) (mOrV t1 t2):=
 zeN_ (zmK_ ha.pe (zlz_ hb.pe)) (by rw[ziZ_];exact zlE_ (ha.pt na) (zrl_ (hb.pt nb)))
theorem rd_or {a b d:lP}{r:List lP}{t1 t2:TE}(ha:Rd Z a t1)(hb:Rd Z (.BoolOp .Or (b::d::r) pos) t2)(na:noIf a=vm):Rd Z (.BoolOp .Or (a::b::d::r) pos) (mOrV t1 t2):=
 zeN_ (zmK_ ha.pe hb.pe) (by rw[ziZ_];exact zlE_ (ha.pt na) (hb.pw _ _ _ rfl))
theorem zlZ_ {a:lP}{t1:TE}(ha:Rd Z a t1)(na:noIf a=vm):Rd Z (.UnaryOp .Not a pos) (mNotV t1):=
 ⟨zmF_ ha.pe,λ_=>by rw[zkD_];exact zpD_ (ha.pt na),λ_ _ _ z=>by cases z⟩
theorem bo_op {b:Bo}{op:Operator}(h:b.op=vj op):OpR Z (nR op) (b.r Z.K):=by
 cases b<;>cases h
 ·exact zmv_
 ·exact znm_
 ·exact znH_
 ·exact zmX_
 ·exact zlo_
theorem zee_ (hu:Z.A.units+60<cLine){b:Bo}{op:CmpOp}(h:b.cmp=vj op):OpR Z (l4 op) (b.r Z.K):=by
 cases b<;>cases h
 ·exact zoN_
 ·exact zqH_
 ·exact zpH_
 ·exact zqf_
 ·exact zpB_ hu
 ·exact zqQ_ hu
 ·exact zpO_
 ·exact ziB_
 ·exact zq9_ hu
 ·exact zhM_ hu
 ·exact zly_ hu
theorem zjw_ {d:D}{kc:Const}{j:Nat}(h:constB d kc=vm):PE Z (.Constant kc j pos) (tC (d.flat?.getD .non)):=by
 cases kc with
 |int i=>cases d<;>first |(cases eq_of_beq h;exact zqx_)|cases h
 |bool b=>cases d<;>first |(cases eq_of_beq h;exact pe_bl)|cases h
 |none=>cases d<;>first |exact zrw_ |cases h
 |str z=>cases d<;>first |(have h:=eq_of_beq h;subst h;exact zqX_ (by cases z;rfl))|cases h
 |_=>cases h
theorem zkp_ {sp:Sp}{ps:List Str}{j:Nat}(F:Gd Z.prog Z.w Z.K Z.mg Z.base CX0 j x ps sp)(hr:Room j Z.A)(hx:Passes CX0 Z E)(ha:PA Z es ta)(hs:es.all noStar=vm)(hg:Gl Z x)(hd:(x==("__debug__":Str))=vn)(h0:es=[]->ta=tNil):
  PE Z (.Call (.Name x p) es [] pos) (tCall sp [] E ta):=by
 cases es with
 |nil=>
  rw[h0 rfl];obtain⟨f,fd,F,hm,hk,hb⟩:=F;exact zkI_ F hr hg hm hk hb .nil hx hd
 |cons e es=>
  rw[mO,lj]at hs;obtain⟨f,fd,F,hm,hk,hb⟩:=F;exact zlR_ F hr hg hm hk hb .nil hx ha hd (zn_ hs.1) (zaq_ hs.2)
theorem bf_pe (g:Cg Z c k E){b:Bf}(hm:Z.mg b.nm=vk)(ha:PA Z es ta)(hs:es.all noStar=vm)(h0:es≠[])(hg:glB c b.nm=vm):PE Z (.Call (.Name b.nm p) es [] pos) (tCB (b.r Z.K) ta):=by
 obtain⟨g1,g2⟩:=zgD_ g hg;cases es with
 |nil=>exact absurd rfl h0
 |cons e es=>
  rw[mO,lj]at hs;have s1:=zn_ (env:=Z.env) (es:=es) hs.1;have s2:=zaq_ (env:=Z.env) (pos:=pos) hs.2;cases b with
  |len=>exact zn7_ zhH_ hm ha g1 rfl (by decide) g2 s1 s2
  |list=>exact zoH_ "list" (zgr_ g.calm) hm ha g1 rfl (by decide) g2 s1 s2
  |min=>exact zn7_ (ziC_ g.calm) hm ha g1 rfl (by decide) g2 s1 s2
  |str=>exact zoH_ "str" zim_ hm ha g1 rfl (by decide) g2 s1 s2
  |all=>exact zn7_ (zia_ g.calm) hm ha g1 rfl (by decide) g2 s1 s2
  |sorted=>exact zn7_ (zgZ_ g.calm) hm ha g1 rfl (by decide) g2 s1 s2
theorem sm_pe {b:Sm}(ho:PE Z o t)(ha:PA Z es ta)(hs:es.all noStar=vm)(hb:noSup o=vm)(hl:(apos.endLine==pos.line)=vm)(hn:es.length<29)(h0:es≠[]):PE Z (.Call (.Attribute o b.nm apos) es [] pos) (tBM Z.K "str" (b.r Z.K) t ta):=by
 cases es with
 |nil=>exact absurd rfl h0
 |cons e es=>
  have f:=zjC_ (env:=Z.env) (pos:=pos) hs hn;rw[mO,lj]at hs;have s1:=zn_ (env:=Z.env) (es:=es) hs.1;have s2:=zaq_ (env:=Z.env) (pos:=pos) hs.2;have b0:=λn=>zeI_ (env:=Z.env) (m:=n) hb
  cases b with
  |join=>exact zqg_ zfb_ ze2_ znu_ ho ha (b0 _) f hl s1 s2
  |index=>exact zqg_ zdR_ zea_ zks_ ho ha (b0 _) f hl s1 s2
  |zfill=>exact zqg_ zdK_ zdW_ zk4_ ho ha (b0 _) f hl s1 s2
variable {T:Ft}{G:Gi}
theorem zbp_ {cells:List (Str×lE)}:∀(names:List (Str×oh)) (acc:List (Str×lE)),(∀y∈names,y.2=.free->∃a,cells.lookup y.1=vj a)->∃cl,closeL cells names acc=vj cl
 |[],acc,_=>⟨acc,rfl⟩
 |(n,k)::r,acc,h=>by
  unfold closeL;split
  ·rename_i hk
   obtain⟨a,ha⟩:=h (n,k) (lW ..) (eq_of_beq hk);rw[show cells.lookup n=vj a from ha]
   exact zbp_ r _ λy hy=>h y (lV _ hy)
  ·exact zbp_ r _ λy hy=>h y (lV _ hy)
theorem zeg_ (g:Cg Z c k E){sc:Scope}:(relabel sc Z.env).names=relab c.nm sc.names:=by
 unfold relabel relab p5;rw[g.kind,g.nm];simp
theorem zgt_ (g:Cg Z c k E){sc:Scope}{lv:List Str}{fr:List (Str×Nat)}(h:scB c sc lv fr=vm):
  (cN lv fr).Nodup/\∃cl,CScope Z sc cl lv fr/\∀C fp s2 H2,Cg (cxComp Z sc cl C (cN lv fr) fp s2 H2) ⟨cN lv fr,relab c.nm sc.names⟩ k E0:=by
 unfold scB at h;rw[lj,lj,lj]at h;obtain⟨⟨⟨h1,h2⟩,h3⟩,h4⟩:=h;have h1:=mG.mp h1;have h3:=mG.mp h3;have h2:sc.kind=.function:=eq_of_beq h2;have hc:∀y∈sc.names,y.2≠.cell:=λy hy=>by have:=h1 y hy;simp at this;exact this.1.1
 have hf:∀y∈sc.names,y.2=.free->c.nm.lookup y.1=vj .cell\/c.nm.lookup y.1=vj .free:=λy hy z=>by
  have:=h1 y hy;simp[z]at this;exact this
 obtain⟨cl,aT⟩:=zbp_ (cells:=Z.env.cells) sc.names [] λy hy z=>g.cells _ (hf y hy z)
 refine⟨of_decide_eq_true h4,cl,⟨aT,hc,h2,λz hz e=>?_,λq hq=>?_⟩,λC fp s2 H2=>⟨rfl,zeg_ g,h2,g.calm,g.room,zhB_,λx hx=>?_⟩⟩
 ·have:=h1 z hz;simp[e]at this;exact this
 ·have:=h3 q hq
  simp at this;obtain⟨⟨⟨a,b⟩,d⟩,e⟩:=this;unfold p5;rw[g.N,g.nm,zeg_ g];exact⟨a,b,d,e⟩
 ·have hx:(relabel sc Z.env).names.lookup x=vj .cell\/(relabel sc Z.env).names.lookup x=vj .free:=by rw[zeg_ g];exact hx
  have hm:(x,NameKind.free)∈sc.names:=hx.elim (λz=>zaM_ z (.inl rfl) hc) λz=>zaM_ z (.inr rfl) hc
  exact z4_ sc.names [] cl aT x (.inl hm)
theorem zkd_ (g:Cg Z c k E)(nd:c.N.Nodup){i:Nat}(hf:(∀x,Z.fn x=vm)\/∀x,c.N[i]?=vj x->c.nm.lookup x=vj .local)(h:tgB c i e=vm):PG Z e (gName i)/\∃x p,e=.Name x p:=by
 unfold tgB at h;split at h
 ·rename_i x p
  rw[lj]at h;have hi:c.N[i]?=vj x:=eq_of_beq h.1;exact⟨znh_ (by rw[g.N];exact nd) (by rw[g.N];exact hi) (zl6_ g h.2) (hf.elim (λz=>.inl (z x)) λz=>.inr (by rw[g.nm];exact z x hi)),x,p,rfl⟩
 ·cases h
theorem zof_ (g:Cg Z c k E)(nd:c.N.Nodup):∀{is:List Nat}{es:List lP},((∀x,Z.fn x=vm)\/∀i∈is,∀x,c.N[i]?=vj x->c.nm.lookup x=vj .local)->tgsB c is es=vm->PGs Z es (tgS is)/\(nI es Z.env).length=is.length/\(nI es Z.env).findIdx? (·.1)=vk
 |[],[],_,_=>⟨zka_,rfl,rfl⟩
 |[],_::_,_,h=>by cases h
 |_::_,[],_,h=>by cases h
 |i::is,e::es,hf,h=>by
  unfold tgsB at h;rw[lj]at h;obtain⟨h1,x,p,rfl⟩:=zkd_ g nd (i:=i) (hf.imp id λz=>z i (lW ..)) h.1
  obtain⟨a,b,d⟩:=zof_ g nd (is:=is) (es:=es) (hf.imp id λz j hj=>z j (lV _ hj)) h.2
  refine⟨zio_ h1 a,?_,?_⟩
  ·show(nI es Z.env).length+1=_;rw[b];rfl
  ·show List.findIdx? _ ((vn,_)::nI es Z.env)=vk
   rw[List.findIdx?_cons];simp[d]
theorem tg_ok (g:Cg Z c k E)(nd:c.N.Nodup){tg:Tg}(hf:(∀x,Z.fn x=vm)\/locals? c tg=vm)(h:tgOk c tg e=vm):PG Z e (tgT Z.K tg):=by
 have hf:(∀x,Z.fn x=vm)\/∀i∈tg.is,∀x,c.N[i]?=vj x->c.nm.lookup x=vj .local:=hf.imp id λz i hi x hx=>by
  have:=mG.mp z i hi;rw[hx]at this;exact eq_of_beq this
 unfold tgOk at h;unfold tgT;split at h
 ·rename_i es _ _ ht
  rw[if_pos ht];obtain⟨a,b,d⟩:=zof_ g nd hf h;exact znR_ g.calm a b d
 ·rename_i ht
  rw[if_neg (by rw[ht];decide)]
  rw[lj]at h;refine(zkd_ g nd (hf.imp id λz=>?_) h.2).1
  have hl:=eq_of_beq h.1;cases hi:tg.is with
  |nil=>rw[hi]at hl;cases hl
  |cons i r=>rw[hi]at z;exact z i (lW ..)
 ·cases h
theorem zmA_ {f:Str}(hc:∀d∈G.cs,Cls Z.K (gA Z.K d)/\NoAttr Z.K (gA Z.K d) f)(he:PE Z e t)(hb:noSup e=vm):PE Z (.Attribute e f pos) (tFld Z.K G.cs t f):=by
 intro pins s σ H Q I h;obtain⟨d,hd,h⟩:=h;exact zlV_ (hc d hd).1 (hc d hd).2 he (zeI_ hb) pins s σ H Q I h
theorem zoT_ (g:Cg Z c k E){n:String}{y:Str}{p1 p2:Pos}(ha:PE Z e t)(he:noStar e=vm)(h1:glB c "isinstance"=vm)(h2:Z.mg "isinstance"=vk)(hn:tyNm n=vj y)(h3:glB c y=vm)(h4:Z.mg y=vk):PE Z (.Call (.Name "isinstance" p1) [e,.Name y p2] [] pos) (tCB (mIsaV Z.K) (tCons t (tCons (tC (.ty n)) tNil))):=by
 obtain⟨g1,g2⟩:=zgD_ g h1;obtain⟨g3,g4⟩:=zgD_ g h3;have hb:nU y=vj (.type n)/\y ≠ "__name__":=by
  unfold tyNm at hn;split at hn<;>cases hn<;>exact⟨rfl,by decide⟩
 exact zn7_ zix_ h2 (zb0_ ha (zb0_ (pe_ty n h4 g3 hb.1 hb.2 g4) zg6_ (zn_ rfl)) (zn_ he)) g1 rfl (by decide) g2 (zn_ he) (zaq_ rfl)
theorem zge_ {a b c d:lP}{ta tb tc td:TE}{op aF aE:CmpOp}{r r' bh:R2}(ho:OpR Z (l4 op) r)(aH:OpR Z (l4 aF) r')(bz:OpR Z (l4 aE) bh)(ha:PE Z a ta)(hb:PE Z b tb)(hc:PE Z c tc)(hd:PE Z d td)
  (hm:lastMarks [op,aF,aE] [b,c,d]=vn):PT Z (.Compare a [op,aF,aE] [b,c,d] pos) (mTest (mChain3 r r' bh ta tb tc td)):=by
 intro pins s σ H Q I h;refine isTrue_chain (thn (ha pins s σ H _ I h) λv s1 ⟨x,H1,I1,r1,q1⟩=>test_link (thn (hb pins s1 σ H1 _ I1 q1) λu s2 ⟨y,H2,I2,r2,q2⟩=>
  thn (ho pins s2 σ H2 x y v u _ I2 r1 r2 q2) λd s3 ⟨z,H3,I3,r3,q3⟩=>?_)) hm
 cases z with
 |bl k=>
  cases r3;refine mr ?_;cases k with
  |false=>exact ite_ff ⟨H3,I3,q3.2 rfl⟩
  |true=>
   refine ite_tt (test_link (thn (hc pins s3 σ H3 _ I3 (q3.1 rfl)) λw' s4 ⟨z',H4,I4,r4,q4⟩=>thn (aH pins s4 σ H4 y z' u w' _ I4 r2 r4 q4) λd' s5 af=>?_))
   obtain⟨z2,H5,I5,r5,q5⟩:=af;cases z2 with
   |bl k2=>
    cases r5;refine mr ?_;cases k2 with
    |false=>exact ite_ff ⟨H5,I5,q5.2 rfl⟩
    |true=>
     refine ite_tt (test_last (thn (hd pins s5 σ H5 _ I5 (q5.1 rfl)) λw2 s6 ⟨z3,H6,I6,r6,q6⟩=>thn (bz pins s6 σ H6 z' z3 w' w2 _ I6 r4 r6 q6) λd' s7 af=>?_))
     obtain⟨z4,H7,I7,r7,q7⟩:=af;cases z4 with
     |bl k4=>cases r7;exact mr ⟨H7,I7,q7⟩
     |_=>exact q7.elim
   |_=>exact q5.elim
 |_=>exact q3.elim
theorem zqD_ {a b d f:lP}{t1 t2 t3 t4:TE}{op aF aE:CmpOp}{r r' bh:R2}(ho:OpR Z (l4 op) r)(aH:OpR Z (l4 aF) r')(bz:OpR Z (l4 aE) bh)(ha:Rd Z a t1)(hb:Rd Z b t2)(hd:Rd Z d t3)(hf:Rd Z f t4)(hs:noSet f=vm):Rd Z (.Compare a [op,aF,aE] [b,d,f] pos) (mChain3 r r' bh t1 t2 t3 t4):=
 ⟨zfS_ ho aH bz ha.pe hb.pe hd.pe hf.pe (zaI_ hs),λ_=>zge_ ho aH bz ha.pe hb.pe hd.pe hf.pe (zaI_ hs),λ_ _ _ z=>by cases z⟩
theorem os1 {os:List CmpOp}{a:Option CmpOp}(h:[a]=os.map vj):∃x,a=vj x/\os=[x]:=by
 cases os with
 |nil=>cases h
 |cons x l=>cases l with |nil=>cases h;exact⟨x,rfl,rfl⟩|cons=>cases h
theorem os2 {os:List CmpOp}{a b:Option CmpOp}(h:[a,b]=os.map vj):∃x y,a=vj x/\b=vj y/\os=[x,y]:=by
 cases os with
 |nil=>cases h
 |cons x l=>
  obtain⟨y,rfl,rfl⟩:=os1 (qE h).2;exact⟨x,y,(qE h).1,rfl,rfl⟩
theorem os3 {os:List CmpOp}{a b d:Option CmpOp}(h:[a,b,d]=os.map vj):∃x y z,a=vj x/\b=vj y/\d=vj z/\os=[x,y,z]:=by
 cases os with
 |nil=>cases h
 |cons x l=>
  obtain⟨y,z,rfl,rfl,rfl⟩:=os2 (qE h).2;exact⟨x,y,z,(qE h).1,rfl,rfl,rfl⟩
theorem zq_:∀{as:List X}{es:List lP},chkEs T G c as es=vm->es.all noStar=vm/\(es=[]↔as=[])
 |[],es,h=>by
  unfold chkEs at h;rw[mm.mp h];exact⟨rfl,Iff.rfl.trans ⟨λ_=>rfl,λ_=>rfl⟩⟩
 |a::as,es,h=>by
  apply kc_ h;intro e es h;simp only[lj]at h;exact⟨by rw[mO,h.1.1,(zq_ h.2).1];rfl,(λz=>by cases z),(λz=>by cases z)⟩
theorem zkh_ {K:mh}{as:List X}(h:chkEs T G c as es=vm)(h0:es=[]):X.dens K G E as=tNil:=by rw[(zq_ h).2.mp h0,X.dens]
theorem zlU_ {as:List X}(h:chkEs T G c as es=vm)(h0:(!as.isEmpty)=vm):es≠[]:=λz=>by
 rw[(zq_ h).2.mp z]at h0;cases h0
theorem zhS_ {os:List CmpOp}{l:List (Option CmpOp)}(h:(os.map vj == l)=vm):l=os.map vj:=(eq_of_beq h).symm
abbrev AllH (Z:Cx)(k:Nat)(l:List Fc):Prop:=∀φ∈l,φ.H Z.prog Z.w Z.K Z.mg Z.base k
theorem AllH.l {a b:List Fc}(h:AllH Z k (a++b)):AllH Z k a:=λφ cD=>h φ (pz _ cD)
theorem AllH.r {a b:List Fc}(h:AllH Z k (a++b)):AllH Z k b:=λφ cD=>h φ (l7 _ cD)
theorem znG_ {tg:Tg}(h:tgOk c tg e=vm)(ht:tg.tup=vm):∃es k p,e=.Tuple es k p:=by
 unfold tgOk at h;split at h
 ·exact⟨_,_,_,rfl⟩
 ·rename_i z;rw[z]at ht;cases ht
 ·cases h
theorem zlm_ {ik:Ik}{src:List X}{tg:Tg}{t it:lP}{k1:Bool}{ks:List lP->Bool}(fo:T.Ok G Z.K Z.mg)(g:Cg Z c k E)(h3:tg.tup=vm->∃es k p,t=.Tuple es k p)(h:srcB T c ik tg it k1 ks=vm)
  (H0:k1=vm->∃s,src=[s]/\PE Z it (s.den Z.K G E)) (H1:∀es,ks es=vm->PA Z es (X.dens Z.K G E src)/\es.all noStar=vm):PI Z t it (ik.t Z.K (X.dens Z.K G E src)):=by
 unfold srcB at h;cases ha:ik.isAny with
 |true=>
  rw[ha,cond_true]at h;obtain⟨s,rfl,hs⟩:=H0 h;cases ik<;>first |exact zoU_ hs |cases ha
 |false=>
  rw[ha,cond_false]at h;apply kC_ h;intro f es q h;apply kN_ h;intro y p h;simp only[lj]at h;obtain⟨⟨⟨⟨⟨h1,h2⟩,h4⟩,h5⟩,h6⟩,h7⟩:=h;obtain⟨pa,st⟩:=H1 es h7;have b:=fo.bs y (by simpa using h5)
  have gl:=(zgD_ g h4).1;have hy:=eq_of_beq h1;have hl:=eq_of_beq h2;have tp:ik.tp=vm->∃es k p,t=.Tuple es k p:=λz=>h3 (by rw[z]at h6;simpa using h6)
  have sm:=zaX_ (env:=Z.env) st;cases ik with
  |any=>cases ha
  |r1=>obtain⟨a,rfl⟩:=nE.mp hl;cases hy;exact zkr_ b pa gl sm
  |r2=>match es,hl with |[a,d],_=>cases hy;exact zjt_ b pa gl sm (zaX_ (by rw[mO,lj]at st;exact st.2))
  |en=>obtain⟨a,rfl⟩:=nE.mp hl;cases hy;obtain⟨_,_,_,rfl⟩:=tp rfl;exact zoy_ b pa gl sm
  |zip=>match es,hl with |[a,d],_=>cases hy;obtain⟨_,_,_,rfl⟩:=tp rfl;exact zm6_ b pa gl sm (zaX_ (by rw[mO,lj]at st;exact st.2))
theorem zi3_ (lv:List Str)(fr:List (Str×Nat))(ik:Ik)(src:List X)(tg:Tg)(d:Option X)(x:X)
  (H0:∀{Z:Cx}{c:Ck}{E:XK}{e:lP},T.Ok G Z.K Z.mg->Cg Z c k E->AllH Z k (X.fcss src)->chk1 T G c src e=vm->∃s,src=[s]/\PE Z e (s.den Z.K G E))
  (H1:∀{Z:Cx}{c:Ck}{E:XK}{es:List lP},T.Ok G Z.K Z.mg->Cg Z c k E->AllH Z k (X.fcss src)->chkEs T G c src es=vm->PA Z es (X.dens Z.K G E src))
  (H2:∀{Z:Cx}{c:Ck}{E:XK}{es:List lP},T.Ok G Z.K Z.mg->Cg Z c k E->AllH Z k (X.fcsO d)->chkIf T G c d es=vm->PIf Z es (X.denT Z.K G E d))
  (H3:∀{Z:Cx}{c:Ck}{E:XK}{e:lP},T.Ok G Z.K Z.mg->Cg Z c k E->AllH Z k x.fcs->chkE T G c x e=vm->Rd Z e (x.den Z.K G E)):∀{Z:Cx}{c:Ck}{E:XK}{e:lP},T.Ok G Z.K Z.mg->Cg Z c k E->AllH Z k (X.comp lv fr ik src tg d x).fcs->chkE T G c (.comp lv fr ik src tg d x) e=vm ->
  ∃t it ifs elt sc pos,e=.ListComp elt [⟨t,it,ifs,0⟩] sc pos/\∃cl,CScope Z sc cl lv fr/\PI Z t it (ik.t Z.K (X.dens Z.K G E src))/\(∀C fp s2 H2,PG (cxComp Z sc cl C (cN lv fr) fp s2 H2) t (tgT Z.K tg)) /\
   (∀C fp s2 H2,PIf (cxComp Z sc cl C (cN lv fr) fp s2 H2) ifs (X.denT Z.K G E0 d))/\(∀C fp s2 H2,PE (cxComp Z sc cl C (cN lv fr) fp s2 H2) elt (x.den Z.K G E0))/\noSet it=vm:=by
 intro Z c E e fo g fs h;apply kG_ h;intro elt gs sc pos h;rw[lj]at h;obtain⟨⟨t,it,ifs,as⟩,rfl⟩:=nE.mp (eq_of_beq h.1);have h:=h.2;rw[mO,List.all_nil,rN]at h;simp only[lj]at h;obtain⟨⟨⟨⟨⟨⟨⟨h1,h2⟩,h3⟩,h4⟩,h5⟩,h6⟩,h7⟩,h8⟩:=h;cases eq_of_beq h1;obtain⟨nd,cl,S,cg⟩:=zgt_ g h2
 exact⟨t,it,ifs,elt,sc,pos,rfl,cl,S,zlm_ fo g (znG_ h3) h6 (H0 fo g fs.l) λes z=>⟨H1 fo g fs.l z,(zq_ z).1⟩,λC fp s2 H2=>tg_ok (Z:=cxComp Z sc cl C (cN lv fr) fp s2 H2) (cg C fp s2 H2) nd (.inr h4) h3,λC fp s2 iZ=>H2 (Z:=cxComp Z sc cl C (cN lv fr) fp s2 iZ) fo (cg C fp s2 iZ) fs.r.l h7,
   λC fp s2 H2=>(H3 (Z:=cxComp Z sc cl C (cN lv fr) fp s2 H2) fo (cg C fp s2 H2) fs.r.r h8).pe,h5⟩
mutual
theorem za_:∀(x:X) {Z:Cx}{c:Ck}{E:XK}{e:lP},T.Ok G Z.K Z.mg->Cg Z c k E->AllH Z k x.fcs->chkE T G c x e=vm->Rd Z e (x.den Z.K G E)
 |.v i,Z,c,E,e,fo,g,fs,h=>by
  apply kN_ h;intro x p h;rw[lj,lj]at h;have h3:=h.2;unfold nmOk at h3;rw[lj]at h3;exact zj_ (zop_ i (by rw[g.N];exact eq_of_beq h.1.1) (zpb_ g h.1.2) (by simpa using h3.1) (by simpa using h3.2)) rfl
 |.k d,Z,c,E,e,fo,g,fs,h=>by
  apply kK_ h;intro x n p h;exact zj_ (zjw_ h) rfl
 |.g x d,Z,c,E,e,fo,g,fs,h=>by
  show Rd Z e (tC (d.flat?.getD .non))
  apply kN_ h;intro y p h;rw[lj,lj]at h;cases eq_of_beq h.1.1;obtain⟨g1,g2⟩:=zgD_ g h.1.2;have h2:=h.2;cases hv:d.flat? with
  |none=>rw[hv]at h2;cases h2
  |some v=>rw[hv]at h2;exact zj_ (pe_gc (fo.gc _ (by simpa using h2)) g1 g2) rfl
 |.gt x ls,Z,c,E,e,fo,g,fs,h=>by
  apply kN_ h;intro y p h;rw[lj,lj]at h;cases eq_of_beq h.1.1;obtain⟨g1,g2⟩:=zgD_ g h.1.2;obtain⟨q,hq,e⟩:=qM.mp h.2;have:=fo.kt q hq;rw[eq_of_beq e]at this;exact zj_ (pe_gc this g1 g2) rfl
 |.bin o a b,Z,c,E,e,fo,g,fs,h=>by
  rcases(oB _ _).mp h with h |h
  rotate_left
  rcases(oB _ _).mp h with h |h
  rotate_right
  ·apply kB_ h;intro l op r p h
   simp only[lj]at h;exact zj_ (pe_op (bo_op (eq_of_beq h.1.1)) (za_ a fo g fs.l h.1.2).pe (za_ b fo g fs.r h.2).pe) rfl
  ·apply kM_ h;intro l os rs p h
   apply kc_ h;intro r t h;simp only[lj]at h;cases mm.mp h.1.1.1.2;obtain⟨op,ho,rfl⟩:=os1 (zhS_ h.1.1.1.1);exact zl7_ (zee_ g.units ho) (za_ a fo g fs.l h.1.2) (za_ b fo g fs.r h.2) h.1.1.2
  ·apply kS_ h;intro l r p h
   simp only[lj]at h;have ho:o=.ix:=by
    have:=h.1.1.1;cases o<;>first |rfl |cases this
   subst ho;exact zj_ (pe_ix (ix_A g.units) (za_ a fo g fs.l h.1.2).pe (za_ b fo g fs.r h.2).pe (zla_ h.1.1.2)) rfl
 |.ch o o' a b d,Z,c,E,e,fo,g,fs,h=>by
  apply kM_ h;intro l os rs p h;apply kc_ h;intro r t h;apply kc_ h;intro r' t' h;simp only[lj]at h;cases mm.mp h.1.1.1.1.2;obtain⟨op,aF,h1,h2,rfl⟩:=os2 (zhS_ h.1.1.1.1.1);exact zkU_ (zee_ g.units h1) (zee_ g.units h2) (za_ a fo g fs.l h.1.1.2) (za_ b fo g fs.r.l h.1.2) (za_ d fo g fs.r.r h.2) h.1.1.1.2
 |.and a b,Z,c,E,e,fo,g,fs,h=>by
  apply kO_ h;intro x y l p h;simp only[lj]at h;cases l with
  |nil=>exact zll_ (za_ a fo g fs.l h.1.2) (za_ b fo g fs.r h.2) h.1.1.1 h.1.1.2
  |cons z l=>exact zpm_ (za_ a fo g fs.l h.1.2) (za_ b fo g fs.r h.2) h.1.1.1
 |.or a b,Z,c,E,e,fo,g,fs,h=>by
  apply kO_ h;intro x y l p h;simp only[lj]at h;cases l with
  |nil=>exact zrq_ (za_ a fo g fs.l h.1.2) (za_ b fo g fs.r h.2) h.1.1.1 h.1.1.2
  |cons z l=>exact rd_or (za_ a fo g fs.l h.1.2) (za_ b fo g fs.r h.2) h.1.1.1
 |.not a,Z,c,E,e,fo,g,fs,h=>by
  apply kU_ h;intro o x p h;simp only[lj]at h;cases eq_of_beq h.1.1;exact zlZ_ (za_ a fo g fs h.2) h.1.2
 |.neg a,Z,c,E,e,fo,g,fs,h=>by
  apply kU_ h;intro o x p h;rw[lj]at h;cases eq_of_beq h.1;exact zj_ (zrj_ (za_ a fo g fs h.2).pe) rfl
 |.ifx d a b,Z,c,E,e,fo,g,fs,h=>by
  apply kI_ h;intro t x y p h;simp only[lj]at h;exact rd_if (zqt_ ((za_ d fo g fs.l h.1.1.2).pt h.1.1.1) (za_ a fo g fs.r.l h.1.2).pe (za_ b fo g fs.r.r h.2).pe) rfl
 |.sl a lo hi,Z,c,E,e,fo,g,fs,h=>by
  apply kS_ h;intro l r p h;apply kL_ h;intro l1 l2 l3 q h;simp only[lj]at h;cases ou.mp h.1.1.1;exact zj_ (zjI_ sl_A (za_ a fo g fs.l h.1.1.2).pe (zje_ lo fo g fs.r.l h.1.2) (zje_ hi fo g fs.r.r h.2)) rfl
 |.tup as,Z,c,E,e,fo,g,fs,h=>by
  apply kT_ h;intro es n p h;exact zj_ (zoZ_ (zE_ as fo g fs h)) rfl
 |.lst as,Z,c,E,e,fo,g,fs,h=>by
  apply kW_ h;intro es p h;exact zj_ (zrk_ (zE_ as fo g fs h)) rfl
 |.fld a f,Z,c,E,e,fo,g,fs,h=>by
  apply kA_ h;intro o f' p h;simp only[lj]at h;cases eq_of_beq h.1.1.1;exact zj_ (zmA_ (λd hd=>⟨fo.cls d hd,fo.at_ d hd _ (by simpa using h.1.1.2)⟩) (za_ a fo g fs h.2).pe h.1.2) rfl
 |.call f x as,Z,c,E,e,fo,g,fs,h=>by
  apply kC_ h;intro y es q h;apply kN_ h;intro y p h;simp only[lj]at h;cases eq_of_beq h.1.1;obtain⟨g1,g2⟩:=zgD_ g h.1.2;obtain⟨ps,j,hj,F⟩:=fs _ (lW ..);exact zj_ (zkp_ F (g.room.mono hj) g.pass (zE_ as fo g (λφ cD=>fs φ (lV _ cD)) h.2) (zq_ h.2).1 g1 g2 (zkh_ h.2)) rfl
 |.bf o as,Z,c,E,e,fo,g,fs,h=>by
  apply kC_ h;intro y es q h;apply kN_ h;intro y p h;simp only[lj]at h;cases eq_of_beq h.1.1.1.1;exact zj_ (bf_pe g (fo.bs _ (by simpa using h.1.1.2)) (zE_ as fo g fs h.2) (zq_ h.2).1 (zlU_ h.2 h.1.2) h.1.1.1.2) rfl
 |.sm o a as,Z,c,E,e,fo,g,fs,h=>by
  apply kC_ h;intro y es q h;apply kA_ h;intro r m p h;simp only[lj]at h;cases eq_of_beq h.1.1.1.1.1.1;exact zj_ (sm_pe (za_ a fo g fs.l h.1.2).pe (zE_ as fo g fs.r h.2) (zq_ h.2).1 h.1.1.1.1.1.2 h.1.1.1.1.2 (of_decide_eq_true h.1.1.1.2) (zlU_ h.2 h.1.1.2)) rfl
 |.comp lv fr ik src tg d x,Z,c,E,e,fo,g,fs,h=>by
  obtain⟨t,it,ifs,elt,sc,pos,rfl,cl,S,q1,q2,q3,q4,q5⟩:=zi3_ lv fr ik src tg d x (zhi_ src) (zE_ src) (zfL_ d) (za_ x) fo g fs h;exact zj_ (znn_ g.calm S q1 q2 q3 q4 (zcu_ q5)) rfl
 |.lr a b,Z,c,E,e,fo,g,fs,h=>by
  apply kC_ h;intro y es q h;apply kN_ h;intro y p h;apply kc_ h;intro r t h;apply kC_ h;intro z xs q2 h;apply kN_ h;intro z p2 h;apply kc_ h;intro x t1 h;apply kc_ h;intro w t2 h;simp only[lj]at h;obtain⟨⟨⟨⟨⟨⟨⟨⟨⟨⟨⟨h1,h2⟩,ht⟩,ht2⟩,h3⟩,h4⟩,h5⟩,h6⟩,h7⟩,h8⟩,h9⟩,h10⟩:=h;cases eq_of_beq h1;cases eq_of_beq h2;cases mm.mp ht;cases mm.mp ht2;obtain⟨g1,g2⟩:=zgD_ g h3;obtain⟨g3,g4⟩:=zgD_ g h4;exact zj_ (zoH_ "list" (zdi_ g.calm) (fo.bs _ (by simpa using h5)) (zb0_ (zoH_ "range" zfe_ (fo.bs _ (by simpa using h6)) (zb0_ (za_ a fo g fs.l h9).pe (zb0_ (za_ b fo g fs.r h10).pe zg6_ (zn_ h8)) (zn_ h7)) g3 rfl (by decide) g4 (zn_ h7) (zaq_ (by simp[h8]))) zg6_ (zn_ rfl)) g1 rfl (by decide) g2 (zn_ rfl) (zaq_ rfl)) rfl
 |.isa a n,Z,c,E,e,fo,g,fs,h=>by
  apply kC_ h;intro y es q h;apply kN_ h;intro y p h;apply kc_ h;intro x t h;apply kc_ h;intro z t2 h;apply kN_ h;intro z p2 h;simp only[lj]at h;obtain⟨⟨⟨⟨⟨⟨⟨⟨h1,ht⟩,h2⟩,h3⟩,h4⟩,h5⟩,h6⟩,h7⟩,h8⟩:=h;cases eq_of_beq h1;cases mm.mp ht;exact zj_ (zoT_ g (za_ a fo g fs h8).pe h4 h2 (fo.bs _ (by simpa using h3)) (eq_of_beq h5) h6 (fo.bs _ (by simpa using h7))) rfl
 |.srt _ _ _ _,Z,c,E,e,fo,g,fs,h=>by cases h
 |.mkd f d as dv,Z,c,E,e,fo,g,fs,h=>by
  apply kC_ h;intro y es q h;apply kN_ h;intro y p h;simp only[lj]at h;cases eq_of_beq h.1.1.1;obtain⟨g1,g2⟩:=zgD_ g h.1.1.2;obtain⟨ps,j,hj,F⟩:=fs _ (lW ..);cases es with
  |nil=>cases h.1.2
  |cons e es=>
   have hs:=(zq_ h.2).1;rw[mO,lj]at hs;exact zj_ (zkC_ F (g.room.mono hj) g.pass (zE_ as fo g (λφ cD=>fs φ (lV _ cD)) h.2) g1 g2 (zn_ hs.1) (zaq_ hs.2)) rfl
 |.ds1 a b,Z,c,E,e,fo,g,fs,h=>by
  apply kDd_ h;intro ks vs p h;apply kco_ h;intro k kt h;apply kc_ h;intro v vt h;simp only[lj]at h;cases mm.mp h.1.1.1;cases mm.mp h.1.1.2;exact zj_ (ziV_ (zdH_ (za_ a fo g fs.l h.1.2).pe (za_ b fo g fs.r h.2).pe ziT_) rfl rfl (λz=>by cases z) (ph rfl)) rfl
 |.ds2 a b d f,Z,c,E,e,fo,g,fs,h=>by
  apply kDd_ h;intro ks vs p h;apply kco_ h;intro k kt h;apply kco_ h;intro l lt h;apply kc_ h;intro v vt h;apply kc_ h;intro w wt h;simp only[lj]at h;obtain⟨⟨⟨⟨⟨h1,h2⟩,h3⟩,h4⟩,h5⟩,h6⟩:=h;cases mm.mp h1;cases mm.mp h2;exact zj_ (ziV_ (zdH_ (za_ a fo g fs.l h3).pe (za_ b fo g fs.r.l h4).pe (zdH_ (za_ d fo g fs.r.r.l h5).pe (za_ f fo g fs.r.r.r h6).pe ziT_)) rfl rfl (λz=>by cases z) (ph rfl)) rfl
 |.dct0,Z,c,E,e,fo,g,fs,h=>by
  apply kDi_ h;intro p;exact zj_ zk5_ rfl
 |.ch3 o o' aJ a b d f,Z,c,E,e,fo,g,fs,h=>by
  apply kM_ h;intro l os rs p h;apply kc_ h;intro r t h;apply kc_ h;intro r' t' h;apply kc_ h;intro bh iu h;simp only[lj]at h;obtain⟨⟨⟨⟨⟨⟨h1,ht⟩,h4⟩,h5⟩,h6⟩,h7⟩,h8⟩:=h;cases mm.mp ht;obtain⟨op,aF,aE,g1,g2,g3,rfl⟩:=os3 (zhS_ h1);exact zqD_ (zee_ g.units g1) (zee_ g.units g2) (zee_ g.units g3) (za_ a fo g fs.l.l h5) (za_ b fo g fs.l.r h6) (za_ d fo g fs.r.l h7) (za_ f fo g fs.r.r h8) h4
theorem zhi_:∀(as:List X) {Z:Cx}{c:Ck}{E:XK}{e:lP},T.Ok G Z.K Z.mg->Cg Z c k E->AllH Z k (X.fcss as)->chk1 T G c as e=vm->∃s,as=[s]/\PE Z e (s.den Z.K G E)
 |[],Z,c,E,e,fo,g,fs,h=>by unfold chk1 at h;cases h
 |s::as,Z,c,E,e,fo,g,fs,h=>by
  have h:=ml.mp h;cases mm.mp h.1;exact⟨s,rfl,(za_ s fo g fs.l h.2).pe⟩
theorem zE_:∀(as:List X) {Z:Cx}{c:Ck}{E:XK}{es:List lP},T.Ok G Z.K Z.mg->Cg Z c k E->AllH Z k (X.fcss as)->chkEs T G c as es=vm->PA Z es (X.dens Z.K G E as)
 |[],Z,c,E,es,fo,g,fs,h=>by
  show PA Z es tNil;rw[mm.mp h]
  exact zg6_
 |a::as,Z,c,E,es,fo,g,fs,h=>by
  apply kc_ h;intro e t h;simp only[lj]at h;exact zb0_ (za_ a fo g fs.l h.1.2).pe (zE_ as fo g fs.r h.2) (zn_ h.1.1)
theorem zje_:∀(a:Option X) {Z:Cx}{c:Ck}{E:XK}{e:Option lP},T.Ok G Z.K Z.mg->Cg Z c k E->AllH Z k (X.fcsO a)->chkO T G c a e=vm->PO Z e (X.denO Z.K G E a)
 |none,Z,c,E,e,fo,g,fs,h=>by
  show PO Z e tNoPart;rw[ou.mp h]
  exact zoc_
 |some a,Z,c,E,e,fo,g,fs,h=>by
  cases e with
  |none=>cases h
  |some e=>exact po_M (za_ a fo g fs h).pe
theorem zfL_:∀(a:Option X) {Z:Cx}{c:Ck}{E:XK}{es:List lP},T.Ok G Z.K Z.mg->Cg Z c k E->AllH Z k (X.fcsO a)->chkIf T G c a es=vm->PIf Z es (X.denT Z.K G E a)
 |none,Z,c,E,es,fo,g,fs,h=>by
  show PIf Z es tTrue;rw[mm.mp h]
  exact zl8_
 |some a,Z,c,E,es,fo,g,fs,h=>by
  apply kc_ h;intro e t h;simp only[lj]at h;cases mm.mp h.1.1;exact zl1_ ((za_ a fo g fs h.2).pt h.1.2)
end
end
structure Cq (Z:Cx)(c:Ck)(k:Nat)(E:XK):Prop extends Cg Z c k E where
 fn:∀x,Z.fn x=vm
 nd:c.N.Nodup
 own:PassesOwn (model Z.prog Z.w) Z.A Z.env Z.xe
 ex:Z.ex=[]
 stack:Z.stack=Z.env::Z.outer/\Z.env.frame=vj Z.env.locals
noncomputable def Y.isC:Y->Bool
 |.pu (.comp ..)=>vm |_=>vn
noncomputable def Bm.nm:Bm->Str
 |.append => "append" |.extend => "extend"
def Y.fcs:Y->List Fc
 |.pu x=>x.fcs
 |.mv i=>[]
 |.call f x as=>(X.call f x (as.map A.t)).fcs
 |.bm _ p as=>p.x.fcs++X.fcss (as.map A.t)
 |.bin _ y z=>y.fcs++z.fcs
 |.sd p k v=>p.x.fcs++(k.fcs++v.fcs)
 |.not y=>y.fcs
mutual
def S.fcs:S->List Fc
 |.asg _ y=>y.fcs
 |.setF p _ x=>p.x.fcs++x.fcs
 |.setI p k x=>p.x.fcs++(k.fcs++x.fcs)
 |.ex y=>y.fcs
 |.ret y=>y.fcs
 |.retN=>[]
 |.if_ c a b=>c.fcs++(S.fcss a++S.fcss b)
 |.ifY c a b=>c.fcs++(S.fcss a++S.fcss b)
 |.ifL c a b=>c.fcs++(S.fcss a++S.fcss b)
 |.for_ _ src _ b=>X.fcss src++S.fcss b
 |.pass=>[]
 |.cont=>[]
 |.never=>[]
 |.try0 b ba=>S.fcss b++S.fcss ba
def S.fcss:List S->List Fc
 |[]=>[]
 |s::ss=>s.fcs++S.fcss ss
end
section
variable (T:Ft)(G:Gi)
def chkY (c:Ck):Y->lP->Bool
 |.pu x,e=>chkE T G c x e
 |.mv i,e=>chkE T G c (.v i) e
 |.call f x as,e=>chkE T G c (.call f x (as.map A.t)) e
 |.bm o p as,e=>kC e λr es q=>kA r λr m ap=>m == o.nm && noSup r && ap.endLine == q.line && decide (es.length<29) && chkE T G c p.x r && chkEs T G c (as.map A.t) es
 | .bin o y z,e=>kB e (λl op r=>o.op == vj op && chkY c y l && chkY c z r)||
   kM e (λl os rs=>kc rs λr t=>os.map vj == [o.cmp] && t.isEmpty && noSet r && chkY c y l && chkY c z r)
 |.sd p k v,e=>kC e λr es q=>kA r λr m ap=>kc es λa t=>kc t λb t=>m=="setdefault" && t.isEmpty && noSup r && ap.endLine==q.line && noStar a && noStar b && chkE T G c p.x r && chkE T G c k a && chkE T G c v b
 |.not y,e=>kU e λo x=>o == .Not && noIf x && chkY c y x
noncomputable def sA:mC->(lP->lP->Bool)->Bool
 |.Assign [g] e _,k=>k g e |_,_=>vn
noncomputable def sE:mC->(lP->Bool)->Bool
 |.Expr e _,k=>k e |_,_=>vn
noncomputable def sR:mC->(Option lP->Bool)->Bool
 |.Return e _,k=>k e |_,_=>vn
noncomputable def sI:mC->(lP->List mC->List mC->Bool)->Bool
 |.If e a b _,k=>k e a b |_,_=>vn
def sF:mC->(lP->lP->List mC->Bool)->Bool
 |.For t i b [] _,k=>k t i b |_,_=>vn
noncomputable def sT:mC->(List mC->List mC->Bool)->Bool
 |.Try b (_::_) l [] _,k=>k b l |_,_=>vn
noncomputable def sP:mC->Bool
 |.Pass _=>vm |_=>vn
noncomputable def sC:mC->Bool
 |.Continue _=>vm |_=>vn
section
variable {s:mC}{C:mC->Prop}
theorem sA_ {k}(h:sA s k=vm)(H:∀g e q,k g e=vm->C (.Assign [g] e q)):C s:=by
 unfold sA at h;split at h
 ·exact H _ _ _ h
 ·cases h
theorem sE_ {k}(h:sE s k=vm)(H:∀e q,k e=vm->C (.Expr e q)):C s:=by cases s<;>first |exact H _ _ h |cases h
theorem sR_ {k}(h:sR s k=vm)(H:∀e q,k e=vm->C (.Return e q)):C s:=by cases s<;>first |exact H _ _ h |cases h
theorem sI_ {k}(h:sI s k=vm)(H:∀e a b q,k e a b=vm->C (.If e a b q)):C s:=by cases s<;>first |exact H _ _ _ _ h |cases h
theorem sF_ {k}(h:sF s k=vm)(H:∀t i b q,k t i b=vm->C (.For t i b [] q)):C s:=by
 unfold sF at h;split at h
 ·exact H _ _ _ _ h
 ·cases h
theorem sT_ {k}(h:sT s k=vm)(H:∀b a r l q,k b l=vm->C (.Try b (a::r) l [] q)):C s:=by
 unfold sT at h;split at h
 ·exact H _ _ _ _ _ h
 ·cases h
theorem sP_ (h:sP s=vm)(H:∀q,C (.Pass q)):C s:=by cases s<;>first |exact H _ |cases h
theorem sC_ (h:sC s=vm)(H:∀q,C (.Continue q)):C s:=by cases s<;>first |exact H _ |cases h
end
noncomputable def sc:List mC->(mC->List mC->Bool)->Bool
 |a::l,k=>k a l |[],_=>vn
theorem sc_ {l:List mC}{C:List mC->Prop}{k}(h:sc l k=vm)(H:∀a t,k a t=vm->C (a::t)):C l:=by cases l with |nil=>cases h |cons a t=>exact H a t h
noncomputable def isStr:Const->Bool
 |.str _=>vm |_=>vn
mutual
def chkS (c:Ck):S->mC->Bool
 |.asg i y,s=>sA s λg e=>tgB c i g && (noCmp e ||y.isC) && chkY T G c y e
 |.setF p n x,s=>sA s λg e=>kA g λo f _=>n == f && T.at_.contains n && chkE T G c p.x o && chkE T G c x e
 |.setI p k x,s=>sA s λg e=>kS g λo i=>noSl i && chkE T G c p.x o && chkE T G c k i && chkE T G c x e
 |.ex y,s=>sE s λe=>noCmp e && chkY T G c y e
 |.ret y,s=>sR s λe=>e.any (chkY T G c y)
 |.retN,s=>sR s λe=>e.isNone
 |.if_ d a b,s=>sI s λe x y=>noIf e && chkE T G c d e && chkSs c a x && chkSs c b y
 |.ifL d a b,s=>sI s λe x y=>plainT e && chkE T G c d e && chkSs c a x && chkSs c b y
 |.ifY d a b,s=>sI s λe x y=>noIf e && chkY T G c d e && chkSs c a x && chkSs c b y
 |.for_ ik src tg b,s=>sF s λt it x=>noSet it && tgOk c tg t && srcB T c ik tg it (chk1 T G c src it) (chkEs T G c src) && chkSs c b x
 |.pass,s=>sP s ||sE s λe=>kK e isStr
 |.cont,s=>sC s
 |.never,_=>vm
 |.try0 b ba,s=>sT s λx y=>chkSs c b x && chkSs c ba y
def chkSs (c:Ck):List S->List mC->Bool
 |[],ss=>ss.isEmpty
 |a::as,ss=>sc ss λs ss=>chkS c a s && chkSs c as ss
end
end
section
variable {Z:Cx}{c:Ck}{k:Nat}{E:XK}{T:Ft}{G:Gi}{e o:lP}{es:List lP}{t:TE}{p pos apos:Pos}
def bmT (K:mh)(G:Gi)(E:XK)(b:Bm)(t:TE)(as:List A):TE:=match as with |[]=>tBM0 K b.ty b.r t |_=>tBM K b.ty b.r t (X.dens K G E (as.map A.t))
theorem bm_pe {b:Bm}{as:List A}(ho:PE Z o t)(ha:PA Z es (X.dens Z.K G E (as.map A.t)))(hs:es.all noStar=vm)(hb:noSup o=vm)(hl:(apos.endLine == pos.line)=vm)(hn:es.length<29)(h0:es=[]↔as=[]):PE Z (.Call (.Attribute o b.nm apos) es [] pos) (bmT Z.K G E b t as):=by
 have b0:=λn=>zeI_ (env:=Z.env) (m:=n) hb
 cases as with
 |nil=>
  rw[h0.mpr rfl];cases b with
  |append=>exact zmg_ zeA_ zbd_ zbb_ zcB_ ho (b0 _) hl
  |extend=>exact zmg_ zeA_ zbf_ zbe_ zez_ ho (b0 _) hl
 |cons a as=>
  cases es with
  |nil=>cases h0.mp rfl
  |cons e es=>
   have f:=zjC_ (env:=Z.env) (pos:=pos) hs hn;rw[mO,lj]at hs;have s1:=zn_ (env:=Z.env) (es:=es) hs.1;have s2:=zaq_ (env:=Z.env) (pos:=pos) hs.2;cases b with
   |append=>exact zqA_ zeA_ zbd_ zbb_ zcB_ ho ha (b0 _) f hl s1 s2
   |extend=>exact zqA_ zeA_ zbf_ zbe_ zez_ ho ha (b0 _) f hl s1 s2
theorem zbc_:∀(y:Y) {e:lP},T.Ok G Z.K Z.mg->Cg Z c k E->AllH Z k y.fcs->chkY T G c y e=vm->Rd Z e (y.den Z.K G E)
 |.pu x,e,fo,g,fs,h=>za_ x fo g fs h
 |.mv i,e,fo,g,fs,h=>by
  exact za_ (.v i) fo g (λ_ z=>by cases z) h
 |.call f x as,e,fo,g,fs,h=>by
  exact za_ (.call f x (as.map A.t)) fo g fs h
 |.bm b p as,e,fo,g,fs,h=>by
  apply kC_ h;intro r es q h;apply kA_ h;intro r m ap h;simp only[lj]at h;cases eq_of_beq h.1.1.1.1.1;exact zj_ (bm_pe (b:=b) (za_ p.x fo g fs.l h.1.2).pe (zE_ _ fo g fs.r h.2) (zq_ h.2).1 h.1.1.1.1.2 h.1.1.1.2 (of_decide_eq_true h.1.1.2) ((zq_ h.2).2.trans List.map_eq_nil_iff)) rfl
 |.bin o y z,e,fo,g,fs,h=>by
  rcases(oB _ _).mp h with h |h
  ·apply kB_ h;intro l op r p h
   simp only[lj]at h;exact zj_ (pe_op (bo_op (eq_of_beq h.1.1)) (zbc_ y fo g fs.l h.1.2).pe (zbc_ z fo g fs.r h.2).pe) rfl
  ·apply kM_ h;intro l os rs p h
   apply kc_ h;intro r t h;simp only[lj]at h;cases mm.mp h.1.1.1.2;obtain⟨op,ho,rfl⟩:=os1 (zhS_ h.1.1.1.1);exact zl7_ (zee_ g.units ho) (zbc_ y fo g fs.l h.1.2) (zbc_ z fo g fs.r h.2) h.1.1.2
 |.sd p k v,e,fo,g,fs,h=>by
  apply kC_ h;intro r es q h;apply kA_ h;intro r m ap h;apply kc_ h;intro a t h;apply kc_ h;intro b t h;simp only[lj]at h;obtain⟨⟨⟨⟨⟨⟨⟨⟨h1,ht⟩,h2⟩,h3⟩,h4⟩,h5⟩,h6⟩,h7⟩,h8⟩:=h;cases eq_of_beq h1;cases mm.mp ht;have st:[a,b].all noStar=vm:=by simp[h4,h5]
  exact zj_ (zkf_ g.units (za_ p.x fo g fs.l h6).pe (za_ k fo g fs.r.l h7).pe (za_ v fo g fs.r.r h8).pe ⟨zeI_ h2,zjC_ st (show 2<29 by decide),h3,by rw[zaX_ st];rfl⟩) rfl
 |.not y,e,fo,g,fs,h=>by
  apply kU_ h;intro o x p h;simp only[lj]at h;cases eq_of_beq h.1.1;exact zlZ_ (zbc_ y fo g fs h.2) h.1.2
theorem zgN_ {elt:lP}{gs:List Comprehension}{sc:Scope}{x:Str}{p:Pos}{env:PySem.Env}{n:Nat}:∃b,swapsWith (.ListComp elt gs sc pos) (vj (.Name x p)) n env=pure b:=⟨_,rfl⟩
theorem zgU_ {f:Str}{n:Nat}:swapsWith e (vj (.Attribute o f p)) n Z.env=pure vn:=by cases e<;>rfl
theorem zh6_ {i:lP}{n:Nat}:swapsWithSole [.Subscript o i p] e n Z.env=pure vn:=by cases e<;>rfl
theorem zpn_ {i:lP}(h:noSl i=vm)(v:aV):assign (.Subscript o i p) Z.env v=(do
   let ov <- holding [v] (eval o Z.env)
   let iv <- holding [v,ov] (eval i Z.env)
   standAt p
   holding [v,ov,iv] (setItem ov iv v)
   release [v,ov,iv] []):=by
 cases i<;>first |rfl |cases h
theorem zq6_ (fo:T.Ok G Z.K Z.mg)(g:Cq Z c k E){i:Nat}{y:Y}{q:Pos}(fs:AllH Z k y.fcs)(h1:tgB c i o=vm)(h2:(noCmp e ||y.isC)=vm)(h3:chkY T G c y e=vm):
  PS Z (.Assign [o] e q) (tAsg (y.den Z.K G E) (gName i)):=by
 have hv:=(zbc_ y fo g.toCg fs h3).pe;obtain⟨jv,x,p,rfl⟩:=zkd_ g.toCg g.nd (.inl g.fn) h1;unfold tgB at h1;rw[lj]at h1;have hi:Z.N[i]?=vj x:=by rw[g.N];exact eq_of_beq h1.1
 have hn:Z.N.Nodup:=by rw[g.N];exact g.nd
 have hl:=zl6_ g.toCg h1.2;by_cases hc:noCmp e=vm
 ·exact znw_ hn hi hl hv (zfx_ hc _ _) (.inl (g.fn x))
 ·have hc:noCmp e=vn:=by simpa using hc
  rw[hc,tV]at h2;unfold Y.isC at h2;split at h2
  ·rename_i lv fr ik src tg d z
   obtain⟨t,it,ifs,elt,sc,pos,rfl,cl,S,q1,q2,q3,q4,q5⟩:=zi3_ lv fr ik src tg d z (zhi_ src) (zE_ src) (zfL_ d) (za_ z) fo g.toCg fs h3;obtain⟨b,hb⟩:=zgN_ (elt:=elt) (gs:=[⟨t,it,ifs,0⟩]) (sc:=sc) (pos:=pos) (x:=x) (p:=p) (env:=Z.env) (n:=q.line);cases b with
   |true=>
    exact zhl_ g.calm S q1 q2 q3 q4 jv hb (zcu_ q5)
   |false=>exact znw_ hn hi hl hv hb (.inl (g.fn x))
  ·cases h2
theorem Cq.nox (g:Cq Z c k E):Cq Z.nox c k E0 where
 N:=g.N
 nm:=g.nm
 kind:=g.kind
 calm:=g.calm
 room:=g.room
 pass:=zhB_
 cells:=g.cells
 fn:=g.fn
 nd:=g.nd
 own:=PassesOwn.never
 ex:=g.ex
 stack:=g.stack
theorem zmw_ {body orelse:List mC}{h₀:ExceptHandler}{hs:List ExceptHandler}{tb te:TS}(hb:PSs Z.nox body tb)(hl:PSs Z orelse te):PS Z (.Try body (h₀::hs) orelse [] pos) (tSeq tb te):=by
 intro pins s σ H D I h;refine wpAny_Try_except (m4 (hb pins s σ H _ (I.wish _) h) (λf s1 q=>?_) λe s1 q=>mi q)
 replace q:=q.unwish;cases f with
 |next=>obtain⟨ah,H',I',q⟩:=q;exact hl pins s1 ah H' D I' q
 |ret v=>exact q
 |brk=>exact q
 |cont=>exact q
mutual
theorem zmB_:∀{Z:Cx}{E:XK}(fo:T.Ok G Z.K Z.mg) (g:Cq Z c k E) (s:S) {st:mC},AllH Z k s.fcs->chkS T G c s st=vm->PS Z st (s.den Z.K G E)
 |Z,E,fo,g,.asg i y,st,fs,h=>by
  apply sA_ h;intro o e q h;simp only[lj]at h;exact zq6_ fo g fs h.1.1 h.1.2 h.2
 |Z,E,fo,g,.setF p n x,st,fs,h=>by
  apply sA_ h;intro o e q h;apply kA_ h;intro o f r h;simp only[lj]at h;cases eq_of_beq h.1.1.1;have ha:=(za_ p.x fo g.toCg fs.l h.1.2).pe;have hv:=(za_ x fo g.toCg fs.r h.2).pe;intro pins s σ H D I q;obtain⟨d,hd,q⟩:=q;exact zmL_ (fo.cls d hd) (fo.at_ d hd _ (by simpa using h.1.1.2)) ha hv zgU_ pins s σ H D I q
 |Z,E,fo,g,.setI p k x,st,fs,h=>by
  apply sA_ h;intro o e q h;apply kS_ h;intro o i r h;simp only[lj]at h;exact zqT_ (za_ x fo g.toCg fs.r.r h.2).pe (zpZ_ (za_ p.x fo g.toCg fs.l h.1.1.2).pe (za_ k fo g.toCg fs.r.l h.1.2).pe (set_A g.units) (zpn_ h.1.1.1)) zh6_ zf3_
 |Z,E,fo,g,.ex y,st,fs,h=>by
  apply sE_ h;intro e q h;simp only[lj]at h;exact zmi_ (zbc_ y fo g.toCg fs h.2).pe (zfx_ h.1 _ _)
 |Z,E,fo,g,.ret y,st,fs,h=>by
  apply sR_ h;intro e q h;cases e with
  |none=>cases h
  |some e=>exact zmy_ (zbc_ y fo g.toCg fs h).pe
 |Z,E,fo,g,.retN,st,fs,h=>by
  apply sR_ h;intro e q h;cases ou.mp h;exact zn4_
 |Z,E,fo,g,.if_ d a b,st,fs,h=>by
  apply sI_ h;intro e x y q h;simp only[lj]at h;exact zjG_ ((za_ d fo g.toCg fs.l h.1.1.2).pt h.1.1.1) (zA_ fo g a fs.r.l h.1.2) (zA_ fo g b fs.r.r h.2)
 |Z,E,fo,g,.ifL d a b,st,fs,h=>by
  apply sI_ h;intro e x y q h;simp only[lj]at h;exact zjG_ (zpA_ (za_ d fo g.toCg fs.l h.1.1.2).pe (zc7_ h.1.1.1)) (zA_ fo g a fs.r.l h.1.2) (zA_ fo g b fs.r.r h.2)
 |Z,E,fo,g,.ifY d a b,st,fs,h=>by
  apply sI_ h;intro e x y q h;simp only[lj]at h;exact zjG_ ((zbc_ d fo g.toCg fs.l h.1.1.2).pt h.1.1.1) (zA_ fo g a fs.r.l h.1.2) (zA_ fo g b fs.r.r h.2)
 |Z,E,fo,g,.for_ ik src tg b,st,fs,h=>by
  apply sF_ h;intro t it x q h;simp only[lj]at h;exact zoO_ g.own g.calm (zlm_ fo g.toCg (znG_ h.1.1.2) h.1.2 (zhi_ src fo g.toCg fs.l) λes z=>⟨zE_ src fo g.toCg fs.l z,(zq_ z).1⟩) (tg_ok g.toCg g.nd (.inl g.fn) h.1.1.2) (zA_ fo g b fs.r h.2) (zcu_ h.1.1.1)
 |Z,E,fo,g,.pass,st,fs,h=>by
  rcases(oB _ _).mp h with h |h
  ·apply sP_ h;intro q;exact zlG_
  ·apply sE_ h;intro e q h
   apply kK_ h;intro d n p h;cases d<;>first |exact zqJ_ |cases h
 |Z,E,fo,g,.cont,st,fs,h=>by
  apply sC_ h;intro q;exact ze9_
 |Z,E,fo,g,.never,st,fs,h=>zkQ_
 |Z,E,fo,g,.try0 b ba,st,fs,h=>by
  apply sT_ h;intro x a r y q h;simp only[lj]at h;have hb:=zA_ (Z:=Z.nox) (E:=E0) fo g.nox b fs.l h.1;have hl:=zA_ fo g ba fs.r h.2;exact(show PS Z _ (tSeq (S.dens Z.K G E0 b) (S.dens Z.K G E ba))from zmw_ hb hl)
theorem zA_:∀{Z:Cx}{E:XK}(fo:T.Ok G Z.K Z.mg) (g:Cq Z c k E) (ss:List S) {st:List mC},AllH Z k (S.fcss ss)->chkSs T G c ss st=vm->PSs Z st (S.dens Z.K G E ss)
 |Z,E,fo,g,[],st,fs,h=>by
  unfold chkSs at h;rw[S.dens,mm.mp h];exact zjc_
 |Z,E,fo,g,s::ss,st,fs,h=>by
  apply sc_ h;intro a t h;simp only[lj]at h;exact zgb_ (zmB_ fo g s fs.l h.1) (zA_ fo g ss fs.r h.2)
end
end
theorem zdN_ {α:Type}{p:α->Prop}:∀x∈([]:List α),p x:=λ_ h=>by cases h
theorem zf_ {α:Type}{p:α->Prop}{a:α}{l:List α}(h:p a)(t:∀x∈l,p x):∀x∈a::l,p x:=λx hx=>by
 rcases lQ.mp hx with rfl |hx
 ·exact h
 ·exact t x hx
theorem ftt_u {K:mh}{x:Str}{xs:List (List Nat)}(h:FtT K x xs):SqU K (gA K x) (xs.map tx):=by
 rcases h (λ_=>vk)with h |h
 ·rcases h with h |⟨_,h⟩<;>cases h
 ·exact h
noncomputable def AllF (Φ:Fc->Prop):List Fc->Prop
 |[]=>True
 |φ::l=>Φ φ/\AllF Φ l
theorem AllF.mem {Φ:Fc->Prop}:∀{l:List Fc},AllF Φ l->∀φ∈l,Φ φ
 |[],_,_,h=>by cases h
 |ψ::l,h,φ,hm=>by
  rcases lQ.mp hm with rfl |hm
  ·exact h.1
  ·exact AllF.mem h.2 φ hm
section
variable {P:l5}{w:mx}{K:mR}{mg:Str->Option aV}{base:Heap}{x q:Str}{st:mC}{N ps:List Str}{k:Nat}{T:Ft}{G:Gi}{body:List S}
theorem zpx_ (S:FnScope N ps (defScope st)){f:lE}{ae:aV}{A:my}{outer:List PySem.Env}{s:lu}{H:Hp}{E:XK}(hr:Room k (A.deeper (envOfC q (defScope st) s.heap.objs.size f ae))):
  Cq (cxOf CX0 P w K mg base N q (defScope st) f ae A outer s H E) ⟨N,(defScope st).names⟩ k E where
 N:=rfl
 nm:=rfl
 kind:=S.kind
 calm:=rfl
 room:=hr
 pass:=zhB_
 cells:=λx hx=>by
  rcases hx with hx |hx
  ·exact zeh_ hx
  ·exact absurd rfl (S.nofree _ (mF hx))
 fn:=λ_=>rfl
 nd:=S.nd
 own:=PassesOwn.leaving
 ex:=rfl
 stack:=⟨rfl,rfl⟩
theorem zfI_ {n m:Nat}{vs:List V}{H:Hp}{Q:VK}{E:XK}(h:CtG K (fnOf G n m body) vs H Q E):vs.length=n:=by
 obtain⟨F,h,ds,hs,dj,sh,os,fin⟩:=h;unfold fnOf at fin;split at fin
 ·rename_i hd
  rw[<- ODs.len os,hd]
 ·exact fin.elim
theorem _root_.L2.Fun.ok0 {f:lE}{fd:mW}{sp:Sp}(F:Fun K x q st f fd)(S:FnScope N ps (defScope st))(len:∀vs H Q E,sp vs H Q E->vs.length=ps.length)
  (hb:∀(ae:aV) (A:my) (outer:List PySem.Env) (s:lu) (H:Hp) (vs:List V) (Q:VK) (E:XK),Room k (A.deeper (envOfC q (defScope st) s.heap.objs.size f ae))->sp vs H Q E ->
   ∃t,PSs (cxOf CX0 P w K mg base N q (defScope st) f ae A outer s H E) (defBody st) t/\t {nx:=λ_ H'=>Q .non H',rt:=Q} (start N vs) H):FnOk P w K mg base CX0 (k+1) f fd ps sp:=by
 obtain⟨oc,od,kV,doc,pm,an,ae,ct,aq,rfl,lk,aC⟩:=F.ex;exact zqs_ lk aC S len (hb ae)
theorem _root_.L2.FunD.ok0 {f:lE}{fd:mW}{sp:Sp}{T:lE}(F:FunD K T x q st f fd)(S:FnScope N ps (defScope st))(len:∀vs H Q E,sp vs H Q E->vs.length=ps.length)
  (hb:∀(ae:aV) (A:my) (outer:List PySem.Env) (s:lu) (H:Hp) (vs:List V) (Q:VK) (E:XK),Room k (A.deeper (envOfC q (defScope st) s.heap.objs.size f ae))->sp vs H Q E ->
   ∃t,PSs (cxOf CX0 P w K mg base N q (defScope st) f ae A outer s H E) (defBody st) t/\t {nx:=λ_ H'=>Q .non H',rt:=Q} (start N vs) H):FnOk P w K mg base CX0 (k+1) f fd ps sp:=by
 obtain⟨oc,od,kV,doc,pm,an,ae,ct,aq,rfl,lk,aC⟩:=F.ex;exact zqs_ lk aC S len (hb ae)
theorem okV {n m:Nat}(g0:G.Ok K)(fo:T.Ok G K mg)(fs:AllF (Fc.H P w K mg base k) (S.fcss body))(hc:chkSs T G ⟨N,(defScope st).names⟩ body (defBody st)=vm)
  (S:FnScope N ps (defScope st)) (b:Bnd K x q st ps) (hp:ps.length=n) (hm:N.length=n+m):OkF P w K mg base CX0 (k+1) x q st ps (CtG K (fnOf G n m body)):=λf fd F=>
 ⟨F.ok0 S (λvs H Q E h=>(zfI_ h).trans hp.symm) λae A outer s H vs Q E hr h=>⟨VI.S.dens K G E body,zA_ fo (zpx_ S hr) body fs.mem hc,zkm_ g0 hm vs H Q E h⟩,b f fd F⟩
theorem okVD {n m:Nat}(g0:G.Ok K)(fo:T.Ok G K mg)(fs:AllF (Fc.H P w K mg base k) (S.fcss body))(hc:chkSs T G ⟨N,(defScope st).names⟩ body (defBody st)=vm)
  (S:FnScope N ps (defScope st)) (hp:ps.length=n) (hm:N.length=n+m):OkFD P w K mg base CX0 (k+1) x q st ps (CtG K (fnOf G n m body)):=λT f fd F=>
 F.ok0 S (λvs H Q E h=>(zfI_ h).trans hp.symm) λae A outer s H vs Q E hr h=>⟨VI.S.dens K G E body,zA_ fo (zpx_ S hr) body fs.mem hc,zkm_ g0 hm vs H Q E h⟩
noncomputable abbrev X.n (i:Int):X:=.k (.int i)
abbrev X.i (a:X)(n:Int):X:=.bin .ix a (.k (.int n))
abbrev GG (P:l5)(w:mx)(K:mh)(mg:Str->Option aV)(base:Heap)(k:Nat)(x:Str)(ps:List Str)(f:Fn):Prop:=Gd P w K mg base CX0 k x ps (CtG K f)
theorem fkc {j:Nat}{f:Fn}(g:GG P w K mg base j x ps f)(h:j<=k:=by decide):Fc.H P w K mg base k (.call f x):=⟨ps,j,h,g⟩
theorem okW {n m:Nat}(g0:G.Ok K)(fo:T.Ok G K mg)(fs:AllF (Fc.H P w K mg base k) (S.fcss body))(hc:chkSs T G ⟨N,(defScope st).names⟩ body (defBody st)=vm:=by decide +kernel)
  (S:FnScope N ps (defScope st):=by exact⟨rfl,rfl,rfl,by decide +kernel,rfl,by decide +kernel,by decide +kernel⟩)
  (b:Bnd K x q st ps:=by first |exact λ_ _ F=>Fun.binds1 rfl F λ_ _ _ _ _ _ _=>rfl |exact λ_ _ F=>Fun.binds2 rfl F λ_ _ _ _ _ _ _ _=>rfl |exact λ_ _ F=>Fun.binds3 rfl F λ_ _ _ _ _ _ _ _ _=>rfl |exact λ_ _ F=>Fun.binds4 rfl F λ_ _ _ _ _ _ _ _ _ _=>rfl)
  (hp:ps.length=n:=by rfl) (hm:N.length=n+m:=by rfl):OkF P w K mg base CX0 (k+1) x q st ps (CtG K (fnOf G n m body)):=okV g0 fo fs hc S b hp hm
def lamB (c:Ck)(sc:Scope)(p:Str)(fr:List (Str×Nat)):Bool:=
 sc.names.all (λy=>y.2 != .cell && (y.2 != .free ||c.nm.lookup y.1 == vj .cell ||c.nm.lookup y.1 == vj .free)) && sc.kind == .function && !sc.isCoroutine && !sc.isGenerator && sc.names.lookup p == vj .local &&
 fr.all λq=>c.N[q.2]? == vj q.1 && sc.names.lookup q.1 == vj .free && (c.nm.lookup q.1 == vj .cell ||c.nm.lookup q.1 == vj .free)
theorem zis_ {Z:Cx}{c:Ck}{E:XK}{sc:Scope}{p:Str}{fr:List (Str×Nat)}(g:Cg Z c k E)(h:lamB c sc p fr=vm):∃cl,LScope Z sc cl p fr:=by
 unfold lamB at h;simp only[lj]at h;obtain⟨⟨⟨⟨⟨h1,h2⟩,h3⟩,h4⟩,h5⟩,h6⟩:=h;have h1:=mG.mp h1;have hc:∀y∈sc.names,y.2≠.cell:=λy hy=>by have:=h1 y hy;simp at this;exact this.1
 have hf:∀y∈sc.names,y.2=.free->c.nm.lookup y.1=vj .cell\/c.nm.lookup y.1=vj .free:=λy hy z=>by
  have:=h1 y hy;simp[z]at this;exact this
 obtain⟨cl,aT⟩:=zbp_ (cells:=Z.env.cells) sc.names [] λy hy z=>g.cells _ (hf y hy z)
 refine⟨cl,aT,hc,eq_of_beq h2,by simpa using h3,by simpa using h4,eq_of_beq h5,λq hq=>?_⟩
 have:=mG.mp h6 q hq;simp at this;unfold p5;rw[g.N,g.nm];exact⟨this.1.1,this.1.2,this.2⟩
theorem zp0_ {Z:Cx}{c:Ck}{E:XK}{sc:Scope}{cl:List (Str×lE)}{p qu:Str}{fr:List (Str×Nat)}{f:lE}{ae:aV}{s2:lu}{H2:Hp}(g:Cg Z c (k+1) E)(S:LScope Z sc cl p fr):Cg (cxLam Z Z.A.in1.in1 qu sc cl f ae (p::fr.map (·.1)) s2 H2) ⟨p::fr.map (·.1),sc.names⟩ k E0:=
 ⟨rfl,rfl,S.kind,rfl,⟨g.room.hd,by have:=g.room.dp;show Z.A.depth+1+3*k+5<_;lia,by have:=g.room.un;show Z.A.units+1+1+3+16*k+200<_;lia⟩,zhB_,λx hx=>by
  rcases hx with z |z
  ·exact absurd rfl (S.cell _ (mF z))
  ·exact z4_ sc.names [] cl S.clos x (.inl (mF z))⟩
theorem zoW_ {n m:Nat}{p y:Str}{fr:List (Str×Nat)}{i:Nat}{e:X}{p0 p1 cZ bP pos f9:Pos}{params:Arguments}{bQ:lP}{sc:Scope}(M:Mgo K mg)(F:Fg K "put_in_order" st)(hl:L2.Fl K bP)(g0:G.Ok K)(fo:T.Ok G K mg)(fs:AllF (Fc.H P w K mg base k) e.fcs)
  (hb:defBody st=[.Return (vj (.Call (.Name "sorted" p0) [.Name y p1] [⟨vj "key",.Lambda params bQ sc bP,cZ⟩] pos)) f9]:=by rfl)
  (h1:lamB ⟨N,(defScope st).names⟩ sc p fr=vm:=by decide +kernel) (h2:chkE T G ⟨p::fr.map (·.1),sc.names⟩ e bQ=vm:=by decide +kernel) (h3:(chkE T G ⟨N,(defScope st).names⟩ (.v i) (.Name y p1) && glB ⟨N,(defScope st).names⟩ "sorted" && T.bs.contains "sorted")=vm:=by decide +kernel)
  (h6:∀env,defaultsOf params env=([],[]):=by exact λ_=>rfl) (h7:∀q cl pm c' aD u,bindArgs (qo "<lambda>" q params bQ sc cl pm (.ref c') aD) ⟨[u],[]⟩=pure [(p,u)]:=by exact λ_ _ _ _ _ _=>rfl)
  (S:FnScope N ps (defScope st):=by exact⟨rfl,rfl,rfl,by decide +kernel,rfl,by decide +kernel,by decide +kernel⟩) (b:Bnd K "put_in_order" "put_in_order" st ps:=by exact λ_ _ F=>Fun.binds2 rfl F λ_ _ _ _ _ _ _ _=>rfl) (hp:ps.length=n:=by rfl) (hm:N.length=n+m:=by rfl):
  GG P w K mg base (k+2) "put_in_order" ps (fnOf G n m [.ret (.pu (.srt p fr i e))]):=by
 obtain⟨_,X,N'⟩:=M;obtain⟨f,e',i'⟩:=F;obtain⟨fd,F⟩:=i'.fun_;have gV:=b f fd F;have kp:=F.kp;obtain⟨c,Pt,t1,t2,t3⟩:=hl;obtain⟨oc,od,kV,doc,pm,an,ae,ct,aq,rfl,lk,aC⟩:=F.ex;have ec:ae=.ref c:=W.law_code X N' t1 (sx X N' e') (X _ _ lk) rfl;subst ec;simp only[lj]at h3;refine⟨f,_,zqs_ lk aC S (λvs H Q E h=>(zfI_ h).trans hp.symm) (λA outer s H vs Q E hr h=>⟨_,?_,zkm_ g0 hm vs H Q E h⟩),sx X N' e',kp,gV⟩
 have g:=(zpx_ (P:=P) (w:=w) (K:=K) (mg:=mg) (base:=base) (outer:=outer) (H:=H) (E:=E) S hr).toCg;obtain⟨cl,L⟩:=zis_ g h1;rw[hb];refine zgb_ (zmy_ ?_) zjc_
 exact zlc_ L hr.hd (by have:=hr.dp;exact r9 (sY _ (3*(k+1)+5)) (by rw[<- Nat.add_assoc];exact this)) (by have:=g.units;lia) rfl t2 t3 (fo.bs _ (by simpa using h3.2)) (zgD_ g h3.1.2).1 (za_ (.v i) fo g (λφ cD=>by cases cD) h3.1.1).pe (h6 _) (h7 _ cl)
  λf ae s2 H2=>(za_ e fo (zp0_ g L) fs.mem h2).pe
theorem fkd {j:Nat}{f:Fn}{dv:List D}(g:GkD P w K mg base CX0 j x (gA K x) ps ((flats dv).getD []) (CtG K f))(h:j+1<=k:=by decide):Fc.H P w K mg base k (.mkd f x dv):=⟨ps,j,h,g⟩
theorem bnd5 {T f:lE}{fd:mW}{arr:Array aV}{n:Nat}{oc:aV}{od:Option lE}{aq:Array (Option aV)}(hp:ps.length=10)(F:FunD K T x q st f fd)(lT:K.lookup T=vj ⟨oc,od,.seq arr n,aq⟩)(hl:arr.toList.length=5)
  (h:∀(d0 d1 d2 d3 d4:aV) (kV doc pm:aV) (an:Option lE) (ae ct:aV) (u0 u1 u2 u3 u4:aV) (s:lu),(∃o,s.heap.get? T=vj o/\o.data=.seq #[d0,d1,d2,d3,d4] n)->BindsTo s (W.fnOf x q (defArgs st) (defBody st) (defScope st) (.ref T) kV doc pm an ae ct) ⟨[u0,u1,u2,u3,u4],[]⟩ (ps.zip [u0,u1,u2,u3,u4,d0,d1,d2,d3,d4])):Binds K fd ps (arr.toList.drop 0):=by
 obtain⟨d0,d1,d2,d3,d4,rfl⟩:=arr5 hl;exact zj0_ hp F lT (h d0 d1 d2 d3 d4)
theorem FnOk.cx0 {f:lE}{fd:mW}{sp iy:Sp}(F:FnOk P w K mg base CX0 k f fd ps sp)(h:∀vs H Q E,iy vs H Q E->sp vs H Q E0):FnOk P w K mg base CX0 k f fd ps iy:=by
 refine⟨λvs H Q E q=>F.len _ _ _ _ (h _ _ _ _ q),λA outer s H args us vs Q E hr e0 hb r q=>codeAny_mono (F.run A outer s H args us vs Q E0 hr e0 hb r (h _ _ _ _ q)) λr s' z=>?_⟩
 cases r with
 |ok fl=>cases fl<;>exact z
 |error e=>exact z.elim
theorem zfu_:∀(ns:List Int) {H:Hp},DRs K (ns.map D.int) (ns.map V.int) H
 |[],_=>by unfold DRs;rfl
 |n::ns,H=>by rw[lB,lB];unfold DRs;exact⟨_,_,rfl,by unfold DR;rfl,zfu_ ns⟩
noncomputable def scr (ns:List Int):D:=.fz (.nd .scr (ns.map .int))
theorem zoa_ {f:Fn}(hf:∀ns:List Int,ns.length<=63->BitsOk ns->f.val [scr ns]=.ok (.bl vm)):∀vs H Q E,spL K vs H Q E->CtG K f vs H Q E0:=by
 rintro vs H Q E ⟨a,ns,rfl,hS,hl,hb,q⟩;refine zfC_ (ds:=[.nd .scr (ns.map .int)]) (Same.refl H) ?_ ?_
 ·unfold DRs;exact⟨_,_,rfl,by unfold DR;exact⟨a,_,rfl,hS,zfu_ ns⟩,by unfold DRs;rfl⟩
 ·have:[D.nd .scr (ns.map .int)].map D.vw=[scr ns]:=by
   unfold D.vw scr D.imm;rfl
  rw[this,hf ns hl hb];rintro F' H' x v h fresh d s o;have o:(∀p,h p=vk)/\DR K (.bl vm) v F':=by
   have o:OD K (.bl vm) v F' h:=o;unfold OD at o;exact o
  cases o.2.bl;exact q H'
theorem okLV {fa:lE}{fd:mW}{f:Fn}(F:FnOk P w K mg base CX0 k fa fd ps (CtG K f))(hf:∀ns:List Int,ns.length<=63->BitsOk ns->f.val [scr ns]=.ok (.bl vm)):FnOk P w K mg base CX0 k fa fd ps (spL K):=FnOk.cx0 F (zoa_ hf)
end
section
variable {G:Gi}{pn:Nat->Bool}{env e:Env}{ss a b:List S}{y:Y}{c:X}{d:D}{i:Nat}{ds:List D}
theorem rf_ {α:Type}{a:α}:a=a:=of_eq_true (eq_self a)
theorem zft_ (r:Mr Env Fl)(f g:Env->Mr Env Fl):seqM (seqM r f) g=seqM r λe=>seqM (f e) g:=by
 cases r with
 |ok o e=>cases o<;>rfl
 |ex c e=>rfl
 |no=>rfl
theorem zkR_:∀(a:List S) (env:Env),seqM (S.runs G pn a env) (λe=>S.runs G pn b e)=S.runs G pn (a++b) env
 |[],env=>by rw[S.runs];rfl
 |s::a,env=>by
  rw[mK,S.runs,S.runs,zft_];congr 1;funext e;exact zkR_ a e
theorem zj9_ (h:y.ev G env=.ok d e)(hp:pn i=vn)(hi:i<e.length):S.runs G pn (.asg i y::ss) env=S.runs G pn ss (e.set i (vj d)):=by
 rw[S.runs,S.run,h];show seqM (if pn i=vn/\i<e.length then .ok .nx (e.set i (vj d))else .no) _=_
 rw[if_pos ⟨hp,hi⟩];rfl
theorem zoM_ (h:y.ev G env=.ok d e):S.runs G pn (.ex y::ss) env=S.runs G pn ss e:=by
 rw[S.runs,S.run,h];rfl
theorem zk0_ (h:y.ev G env=.ok d e):S.runs G pn (.ret y::ss) env=.ok (.rt d) e:=by
 rw[S.runs,S.run,h];rfl
theorem zpk_ (h:(c.ev G env).bind blD=.ok vm):S.runs G pn (.if_ c a b::ss) env=S.runs G pn (a++ss) env:=by
 rw[S.runs,S.run,h,<- zkR_];rfl
theorem zf1_ (h:(c.ev G env).bind blD=.ok vn):S.runs G pn (.if_ c a b::ss) env=S.runs G pn (b++ss) env:=by
 rw[S.runs,S.run,h,<- zkR_];rfl
theorem zcT_ (h:D.colds ds=vm)(i:Nat):pins ds i=vn:=by
 unfold pins;induction ds generalizing i with
 |nil=>rfl
 |cons d ds ih=>
  unfold D.colds at h;rw[lj]at h;cases i with
  |zero=>show(!d.cold)=vn;rw[h.1];rfl
  |succ i=>exact ih h.2 i
theorem zbg_:∀{ds:List D}{env:Env},D.colds ds=vm->outs ds env=ds
 |[],_,_=>by unfold outs;rfl
 |d::ds,[],h=>by
  unfold D.colds at h;rw[lj]at h;unfold outs;rw[if_pos h.1,zbg_ h.2]
 |d::ds,o::env,h=>by
  unfold D.colds at h;rw[lj]at h;unfold outs;rw[if_pos h.1,zbg_ h.2]
theorem zkG_ {f:Fn}{ds':List D}(h:f ds=.ok d ds'):f.val ds=.ok d:=by unfold Fn.val;rw[h]
theorem zfj_ (ns:List Int):(scr ns).vw=scr ns:=by unfold scr D.vw D.imm;rfl
theorem zrx_ (i:Int):(D.int i).vw=.int i:=rfl
theorem zpe_ (l:List Nat):(D.str l).vw=.str l:=rfl
theorem bl_vw (b:Bool):(D.bl b).vw=.bl b:=rfl
theorem zqB_:D.non.vw=.non:=rfl
theorem zg5_ (ns:List Int):lenA [scr ns]=.ok (.int ns.length):=by
 show Mo.ok (D.int ((ns.map D.int).length:Nat))=_
 rw[lq]
theorem zhC_ {α:Type}{l:List α}{i:Int}{a:α}(h0:0<=i)(h:l[i.toNat]?=vj a):atI l i=vj a:=by
 have hi:=(lO.mp h).1;unfold atI ixN;rw[if_pos h0,if_pos (by omega)]
 exact h
section
variable (i j:Int)
theorem vd_lt:ltD (.int i) (.int j)=.ok (.bl (decide (i<j))):=rfl
theorem vd_le:leD (.int i) (.int j)=.ok (.bl (decide (i<=j))):=rfl
theorem vd_gt:gtD (.int i) (.int j)=.ok (.bl (decide (j<i))):=rfl
theorem vd_ge:geD (.int i) (.int j)=.ok (.bl (decide (j<=i))):=rfl
theorem zoP_:addA (.int i) (.int j)=.ok (.int (i+j)):=rfl
theorem zq2_:subD (.int i) (.int j)=.ok (.int (i-j)):=rfl
theorem zo2_:negD (.int i)=.ok (.int (-i)):=rfl
theorem vd_bl (b:Bool):blD (.bl b)=.ok b:=rfl
theorem vd_int:intD (.int i)=.ok i:=rfl
theorem zrb_ (l:List Nat):strOf (.str l)=.ok l:=rfl
end
theorem vd_mod {i j:Int}(h:0<j):modD (.int i) (.int j)=.ok (.int (i % j)):=by
 show Mo.grd _ _=_
 exact if_pos h
theorem zqr_ {i j:Int}(h:CDivG i j):divD (.int i) (.int j)=.ok (.int (i / j)):=by
 show Mo.grd _ _=_
 exact if_pos h
theorem zm9_ {i j:Int}(h:IntMulOk i j):mulD (.int i) (.int j)=.ok (.int (i*j)):=by
 show Mo.grd _ _=_
 exact if_pos h
theorem vd_ix {ns:List Int}{k:Int}(h0:0<=k)(h:k<ns.length):ixA (scr ns) (.int k)=.ok (.int (ns.getD k.toNat 0)):=by
 show Mo.opt ((atI (ns.map D.int) k).map D.vw)=_
 have hk:k.toNat<ns.length:=by lia
 rw[zhC_ h0 (a:=.int (ns.getD k.toNat 0)) (by rw[lK,lA hk];simp[lZ,hk])]
 rfl
end
section
variable {α β s:Type}{G:Gi}{pn:Nat->Bool}{env e:Env}{d x y:D}
theorem zcf_ (g:Env->Mr Env Fl):seqM (.ok .nx e) g=g e:=of_eq_true (eq_self _)
theorem zpz_ (g:Env->Mr Env Fl):seqM (.ok (.rt d) e) g=.ok (.rt d) e:=of_eq_true (eq_self _)
theorem sq_ct (g:Env->Mr Env Fl):seqM (.ok .ct e) g=.ok .ct e:=of_eq_true (eq_self _)
theorem sq_ex (c:Xc)(g:Env->Mr Env Fl):seqM (.ex c e) g=.ex c e:=of_eq_true (eq_self _)
theorem ziv_ (a:α)(t:s)(k:α->s->Mr s β):(Mr.ok a t).bind k=k a t:=of_eq_true (eq_self _)
theorem mr_ex (c:Xc)(t:s)(k:α->s->Mr s β):(Mr.ex c t:Mr s α).bind k=.ex c t:=of_eq_true (eq_self _)
theorem zcC_ (a:α)(k:α->Mo β):(Mo.ok a).bind k=k a:=of_eq_true (eq_self _)
theorem zn6_ (a:α):Mo.opt (vj a)=.ok a:=of_eq_true (eq_self _)
theorem ifM_t (r1 r2:Mr Env Fl):ifM env (.ok vm) r1 r2=r1:=of_eq_true (eq_self _)
theorem ifM_f (r1 r2:Mr Env Fl):ifM env (.ok vn) r1 r2=r2:=of_eq_true (eq_self _)
theorem and_t (r:Mo D):andD (.bl vm) r=r:=of_eq_true (eq_self _)
theorem and_f (r:Mo D):andD (.bl vn) r=.ok (.bl vn):=of_eq_true (eq_self _)
theorem or_t (r:Mo D):orD (.bl vm) r=.ok (.bl vm):=of_eq_true (eq_self _)
theorem or_f (r:Mo D):orD (.bl vn) r=r:=of_eq_true (eq_self _)
theorem noE (o:Fl):noEx (.ok o e)=.ok o e:=of_eq_true (eq_self _)
theorem ag_d (d:D)(gs:List Ag):dsOf (.d d::gs)=(dsOf gs).map λds=>d::ds:=of_eq_true (eq_self _)
theorem ag_0:dsOf []=vj []:=of_eq_true (eq_self _)
theorem znx_ (i:Nat)(hp:pn i=vn)(hi:i<e.length):asgM pn i (.ok d e)=.ok .nx (e.set i (vj d)):=by
 unfold asgM;rw[ziv_,if_pos ⟨hp,hi⟩]
theorem zre_:dropM (.ok d e)=.ok .nx e:=of_eq_true (eq_self _)
theorem zpM_:retM (.ok d e)=.ok (.rt d) e:=of_eq_true (eq_self _)
theorem get_0 (l:Env):getE (vj d::l) 0=.ok d.vw:=of_eq_true (eq_self _)
theorem get_s (o:Option D)(l:Env)(n:Nat):getE (o::l) (n+1)=getE l n:=of_eq_true (eq_self _)
theorem mv_0 (l:Env):mvM (vj d::l) 0=.ok d (vk::l):=of_eq_true (eq_self _)
theorem mv_s (o:Option D)(l:Env)(n:Nat):mvM (o::l) (n+1)=match mvM l n with |.ok d e=>.ok d (o::e)|.ex c e=>.ex c (o::e)|.no=>.no:=by
 unfold mvM;rw[nr]
 match l[n]? with
 |some (vj d)=>rfl
 |some vk=>rfl
 |none=>rfl
def keep (m:Mo D)(env:Env)(u:List Nat):Mr Env D:=match m with
 |.ok d=>if d.new then .ok d env else .ok d (frzE env u)
 |.ex c=>.ex c env
 |.no=>.no
theorem zic_ (x:X):stX G env x=keep (x.ev G env) env x.uses:=rfl
theorem zF_ (u:List Nat)(hn:d.new=vm):keep (.ok d) env u=.ok d env:=if_pos hn
theorem zmW_ (u:List Nat)(hn:d.new=vn):keep (.ok d) env u=.ok d (frzE env u):=if_neg (by rw[hn];decide)
section
variable (neg:Bool)(lo hi:Option Int)
theorem fz_ix:ixA (.fz d) x=ixA d x:=of_eq_true (eq_self _)
theorem fz_in:inA neg x (.fz d)=inA neg x d:=of_eq_true (eq_self _)
theorem zo1_:lenA [.fz d]=lenA [d]:=of_eq_true (eq_self _)
theorem zlN_:addA (.fz d) x=addA d x:=of_eq_true (eq_self _)
theorem zml_:addA x (.fz d)=addA x d:=of_eq_true (eq_self _)
theorem fz_sl:slA (.fz d) lo hi=slA d lo hi:=of_eq_true (eq_self _)
theorem zqC_ (cs:List Str)(f:Str):fldD cs f (.fz d)=fldD cs f d:=of_eq_true (eq_self _)
theorem zmj_:listA [.fz d]=listA [d]:=of_eq_true (eq_self _)
theorem znL_:walkA [.fz d]=walkA [d]:=of_eq_true (eq_self _)
theorem zqE_:allD [.fz d]=allD [d]:=of_eq_true (eq_self _)
theorem znM_:sortI [.fz d]=sortI [d]:=of_eq_true (eq_self _)
theorem fz_is:isD neg (.fz d) x=isD neg d x:=of_eq_true (eq_self _)
theorem zra_ (n:String):isaD n (.fz d)=isaD n d:=of_eq_true (eq_self _)
theorem fz_bl:blD (.fz d)=blD d:=of_eq_true (eq_self _)
theorem zpE_:intD (.fz d)=intD d:=of_eq_true (eq_self _)
theorem zrr_:revD [.fz d]=revD [d]:=of_eq_true (eq_self _)
theorem fz_rv:rvD (.fz d)=rvD d:=of_eq_true (eq_self _)
theorem zm3_:zipD [.fz d,x]=zipD [d,x]:=of_eq_true (eq_self _)
theorem zng_:zipD [x,.fz d]=zipD [x,d]:=of_eq_true (eq_self _)
theorem zlS_:enumD [.fz d]=enumD [d]:=of_eq_true (eq_self _)
theorem zpP_ (n:Nat):eqT n (.fz d) x=eqT n d x:=by cases n<;>rfl
theorem zja_ (n:Nat):eqT n x (.fz d)=eqT n x d:=by cases n<;>rfl
theorem fz_eq:eqD neg (.fz d) x=eqD neg d x:=by unfold eqD;rw[zpP_]
theorem zqi_:eqD neg x (.fz d)=eqD neg x d:=by unfold eqD;rw[zja_]
theorem fz_vw (h:d.imm=vn):(D.fz d).vw=.fz d:=by unfold D.vw;rw[if_neg];rw[show(D.fz d).imm=d.imm from by rw[D.imm]];rw[h];decide
end
theorem zmr_ (i:Int):X.ev G env (.k (.int i))=.ok (.int i):=rf_
theorem zpu_ (l:List Nat):X.ev G env (.k (.str l))=.ok (.str l):=rf_
theorem xk_bl (b:Bool):X.ev G env (.k (.bl b))=.ok (.bl b):=rf_
theorem zqN_:X.ev G env (.k .non)=.ok .non:=rf_
theorem zri_ (n:Str)(i:Int):X.ev G env (.g n (.int i))=.ok (.int i):=rf_
theorem zpF_ (n:Str)(l:List Nat):X.ev G env (.g n (.str l))=.ok (.str l):=rf_
theorem or_b (a b:Bool):orD (.bl a) (.ok (.bl b))=.ok (.bl (a ||b)):=by cases a<;>rfl
theorem and_b (a b:Bool):andD (.bl a) (.ok (.bl b))=.ok (.bl (a && b)):=by cases a<;>rfl
theorem min_i (i j:Int):minD [.int i,.int j]=.ok (.int (min i j)):=of_eq_true (eq_self _)
theorem zhf_ {i j:Int}(h0:0<j)(h1:j<1073741824):divD (.int i) (.int j)=.ok (.int (i / j)):=zqr_ (zou_ h0 (by lia))
theorem zjl_ {i j:Int}(h0 : -18446744073709551616<i)(h1:i<18446744073709551616):mulD (.int i) (.int j)=.ok (.int (i*j)):=zm9_ (zdm_ (.inl ⟨by lia,by lia⟩))
theorem zlH_ {i j:Int}(h0 : -18446744073709551616<j)(h1:j<18446744073709551616):mulD (.int i) (.int j)=.ok (.int (i*j)):=zm9_ (zdm_ (.inr ⟨by lia,by lia⟩))
theorem nw_bl (b:Bool):(D.bl b).new=vm:=by rw[D.new]<;>simp
theorem zkz_ (i:Int):(D.int i).new=vm:=by rw[D.new]<;>simp
theorem zjQ_ (l:List Nat):(D.str l).new=vm:=by rw[D.new]<;>simp
theorem zrf_:D.non.new=vm:=by rw[D.new]<;>simp
theorem zq4_ (k:Nd)(ds:List D):(D.nd k ds).new=D.news ds:=by rw[D.new]
theorem nw_c (d:D)(ds:List D):D.news (d::ds)=(d.new && D.news ds):=by rw[D.news]
theorem nw_0:D.news []=vm:=by rw[D.news]
section
variable (a b c x:X)(as:List X)
theorem xv_v (i:Nat):X.ev G env (.v i)=getE env i:=rf_
theorem xv_gt (n:Str)(ls:List (List Nat))(h:(n,ls)∈G.kt):X.ev G env (.gt n ls)=.ok (.nd .ktup (ls.map .str)):=by rw[X.ev,if_pos h]
theorem znV_ (o:Bo):X.ev G env (.bin o a b)=(a.ev G env).bind λx=>(b.ev G env).bind λy=>o.f x y:=rf_
theorem xv_ch (o o':Bo):X.ev G env (.ch o o' a b c)=(a.ev G env).bind λx=>(b.ev G env).bind λy=>chD o o' x y (c.ev G env):=rf_
theorem zru_ (o o' aJ:Bo):X.ev G env (.ch3 o o' aJ a b c x)=(a.ev G env).bind λu=>(b.ev G env).bind λy=>ch3D o o' aJ u y (c.ev G env) (x.ev G env):=rf_
theorem zpX_:X.ev G env (.and a b)=(a.ev G env).bind λx=>andD x (b.ev G env):=rf_
theorem xv_or:X.ev G env (.or a b)=(a.ev G env).bind λx=>orD x (b.ev G env):=rf_
theorem zqp_:X.ev G env (.not a)=(a.ev G env).bind λx=>(blD x).bind λb=>.ok (.bl (!b)):=rf_
theorem zpc_:X.ev G env (.neg a)=(a.ev G env).bind negD:=rf_
theorem zpa_:X.ev G env (.ifx c a b)=((c.ev G env).bind blD).bind λt=>if t=vm then a.ev G env else b.ev G env:=rf_
theorem xv_sl (lo hi:Option X):X.ev G env (.sl a lo hi)=(a.ev G env).bind λx=>(X.evO G env lo).bind λl=>(X.evO G env hi).bind λh=>slA x l h:=rf_
theorem zpl_:X.ev G env (.tup as)=(X.evs G env as).bind λds=>.lim ds.length (.ok (.nd .tup ds)):=rf_
theorem zo3_:X.ev G env (.lst as)=(X.evs G env as).bind λds=>.lim ds.length (.ok (.nd .lst ds)):=rf_
theorem zqL_ (f:Str):X.ev G env (.fld a f)=(a.ev G env).bind (fldD G.cs f):=rf_
theorem zlC_ (f:Fn)(n:Str):X.ev G env (.call f n as)=(X.evs G env as).bind λds=>f.val (ds.map .vw):=rf_
theorem xv_bf (o:Bf):X.ev G env (.bf o as)=(X.evs G env as).bind o.f:=rf_
theorem xv_sm (o:Sm):X.ev G env (.sm o a as)=(a.ev G env).bind λd=>(strOf d).bind λl=>(X.evs G env as).bind λc=>o.f l c:=rf_
theorem zoY_ {p:Str}{fr:List (Str×Nat)}{i:Nat}:X.ev G env (.srt p fr i a)=(getE env i).bind λd=>(strL d).bind λls=>.grd (ls.length<64) ((compM (λx=>cond1 (.ok vm) (a.ev G (setE (cE [p] fr env) [0] x))) (ls.map λl=>[D.str l]) []).bind λks=>srtK ls ks):=rf_
theorem zn9_ (f:Fn)(n:Str)(dv:List D):X.ev G env (.mkd f n as dv)=if(flats dv).isSome then(X.evs G env as).bind λds=>makeD f n (ds++dv)else .no:=rf_
theorem zp5_:X.ev G env (.ds1 a b)=(a.ev G env).bind λx=>(b.ev G env).bind λy=>dspD [x,y]:=rf_
theorem znv_ {c d:X}:X.ev G env (.ds2 a b c d)=(a.ev G env).bind λx=>(b.ev G env).bind λy=>(c.ev G env).bind λz=>(d.ev G env).bind λw=>dspD [x,y,z,w]:=rf_
theorem xv_lr:X.ev G env (.lr a b)=(a.ev G env).bind λx=>(b.ev G env).bind λy=>lrD x y:=rf_
theorem zqK_ (n:String):X.ev G env (.isa a n)=(a.ev G env).bind (isaD n):=rf_
theorem zoE_:X.ev G env .dct0=.ok (.nd (.dct []) []):=rf_
theorem xs_0:X.evs G env []=.ok []:=rf_
theorem xs_c:X.evs G env (a::as)=(a.ev G env).bind λd=>(X.evs G env as).bind λds=>.ok (d::ds):=rf_
theorem xo_0:X.evO G env vk=.ok vk:=rf_
theorem xo_s:X.evO G env (vj a)=(a.ev G env).bind λd=>(intD d).bind λi=>.ok (vj i):=rf_
theorem xt_0:X.evT G env vk=.ok vm:=rf_
theorem xt_s:X.evT G env (vj a)=(a.ev G env).bind blD:=rf_
end
def En (r:Mr Env Fl)(Q:Fl->Env->Prop):Prop:=∃o e,r=.ok o e/\Q o e
theorem zcY_ {l:List β}{enc:β->List D}{is:List Nat}{body k:Env->Mr Env Fl}{Q:Fl->Env->Prop}(P:List β->Env->Prop)(h0:P [] env)
  (hs:∀d x r e,l=d++x::r->P d e->∃e',setG pn e is (enc x)=vj e'/\En (body e') λo b_=>((o=.nx\/o=.ct)/\P (d++[x]) b_)\/((∃v,o=.rt v)/\Q o b_))
  (hk:∀e,P l e->En (k e) Q):En (seqM (forM (λe x=>match setG pn e is x with |some e'=>body e' |none=>.no) (l.map enc) env) k) Q:=by
 suffices main:∀(r d:List β) (e:Env),l=d++r->P d e->En (forM (λe x=>match setG pn e is x with |some e'=>body e' |none=>.no) (r.map enc) e) (λo e=>(o=.nx/\P l e)\/((∃v,o=.rt v)/\Q o e)) by
  obtain⟨o,e,h,q⟩:=main l [] env rfl h0;rw[h];rcases q with⟨rfl,q⟩|⟨⟨v,rfl⟩,q⟩
  ·rw[zcf_];exact hk e q
  ·rw[zpz_];exact⟨_,_,rfl,q⟩
 intro r;induction r with
 |nil=>intro d e hl hp;rw[nG]at hl;subst hl;exact⟨.nx,e,rfl,.inl ⟨rfl,hp⟩⟩
 |cons x r ih=>
  intro d e hl hp;obtain⟨e',h1,o,b_,h2,q⟩:=hs d x r e hl hp;rw[lB];unfold forM;simp only[h1,h2];rcases q with⟨h |h,q⟩|⟨⟨v,h⟩,q⟩
  ·subst h;exact ih (d++[x]) b_ (by rw[hl,nC];rfl) q
  ·subst h;exact ih (d++[x]) b_ (by rw[hl,nC];rfl) q
  ·subst h;exact⟨_,_,rfl,.inr ⟨⟨v,rfl⟩,q⟩⟩
theorem ziY_ {l:List β}{enc:β->List D}{ik:Ik}{x:X}{tg:Tg}{b ss:List S}{Q:Fl->Env->Prop}{e1:Env}{items:List D}(P:List β->Env->Prop)(hg:keep (x.ev G env) env x.uses=.ok d e1)(hi:ik.f [d]=.ok items)(ht:tgsD tg items=vj (l.map enc))(h0:P [] e1)
  (hs:∀d x r e,l=d++x::r->P d e->∃e',setG pn e tg.is (enc x)=vj e'/\En (S.runs G pn b e') λo b_=>((o=.nx\/o=.ct)/\P (d++[x]) b_)\/((∃v,o=.rt v)/\Q o b_))
  (hk:∀e,P l e->En (S.runs G pn ss e) Q):En (S.runs G pn (.for_ ik [x] tg b::ss) env) Q:=by
 have e0:evG G env ([x].map .x)=.ok [.d d] e1:=by
  show((stX G env x).bind λd e=>(evG G e []).bind λgs e'=>.ok (.d d::gs) e')=_
  rw[zic_,hg];rfl
 rw[S.runs,S.run,e0];have e1:forS pn ik tg (.ok [.d d] e1) (λe=>S.runs G pn b e)=forM (λe x=>match setG pn e tg.is x with |some e'=>S.runs G pn b e' |none=>.no) (l.map enc) e1:=by
  unfold forS;show(match ik.f [d]with |.ok items=>_ |_=>_)=_
  rw[hi];show(match tgsD tg items with |some xs=>_ |none=>_)=_
  rw[ht]<;>rfl
 rw[e1];exact zcY_ P h0 hs hk
theorem zcg_ {y:Y}{i:Nat}{ss:List S}(h:y.ev G env=.ok d env)(hp:pn i=vn)(hi:Nat.ble (i+1) env.length=vm:=by rfl):S.runs G pn (.asg i y::ss) env=S.runs G pn ss (env.set i (vj d)):=zj9_ h hp (ph hi)
theorem zbE_ {l:List β}{enc:β->List D}{ik:Ik}{x:X}{tg:Tg}{b ss:List S}{Q:Fl->Env->Prop}{items:List D}(P:List β->Env->Prop)(hg:keep (x.ev G env) env x.uses=.ok d env)(hi:ik.f [d]=.ok items)(ht:tgsD tg items=vj (l.map enc))(h0:P [] env)
  (hs:∀d x r e,l=d++x::r->P d e->∃e',setG pn e tg.is (enc x)=vj e'/\En (S.runs G pn b e') λo b_=>((o=.nx\/o=.ct)/\P (d++[x]) b_)\/((∃v,o=.rt v)/\Q o b_))
  (hk:∀e,P l e->En (S.runs G pn ss e) Q):En (S.runs G pn (.for_ ik [x] tg b::ss) env) Q:=ziY_ P hg hi ht h0 hs hk
theorem zda_ {l:List β}{enc:β->D}{i:Nat}{a:Env}{b:Env}{o:Option D}{body k:Env->Mr Env Fl}{Q:Fl->Env->Prop}(hi:a.length=i)(hp:pn i=vn)
  (hs:∀x∈l,En (body (a++vj (enc x).vw::b)) λo e=>o=.nx/\e=a++vj (enc x).vw::b)
  (hk:∀o,En (k (a++o::b)) Q):En (seqM (forM (λe x=>match setG pn e [i] x with |some e'=>body e' |none=>.no) (l.map λx=>[enc x]) (a++o::b)) k) Q:=by
 refine zcY_ (enc:=λx=>[enc x]) (λ_ e=>∃o,e=a++o::b) ⟨o,rfl⟩ (λd x r e hl he=>?_) (λe he=>?_)
 ·obtain⟨o,rfl⟩:=he
  refine⟨a++vj (enc x).vw::b,?_,?_⟩
  ·unfold setG
   rw[if_pos ⟨hp,by rw[lF,lG];lia⟩]
   unfold setG;rw[<- hi,List.set_append_right _ _ (lC _),qZ,oq]
  ·obtain⟨o',e',h1,rfl,rfl⟩:=hs x (by rw[hl];simp)
   exact⟨_,_,h1,.inl ⟨.inl rfl,_,rfl⟩⟩
 ·obtain⟨o,rfl⟩:=he;exact hk o
theorem frz_0 (l:Env):frz1 (vj d::l) 0=vj d.vw::l:=of_eq_true (eq_self _)
theorem frz_n (l:Env):frz1 (vk::l) 0=vk::l:=of_eq_true (eq_self _)
theorem frz_s (o:Option D)(l:Env)(n:Nat):frz1 (o::l) (n+1)=o::frz1 l n:=by
 unfold frz1;rw[nr]
 match l[n]? with
 |some (vj d)=>rfl
 |some vk=>rfl
 |none=>rfl
def atS (env:Env)(i:Nat):Option D:=match env[i]? with |some o=>o |none=>vk
theorem atS_0 (o:Option D)(l:Env):atS (o::l) 0=o:=of_eq_true (eq_self _)
theorem atS_s (o:Option D)(l:Env)(n:Nat):atS (o::l) (n+1)=atS l n:=by unfold atS;rw[nr]
theorem zjg_ (i:Nat):atE env (i,[])=atS env i:=by
 unfold atE atS
 match env[i]? with
 |some (vj d)=>show d.at []=_;rw[D.at]
 |some vk=>rfl
 |none=>rfl
theorem zhY_ {i:Nat}{c c':D}(h:atS env i=vj c):putE env (i,[]) c'=env.set i (vj c'):=by
 unfold putE;unfold atS at h
 match e:env[i]?,h with
 |some (vj d),_=>show env.set i (vj (d.put [] c'))=_;rw[D.put]
def call1 (f:Fn)(i:Nat)(ds:List D)(e:Env):Mr Env D:=match atS e i with
 |some c=>(match f (c::ds)with
  |.ok r (c'::_)=>.ok r (e.set i (vj c'))
  |.ok r []=>.ok r e
  |.ex x (c'::_)=>.ex x (e.set i (vj c'))
  |.ex x []=>.ex x e
  |.no=>.no)
 |none=>.no
def agD (ds:List D):List Ag:=ds.map .d
theorem zot_:∀(ds:List D),resolve e (agD ds)=vj ds
 |[]=>rfl
 |d::ds=>by show(resolve e (agD ds)).map _=_;rw[zot_ ds];rfl
theorem zoi_ (q:Pl):∀(ds:List D),apartOf q (agD ds)=vm
 |[]=>rfl
 |d::ds=>zoi_ q ds
theorem zm5_:∀(ds:List D),apartAll (agD ds)=vm
 |[]=>rfl
 |d::ds=>zm5_ ds
theorem zjP_:∀(ds ds':List D),restE e (agD ds) ds'=e
 |[],ds'=>by cases ds'<;>rfl
 |d::ds,[]=>rfl
 |d::ds,_::ds'=>zjP_ ds ds'
theorem zi9_ {f:Fn}{i:Nat}{ds:List D}:callG f (.l (i,[])::agD ds) e=call1 f i ds e:=by
 unfold callG;show(match(atE e (i,[])).bind λc=>(resolve e (agD ds)).map λds=>c::ds with |some ds'=>_ |none=>_)=_
 rw[zjg_,zot_];unfold call1;cases h:atS e i with
 |none=>rfl
 |some c=>
  show(if(apartOf (i,[]) (agD ds) && apartAll (agD ds))=vm then _ else _)=_
  rw[zoi_,zm5_,if_pos (show(vm && vm)=vm from rfl)]
  dsimp only;cases f (c::ds)with
  |no=>rfl
  |ok r ds'=>
   cases ds' with
   |nil=>rfl
   |cons c' ds'=>show Mr.ok r (putE (restE e (agD ds) ds') (i,[]) c')=_;rw[zjP_,zhY_ h]
  |ex x ds'=>
   cases ds' with
   |nil=>rfl
   |cons c' ds'=>show Mr.ex x (putE (restE e (agD ds) ds') (i,[]) c')=_;rw[zjP_,zhY_ h]
def onS (T:String)(env:Env)(i:Nat)(m:Mr Env D):Mr Env D:=match atS env i with |some c=>if isK T c=vm then m else .no |none=>.no
theorem znd_ (i:Nat)(as:List A)(T:String)(k:Pl->List Ag->Env->Mr Env D):lentG G env (.v i) as (isK T) k=onS T env i ((evG G env as).bind (k (i,[]))):=by
 unfold lentG onS;have e:Pt.ev G env (.v i)=if(atS env i).isSome then Mo.ok (i,[])else Mo.no:=by rw[Pt.ev,zjg_]
 rw[e];cases h:atS env i with
 |none=>rfl
 |some c=>
  have e2:=zjg_ (env:=env) i;rw[h]at e2;simp only[rX,if_true,e2]
theorem bm_v (o:Bm)(i:Nat)(x:X):Y.ev G (.bm o (.v i) [.x x]) env=onS o.ty env i ((keep (x.ev G env) env x.uses).bind λd e=>call1 o.f i [d] e):=by
 rw[Y.ev,znd_];congr 1;show((stX G env x).bind λd e=>(evG G e []).bind λgs e'=>.ok (.d d::gs) e').bind _=_
 rw[zic_];cases keep (x.ev G env) env x.uses with
 |ok d e=>exact zi9_ (ds:=[d])
 |ex c e=>rfl
 |no=>rfl
theorem sd_v (i:Nat)(k v:X):Y.ev G (.sd (.v i) k v) env=onS "dict" env i ((keep (k.ev G env) env k.uses).bind λa e=>(keep (v.ev G e) e v.uses).bind λd e'=>call1 setdF i [a,d] e'):=by
 rw[Y.ev,znd_];congr 1;show((stX G env k).bind λa e=>((stX G e v).bind λd e'=>(evG G e' []).bind λgs e'=>.ok (.d d::gs) e').bind λgs e'=>.ok (.d a::gs) e').bind _=_
 rw[zic_];cases keep (k.ev G env) env k.uses with
 |ok a e=>
  rw[ziv_,ziv_,zic_];cases keep (v.ev G e) e v.uses with
  |ok d e'=>exact zi9_ (ds:=[a,d])
  |ex c e=>rfl
  |no=>rfl
 |ex c e=>rfl
 |no=>rfl
theorem zgJ_ (x:X):Y.ev G (.pu x) env=keep (x.ev G env) env x.uses:=by rw[Y.ev,zic_]
theorem ye_mv (i:Nat):Y.ev G (.mv i) env=mvM env i:=by rw[Y.ev]
theorem zpK_ (y:Y):Y.ev G (.not y) env=(y.ev G env).bind λd e=>moTo ((blD d).bind λb=>.ok (.bl (!b))) e:=by rw[Y.ev]
theorem zqk_ (o:Bo)(y z:Y):Y.ev G (.bin o y z) env=(y.ev G env).bind λd e=>(z.ev G e).bind λd2 e2=>moTo (o.f d d2) e2:=by rw[Y.ev]
theorem to_ok (a:α):moTo (.ok a) e=.ok a e:=of_eq_true (eq_self _)
theorem zlP_ {i:Nat}{k x:X}{d a c c' r d' a':D}(hx:x.ev G env=.ok d)(hd:d.new=vm)(hk:k.ev G env=.ok a)(ha:a.new=vm)(hc:atS env i=vj c)(hf:setIF [d,c,a]=.ok r [d',c',a']):setIM G (.v i) k x env=.ok .nx (env.set i (vj c')):=by
 unfold setIM;have e:Pt.ev G env (.v i)=Mo.ok (i,[]):=by rw[Pt.ev,zjg_,hc];rfl
 have e1:evG G env [.x x,.l (.v i),.x k]=.ok [.d d,.l (i,[]),.d a] env:=by
  unfold evG;rw[zic_,hx,zF_ _ hd,ziv_];unfold evG;rw[e];show(Mr.bind (Mr.bind (evG G env [.x k]) _) _)=_
  unfold evG;rw[zic_,hk,zF_ _ ha];rfl
 rw[e1,ziv_];unfold callG;have e2:resolve env [.d d,.l (i,[]),.d a]=vj [d,c,a]:=by
  show((atE env (i,[])).bind λc=>vj [c,a]).map (λds=>d::ds)=_
  rw[zjg_,hc];rfl
 rw[e2];show dropM (if _ then(match setIF [d,c,a]with |.ok r ds'=>Mr.ok r (restE env [.d d,.l (i,[]),.d a] ds')|.ex x ds'=>_ |.no=>_)else _)=_
 rw[hf,if_pos (show apartAll _=vm from rfl)]
 show Mr.ok Fl.nx (putE env (i,[]) c')=_
 rw[zhY_ hc]
theorem zag_ {i:Nat}{x:X}{d:D}{n C:Str}{ns:List Str}{xs:List D}(hx:x.ev G env=.ok d)(hd:d.new=vm)(hc:atS env i=vj (.nd (.obj C ns) xs))(hC:C∈G.cs)(hl:ns.length<1000)(hn:n∉ns):setFM G n (.v i) x env=.ok .nx (env.set i (vj (.nd (.obj C (ns++[n])) (xs++[d])))):=by
 unfold setFM;have e:Pt.ev G env (.v i)=Mo.ok (i,[]):=by rw[Pt.ev,zjg_,hc];rfl
 have e1:evG G env [.x x,.l (.v i)]=.ok [.d d,.l (i,[])] env:=by
  unfold evG;rw[zic_,hx,zF_ _ hd,ziv_];unfold evG;rw[e];rfl
 rw[e1,ziv_];have e3:clsAt env (i,[])=vj C:=by unfold clsAt;rw[zjg_,hc]
 simp only[e3,if_pos hC];unfold callG;have e2:resolve env [.d d,.l (i,[])]=vj [d,.nd (.obj C ns) xs]:=by
  show((atE env (i,[])).bind λc=>vj [c]).map (λds=>d::ds)=_
  rw[zjg_,hc];rfl
 rw[e2];have hf:setFF n [d,.nd (.obj C ns) xs]=.ok .non [.gone,.nd (.obj C (ns++[n])) (xs++[d])]:=by
  unfold setFF;simp only[if_pos hl,if_neg hn]
 show dropM (if _ then(match setFF n [d,.nd (.obj C ns) xs]with |.ok r ds'=>Mr.ok r (restE env [.d d,.l (i,[])] ds')|.ex x ds'=>_ |.no=>_)else _)=_
 rw[hf,if_pos (show apartAll _=vm from rfl)]
 show Mr.ok Fl.nx (putE env (i,[]) _)=_
 rw[zhY_ hc]
theorem fn_en {ds:List D}{n m:Nat}{body:List S}(hl:ds.length=n)(hc:D.colds ds=vm)(h:∀pn,(∀i,pn i=vn)->En (S.runs G pn body (ds.map vj++lR m vk)) λo _=>o=.rt d\/(o=.nx/\d=.non)):fnOf G n m body ds=.ok d ds:=by
 obtain⟨o,e,h,q⟩:=h _ (zcT_ hc);unfold fnOf;rw[if_pos hl,h];rcases q with rfl |⟨rfl,rfl⟩
 ·show Mr.ok d (outs ds e)=_;rw[zbg_ hc]
 ·show Mr.ok D.non (outs ds e)=_;rw[zbg_ hc]
theorem zY_ {ds:List D}{n m:Nat}{body:List S}(hl:ds.length=n)(hc:D.colds ds=vm)(h:∀pn,(∀i,pn i=vn)->En (S.runs G pn body (ds.map vj++lR m vk)) λo _=>o=.rt d\/(o=.nx/\d=.non)):(fnOf G n m body).val ds=.ok d:=zkG_ (fn_en hl hc h)
theorem zoB_ {ds:List D}{n m:Nat}{body:List S}(hl:ds.length=n)(h:S.runs G (pins ds) body (ds.map vj++lR m vk)=.ok .nx e):fnOf G n m body ds=.ok .non (outs ds e):=by
 unfold fnOf;rw[if_pos hl,h]
end
class Im {α:Type}(g:α->D):Prop where
 im:∀x,(g x).imm=vm
section
variable {α:Type}{g:α->D}[Im g]{l:List α}{x:α}
theorem zoJ_ (x:α):(g x).vw=g x:=by unfold D.vw;rw[if_pos (Im.im x)]
theorem zf4_ (l:List α):D.imms (l.map g)=vm:=by
 induction l with
 |nil=>rw[nL,D.imms]
 |cons x l ih=>rw[lB,D.imms,Im.im x,ih];rfl
theorem zfZ_ (l:List α):(l.map g).map D.vw=l.map g:=by
 rw[mD];exact nS λx _=>zoJ_ x
mutual
theorem zfP_:∀(d:D),d.imm=vm->d.new=vm
 |.non,_=>by rw[D.new]<;>simp
 |.bl _,_=>by rw[D.new]<;>simp
 |.int _,_=>by rw[D.new]<;>simp
 |.str _,_=>by rw[D.new]<;>simp
 |.nd .tup ds,h=>by rw[D.imm]at h;rw[D.new];exact zbV_ ds h
 |.nd .ktup ds,h=>by rw[D.imm]at h;rw[D.new];exact zbV_ ds h
 |.nd .lst _,h=>by simp[D.imm]at h
 |.nd .scr _,h=>by simp[D.imm]at h
 |.nd (.dct _) _,h=>by simp[D.imm]at h
 |.nd (.obj _ _) _,h=>by simp[D.imm]at h
 |.fz d,h=>by rw[D.imm]at h;rw[D.new];exact h
 |.pin _,h=>by simp[D.imm]at h
 |.gone,h=>by simp[D.imm]at h
theorem zbV_:∀(ds:List D),D.imms ds=vm->D.news ds=vm
 |[],_=>by rw[D.news]
 |d::ds,h=>by rw[D.imms,lj]at h;rw[D.news,zfP_ d h.1,zbV_ ds h.2];rfl
end
theorem znb_ (x:α):(g x).new=vm:=zfP_ _ (Im.im x)
theorem ziJ_ (x:α):(g x).cold=vm:=zd5_ (Im.im x)
instance:Im D.int:=⟨λ_=>rfl⟩
instance:Im D.str:=⟨λ_=>rfl⟩
instance:Im D.bl:=⟨λ_=>rfl⟩
noncomputable def LS (g:α->D)(l:List α):D:=.nd .lst (l.map g)
theorem ls_vw:(LS g l).vw=.fz (LS g l):=rfl
theorem zl3_:(D.fz (LS g l)).vw=.fz (LS g l):=fz_vw rfl
theorem zS_:(LS g l).new=vm:=by unfold LS;rw[D.new];exact zbV_ _ (zf4_ l)
theorem zj4_:(D.fz (LS g l)).new=vn:=by rw[D.new];rfl
theorem zoz_:lenA [LS g l]=.ok (.int l.length):=by
 show Mo.ok (D.int ((l.map g).length:Nat))=_;rw[lq]
theorem zoV_:ixA (LS g l) (.int i)=.opt ((atI l i).map g):=by
 show Mo.opt ((atI (l.map g) i).map D.vw)=_
 unfold atI;rw[lq];cases ixN l.length i with
 |none=>rfl
 |some k=>
  show Mo.opt (((l.map g)[k]?).map D.vw)=_
  rw[lK,Option.map_map];show _=Mo.opt ((l[k]?).map g)
  congr 2;funext x;exact zoJ_ x
theorem zlg_ (lo hi:Option Int)(l:List α)(g:α->β):cutG (l.map g) lo hi=(cutG l lo hi).map g:=by
 unfold cutG;rw[lq,<- tZ,<- t5]
theorem ls_sl (lo hi:Option Int):slA (LS g l) lo hi=.ok (LS g (cutG l lo hi)):=by
 show Mo.ok (D.nd .lst ((cutG (l.map g) lo hi).map .vw))=_
 rw[zlg_,zfZ_];rfl
theorem zfB_ (h:a.length+b.length<=100000):addA (LS g a) (LS g b)=.ok (LS g (a++b)):=by
 show Mo.lim ((a.map g).length+(b.map g).length) (Mo.ok (D.nd .lst ((a.map g++b.map g).map .vw)))=_
 rw[Mo.lim_ok (by rw[lq,lq];exact h),<- ng,zfZ_,LS]
theorem zco_:listA [LS g l]=.ok (LS g l):=by
 show Mo.ok (D.nd .lst ((l.map g).map .vw))=_;rw[zfZ_];rfl
theorem zlr_:walkA [LS g l]=.ok (l.map g):=of_eq_true (eq_self _)
theorem zp1_:isK "list" (LS g l)=vm:=rfl
theorem zij_ (h:l.length<100000):appendF [LS g l,g x]=.ok .non [LS g (l++[x]),.gone]:=by
 have h2:l.length<lL:=by have:=zaT_ (n:=l.length+1) (by lia);lia
 show(if(l.map g).length<lL then _ else _)=_
 rw[lq,if_pos h2];unfold LS;rw[ng];rfl
theorem zkW_ (h:a.length+b.length<=100000):extendF [LS g a,LS g b]=.ok .non [LS g (a++b),.nd .lst (b.map λ_=>.gone)]:=by
 show(if(a.map g).length+(b.map g).length<=lL then Mr.ok D.non [D.nd .lst (a.map g++b.map g),D.nd .lst ((b.map g).map λ_=>D.gone)]else _)=_
 rw[lq,lq,if_pos (zaT_ h),mD];unfold LS;rw[ng];rfl
theorem zpT_:revD [LS g l]=.ok (l.reverse.map g):=by
 rw[sZ];rfl
theorem ls_rv:rvD (LS g l)=.ok (LS g l.reverse):=by
 show Mo.ok (D.nd .lst ((l.map g).reverse.map .vw))=_
 rw[<- sZ,zfZ_];rfl
theorem zeH_:∀(l:List Int),flats (l.map .int)=vj (l.map .int)
 |[]=>rfl
 |i::l=>by rw[lB,flats,zeH_ l];rfl
theorem ziU_ (i:Int):∀(l:List Int),inV (.int i) (l.map .int)=decide (i∈l)
 |[]=>rfl
 |j::l=>by
  have:=ziU_ i l;unfold inV at this ⊢;rw[lB,pd,this];by_cases h:i=j
  ·subst h;simp[eqV]
  ·simp[eqV,h,pN h]
theorem ls_in (l:List Int):inA neg (.int i) (LS .int l)=.ok (.bl (if neg=vm then !decide (i∈l)else decide (i∈l))):=by
 show inSeq neg (.int i) (l.map .int)=_
 unfold inSeq;rw[zeH_];show Mo.ok (D.bl (if neg=vm then !(inV (.int i) (l.map .int))else inV (.int i) (l.map .int)))=_
 rw[ziU_]
end
section
variable {β γ:Type}{G:Gi}{env:Env}{lv:List Str}{fr:List (Str×Nat)}{ik:Ik}{src:List X}{tg:Tg}{p:β->Bool}{f:β->γ}{o:γ->D}
theorem zeM_ {F:List D->Mo (Option D)}{T:β->List D}:∀{l:List β}{acc:List D},(∀b∈l,F (T b)=.ok (if p b=vm then vj (o (f b))else vk))->acc.length+l.length<=100000->compM F (l.map T) acc=.ok (acc++((l.filter p).map f).map o)
 |[],acc,_,_=>by rw[nL];unfold compM;simp
 |b::l,acc,h,hl=>by
  rw[lG]at hl;rw[lB];unfold compM;rw[h b lW,zcC_,List.filter_cons];cases e:p b with
  |false=>
   rw[if_neg (by decide),if_neg (by decide)]
   exact zeM_ (λy hy=>h y (lV _ hy)) (by lia)
  |true=>
   rw[if_pos rfl,if_pos rfl];show Mo.lim _ _=_
   rw[Mo.lim_ok (by lia),zeM_ (λy hy=>h y (lV _ hy)) (by rw[lF,pV];lia)]
   simp
theorem xcomp {c:Option X}{e:X}{items:List D}{T:β->List D}(l:List β)(hi:tg.is.all (·<lv.length)=vm)(hs:(X.evs G env src).bind ik.f=.ok items)(ht:tgsD tg items=vj (l.map T))(hc:∀b∈l,X.evT G (setE (cE lv fr env) tg.is (T b)) c=.ok (p b))(he:∀b∈l,p b=vm->X.ev G (setE (cE lv fr env) tg.is (T b)) e=.ok (o (f b)))(hl:l.length<=100000):X.ev G env (.comp lv fr ik src tg c e)=.ok (LS o ((l.filter p).map f)):=by
 rw[X.ev,if_pos hi,hs,zcC_,ht,zn6_,zcC_,zeM_ (p:=p) (f:=f) (o:=o) (λb hb=>?_) (by rw[oX,rf];exact hl),zcC_]
 ·rfl
 ·unfold cond1
  rw[hc b hb,zcC_];cases dy:p b with
  |false=>rfl
  |true=>rw[if_pos rfl,if_pos rfl,he b hb dy];rfl
theorem xcompN {e:X}{items:List D}{T:β->List D}(l:List β)(hi:tg.is.all (·<lv.length)=vm)(hs:(X.evs G env src).bind ik.f=.ok items)(ht:tgsD tg items=vj (l.map T))(he:∀b∈l,X.ev G (setE (cE lv fr env) tg.is (T b)) e=.ok (o (f b)))(hl:l.length<=100000):X.ev G env (.comp lv fr ik src tg vk e)=.ok (LS o (l.map f)):=by
 rw[xcomp (p:=λ_=>vm) l hi hs ht (λ_ _=>xt_0) (λb hb _=>he b hb) hl]
 rw[qi.mpr λ_ _=>rfl]
theorem tgs_1 (ds:List D)(i:Nat):tgsD ⟨vn,[i]⟩ ds=vj (ds.map λd=>[d]):=by
 induction ds with
 |nil=>rw[tgsD];rfl
 |cons d ds ih=>rw[tgsD,ih];rfl
theorem zV_ {g:β->D}(l:List β)(i:Nat):tgsD ⟨vn,[i]⟩ (l.map g)=vj (l.map λd=>[g d]):=by rw[tgs_1,mD];rfl
theorem zir_ {g h:β->D}(l:List β)(i j:Nat):tgsD ⟨vm,[i,j]⟩ (l.map λb=>.nd .tup [g b,h b])=vj (l.map λb=>[g b,h b]):=by
 induction l with
 |nil=>rw[nL,tgsD];rfl
 |cons d ds ih=>rw[lB,tgsD,ih];rfl
end
noncomputable def DI {α:Type}(g:α->D)(m:List (Int×α)):D:=.nd (.dct (m.map λq=>.inl q.1)) (m.map λq=>g q.2)
def dgt {α:Type}:List (Int×α)->Int->Option α
 |[],_=>vk
 |q::m,i=>if q.1=i then vj q.2 else dgt m i
def dput {α:Type}:List (Int×α)->Int->α->List (Int×α)
 |[],i,v=>[(i,v)]
 |q::m,i,v=>if q.1=i then(i,v)::m else q::dput m i v
section
variable {α:Type}{g:α->D}[Im g]{m:List (Int×α)}{i:Int}{v w:α}{neg:Bool}
theorem zfh_ {i j:Int}:((qQ i:Key)=.inl j)↔i=j:=⟨λh=>by cases h;rfl,λh=>by rw[h]⟩
theorem zlk_ (m:List (Int×α)):valD (m.map λq=>.inl q.1) (m.map λq=>g q.2) (.inl i)=(dgt m i).map g:=by
 unfold valD;induction m with
 |nil=>rfl
 |cons q m ih=>
  rw[lB,lB,mf,nq,dgt];by_cases h:q.1=i
  ·rw[decide_eq_true (zfh_.mpr h),if_pos h];rfl
  ·rw[decide_eq_false (λz=>h (zfh_.mp z)),if_neg h];exact ih
theorem di_vw:(DI g m).vw=.fz (DI g m):=rfl
theorem zmI_:isK "dict" (DI g m)=vm:=rfl
theorem zmx_:(DI g m).new=vm:=by
 unfold DI;rw[D.new];refine zbV_ _ ?_;exact@zf4_ _ (λq:Int×α=>g q.2) ⟨λq=>Im.im q.2⟩ m
theorem di_ix:ixA (DI g m) (.int i)=.opt ((dgt m i).map g):=by
 show Mo.opt ((valD (m.map λq=>.inl q.1) (m.map λq=>g q.2) (.inl i)).map D.vw)=_
 rw[zlk_];cases dgt m i with
 |none=>rfl
 |some v=>show Mo.ok (g v).vw=_;rw[zoJ_];rfl
theorem di_in:inA neg (.int i) (DI g m)=.ok (.bl (if neg=vm then !(dgt m i).isSome else(dgt m i).isSome)):=by
 show Mo.ok (D.bl (if neg=vm then !(valD (m.map λq=>.inl q.1) (m.map λq=>g q.2) (.inl i)).isSome else(valD (m.map λq=>.inl q.1) (m.map λq=>g q.2) (.inl i)).isSome))=_
 rw[zlk_,pT]
theorem zgn_ (m:List (Int×α)):(dgt m i=vk->¬kIx (m.map λq=>(.inl q.1:Key)) (.inl i)<m.length)/\(∀w,dgt m i=vj w->kIx (m.map λq=>(.inl q.1:Key)) (.inl i)<m.length/\(m.map λq=>g q.2)[kIx (m.map λq=>(.inl q.1:Key)) (.inl i)]?=vj (g w)):=by
 induction m with
 |nil=>exact⟨λ_=>by simp,λw h=>by cases h⟩
 |cons q m ih=>
  rw[lB,kIx,dgt,lG];by_cases h:q.1=i
  ·rw[if_pos h,if_pos (zfh_.mpr h)]
   exact⟨λz=>(nomatch z),λw z=>by cases z;exact⟨by lia,by simp⟩⟩
  ·rw[if_neg h,if_neg (λz=>h (zfh_.mp z))]
   refine⟨λz=>by have:=ih.1 z;lia,λw z=>?_⟩
   have:=ih.2 w z;exact⟨by lia,by rw[lB,nr];exact this.2⟩
theorem zq7_ (i:Int):keyD (.int i)=vj (.inl i):=rfl
theorem zdO_ {n:Nat}(h:n<100000):n<lL:=by have:=zaT_ (n:=n+1) (by lia);lia
theorem zlW_ (h:dgt m i=vk)(hl:m.length<100000):setdF [DI g m,.int i,g v]=.ok (g v) [DI g (m++[(i,v)]),.int i,g v]:=by
 have k:=(zgn_ (g:=g) m).1 h;unfold DI setdF;simp only[ziJ_,if_true,zq7_,lq,if_neg k,if_pos (zdO_ hl),ng];rfl
theorem zmD_ (h:dgt m i=vj w):setdF [DI g m,.int i,g v]=.ok (g w) [DI g m,.int i,g v]:=by
 have k:=(zgn_ (g:=g) m).2 w h;unfold DI setdF;simp only[ziJ_,if_true,zq7_,lq,if_pos k.1,k.2]
theorem zeD_ (m:List (Int×α)):(dgt m i=vk->dput m i v=m++[(i,v)])/\(∀w,dgt m i=vj w->(m.map λq=>g q.2).set (kIx (m.map λq=>(.inl q.1:Key)) (.inl i)) (g v)=(dput m i v).map (λq=>g q.2)/\(dput m i v).map (λq=>(.inl q.1:Key))=m.map λq=>.inl q.1):=by
 induction m with
 |nil=>exact⟨λ_=>rfl,λw h=>by cases h⟩
 |cons q m ih=>
  rw[lB,lB,kIx,dgt,dput];by_cases h:q.1=i
  ·rw[if_pos h,if_pos h,if_pos (zfh_.mpr h)]
   exact⟨λz=>(nomatch z),λw z=>⟨by rw[oq,lB],by rw[lB,h]⟩⟩
  ·rw[if_neg h,if_neg h,if_neg (λz=>h (zfh_.mp z))]
   refine⟨λz=>by rw[ih.1 z];rfl,λw z=>?_⟩
   have:=ih.2 w z;exact⟨by rw[oW,this.1,lB],by rw[lB,this.2]⟩
theorem zpg_ (hl:m.length<100000):setIF [g v,DI g m,.int i]=.ok .non [.gone,DI g (dput m i v),.int i]:=by
 unfold DI setIF;simp only[zq7_,lq];cases h:dgt m i with
 |none=>rw[if_neg (λz=>(zgn_ (g:=g) m).1 h z.1),if_pos ⟨zdO_ hl,(zgn_ (g:=g) m).1 h⟩,(zeD_ (g:=g) m).1 h,ng,ng];rfl
 |some w=>rw[if_pos ⟨((zgn_ (g:=g) m).2 w h).1,zdO_ hl⟩,((zeD_ m).2 w h).1,((zeD_ (g:=g) (v:=v) m).2 w h).2]
theorem zkP_ (m:List (Int×α)):keysI (m.map λq=>.inl q.1)=vj (m.map (·.1)):=by
 induction m with
 |nil=>rfl
 |cons q m ih=>rw[lB,keysI,ih];rfl
theorem znZ_:sortI [DI g m]=srtI (m.map (·.1)):=by
 show(match keysI (m.map λq=>(.inl q.1:Key))with |some is=>srtI is |none=>_)=_
 rw[zkP_]
theorem zhI_ (n:Nat)(i j:Int):eqT n (.int i) (.int j)=vj (decide (i=j)):=by
 cases n with
 |zero=>show vj (eqV (.int i) (.int j))=_;rfl
 |succ n=>show vj (eqV (.int i) (.int j))=_;rfl
theorem zk1_ (n:Nat)(a b:List Nat):eqT n (.str a) (.str b)=vj (decide (a=b)):=by
 have:eqV (tx a) (tx b)=decide (a=b):=by
  by_cases h:a=b
  ·subst h;simp[tx,eqV]
  ·rw[decide_eq_false h]
   show(_ == _)=vn
   refine beq_eq_false_iff_ne.mpr λz=>h ?_
   injection z with z;exact List.toArray_inj z
 cases n with
 |zero=>show vj (eqV (tx a) (tx b))=_;rw[this]
 |succ n=>show vj (eqV (tx a) (tx b))=_;rw[this]
theorem zgf_ {f:D->D->Option Bool}[DecidableEq α]{g:α->D}(h:∀x y,f (g x) (g y)=vj (decide (x=y))):∀(a b:List α),a.length=b.length->allT f (a.map g) (b.map g)=vj (decide (a=b))
 |[],[],_=>by simp[allT]
 |x::a,y::b,hl=>by
  rw[lB,lB,allT,h,zgf_ h a b (by simpa using hl)]
  simp
theorem eq_ls [DecidableEq α]{g:α->D}{n:Nat}(h:∀x y,eqT n (g x) (g y)=vj (decide (x=y)))(a b:List α):eqT (n+1) (LS g a) (LS g b)=vj (decide (a=b)):=by
 show(if(a.map g).length=(b.map g).length then allT (eqT n) (a.map g) (b.map g)else vj vn)=_
 rw[lq,lq];by_cases hl:a.length=b.length
 ·rw[if_pos hl,zgf_ h a b hl]
 ·rw[if_neg hl,decide_eq_false (λz=>hl (by rw[z]))]
theorem zgA_ {a b:D}{c:Bool}(h:eqT 12 a b=vj c):eqD neg a b=.ok (.bl (if neg=vm then !c else c)):=by
 unfold eqD;rw[h];rfl
theorem zln_ (a b:List Int):eqD neg (LS .int a) (LS .int b)=.ok (.bl (if neg=vm then !decide (a=b)else decide (a=b))):=zgA_ (eq_ls (n:=11) (zhI_ 11) a b)
theorem zaR_ (a b:Int):eqD neg (.int a) (.int b)=.ok (.bl (if neg=vm then !decide (a=b)else decide (a=b))):=zgA_ (zhI_ 12 a b)
theorem zbC_ (a b:List Nat):eqD neg (.str a) (.str b)=.ok (.bl (if neg=vm then !decide (a=b)else decide (a=b))):=zgA_ (zk1_ 12 a b)
theorem zki_ {f:D->D->Option Bool}:∀(ds:List D),(∀d∈ds,f d d=vj vm)->allT f ds ds=vj vm
 |[],_=>by simp[allT]
 |d::ds,h=>by rw[allT,h d lW,zki_ ds λx hx=>h x (lV _ hx)];rfl
theorem zoS_ {n:Nat}{ds:List D}(h:∀d∈ds,eqT n d d=vj vm):eqT (n+1) (.nd .lst ds) (.nd .lst ds)=vj vm:=by
 show(if ds.length=ds.length then allT (eqT n) ds ds else vj vn)=_
 rw[if_pos rfl,zki_ ds h]
theorem zqZ_ {n:Nat}{ds:List D}(h:∀d∈ds,eqT n d d=vj vm):eqT (n+1) (.nd .tup ds) (.nd .tup ds)=vj vm:=by
 show(allT (eqT n) ds ds).map (λb=>b && ds.length == ds.length)=_
 rw[zki_ ds h];simp
end
end VI
namespace K48
open PySem PySem.Spec PyProof.Rows L2 VI
open Mo renaming bind→Mb,ok→Mq
open Sl renaming fz→Zf,dead→Zd,ow→Zo
noncomputable abbrev Jx:=List Nat
abbrev Jy:=List Jx
noncomputable abbrev Qm0:List Nat:=[32,48,49,50,51,52,53,54,55,56,57,65,66,67,68,69,70,71,72,73,74,75,76,77,78,79,80,81,82,83,84,85,86,87,88,89,90]
noncomputable abbrev Qm1:List Nat:=[97,98,99,100,101,102,103,104,105,106,107,108,109,110,111,112,113,114,115,116,117,118,119,120,121,122]
noncomputable abbrev Qm2:List Nat:=[97,98,99,100,101,102,103,104,105,106,107,108,109,110,111,112,113,114,115,116,117,118,119,120,121]
noncomputable abbrev Qn0:List Str:=["self", "deck", "picks", "middle", "order", "works", "breaks", "sums", "figures", "board"]
abbrev Qn1:List Str:=["asking"]
noncomputable def gi:Gi:={cs:=["Asking"],kt:=[("MATING_WORDS",[[109,97,116,101,115],[119,105,116,104,111,117,116]]),("WORK_WORDS",[[112,108,117,115],[108,101,115,115],[116,105,109,101,115]])]}
def z3_:List S:=[.if_ (.bin .lt (.v 1) (.bf .len [(.v 0)])) [.ret (.pu (.bin .ix (.v 0) (.v 1)))] [],.asg 2 (.pu (.bin .add (.bin .mul (.v 1) (.n 7919)) (.n 5))),.if_ (.bin .gt (.bf .len [(.v 0)]) (.n 0)) [.asg 2 (.pu (.bin .mod (.bin .add (.bin .mul (.bin .ix (.v 0) (.bin .mod (.bin .mul (.v 1) (.n 7)) (.bf .len [(.v 0)]))) (.n 48271)) (.bin .mul (.v 1) (.n 7919))) (.n 2147483647)))] [],.ret (.pu (.bin .mod (.bin .mul (.v 2) (.v 2)) (.n 2147483629)))]
def z1_:Fn:=fnOf gi 2 1 z3_
noncomputable abbrev z2_:=X.call z1_ "_law_cell"
def za1_:List S:=[.asg 1 (.pu (.k (.str Qm0))),.asg 2 (.pu (.bin .mod (.v 0) (.n 37))),.asg 3 (.pu (.bin .mod (.bin .add (.bin .add (.v 2) (.n 1)) (.bin .mod (.bin .div (.v 0) (.n 37)) (.n 36))) (.n 37))),.ret (.pu (.lst [(.bin .ix (.v 1) (.v 2)),(.bin .ix (.v 1) (.v 3)),(.bin .ix (.v 1) (.bin .mod (.bin .add (.bin .add (.v 3) (.n 1)) (.bin .mod (.bin .div (.v 0) (.n 1332)) (.n 36))) (.n 37)))]))]
def zaV_:Fn:=fnOf gi 1 3 za1_
def z7_:List S:=[.asg 1 (.pu (.k (.str Qm2))),.asg 2 (.pu (.sl (.v 1) (vj (.bin .mod (.v 0) (.n 22))) (vj (.bin .add (.bin .add (.bin .mod (.v 0) (.n 22)) (.n 1)) (.bin .mod (.bin .div (.v 0) (.n 22)) (.n 4)))))),.asg 3 (.pu (.bin .mod (.bin .div (.v 0) (.n 88)) (.bf .len [(.v 2)]))),.asg 4 (.pu (.bin .add (.bin .add (.sl (.v 2) vk (vj (.v 3))) (.k (.str [122]))) (.sl (.v 2) (vj (.bin .add (.v 3) (.n 1))) vk))),.if_ (.bin .eq (.bin .mod (.bin .div (.v 0) (.n 352)) (.n 2)) (.n 1)) [.ret (.pu (.lst [(.v 4),(.v 2)]))] [],.ret (.pu (.lst [(.v 2),(.v 4)]))]
def za4_:Fn:=fnOf gi 1 4 z7_
def za2_:List S:=[.asg 2 (.pu (.bin .mod (.v 0) (.n 5))),.ret (.pu (.tup [(.bin .add (.v 1) (.v 2)),(.bin .add (.bin .add (.v 1) (.v 2)) (.bin .mod (.bin .div (.v 0) (.n 5)) (.bf .min [(.n 3),(.bin .sub (.n 5) (.v 2))])))]))]
def za5_:Fn:=fnOf gi 2 1 za2_
def zI_:List S:=[.asg 3 (.pu .dct0),.asg 4 (.pu (.lst [])),.for_ .r1 [(.bin .mod (z2_ [(.v 0),(.n 1)]) (.n 3))] ⟨vn,[5]⟩ [.asg 6 (.pu (z2_ [(.v 0),(.bin .add (.n 2) (.v 5))])),.asg 7 (.pu (.call za5_ "_law_field" [(.v 6),(.v 1)])),.asg 8 (.pu (.k (.str []))),.for_ .r1 [(.bin .add (.bin .sub (.i (.v 7) 1) (.i (.v 7) 0)) (.n 1))] ⟨vn,[9]⟩ [.asg 8 (.bin .add (.pu (.v 8)) (.sd (.v 3) (.bin .add (.i (.v 7) 0) (.v 9)) (.bin .ix (.v 2) (.bin .mod (.bin .div (.v 6) (.bin .ix (.lst [(.n 15),(.n 45),(.n 135)]) (.v 9))) (.n 3)))))],.ex (.bm .append (.v 4) [(.x (.tup [(.v 7),(.v 8)]))])],.ret (.mv 4)]
def zH_:Fn:=fnOf gi 3 7 zI_
def zZ_:List S:=[.asg 4 (.pu (.k (.str Qm0))),.asg 5 (.pu (.bin .mul (.lst [(.bin .ix (.v 4) (.bin .mod (.bin .div (.v 0) (.n 243)) (.n 37)))]) (.n 36))),.for_ .r1 [(.n 5)] ⟨vn,[6]⟩ [.setI (.v 5) (.bin .add (.bin .sub (.v 1) (.n 1)) (.v 6)) (.bin .ix (.v 2) (.bin .mod (.bin .div (.v 0) (.bin .ix (.lst [(.n 1),(.n 3),(.n 9),(.n 27),(.n 81)]) (.v 6))) (.n 3)))],.ret (.pu (.bin .add (.sm .join (.k (.str [])) [(.v 5)]) (.sm .zfill (.bf .str [(.v 3)]) [(.n 4)])))]
def zw_:Fn:=fnOf gi 4 3 zZ_
noncomputable def zbk_:List S:=[.ret (.pu (.ifx (.bin .is (.v 0) (.k .non)) (.lst []) (.bf .list [(.v 0)])))]
def zz_:Fn:=fnOf gi 1 0 zbk_
noncomputable abbrev zbL_:=X.call zz_ "own_list"
noncomputable def zeu_:List S:=[.if_ (.not (.v 0)) [.never] []]
def zcz_:Fn:=fnOf gi 2 0 zeu_
noncomputable abbrev zk_:=X.call zcz_ "ask_for"
def zT_:List S:=[.ex (.pu (zk_ [(.bin .le (.bf .len [(.fld (.v 0) "picks")]) (.g "MOST_PICKS" (.int 8))),(.k (.str [97,110,32,97,115,107,105,110,103,32,104,97,115,32,56,32,112,105,99,107,115,32,97,116,32,109,111,115,116]))])),.ex (.pu (zk_ [(.bin .le (.bf .len [(.fld (.v 0) "order")]) (.g "MOST_KEYS" (.int 6))),(.k (.str [97,110,32,97,115,107,105,110,103,32,104,97,115,32,54,32,107,101,121,115,32,97,116,32,109,111,115,116]))])),.ex (.pu (zk_ [(.bin .le (.bf .len [(.fld (.v 0) "works")]) (.g "MOST_WORKS" (.int 4))),(.k (.str [97,110,32,97,115,107,105,110,103,32,104,97,115,32,52,32,119,111,114,107,115,32,97,116,32,109,111,115,116]))])),.ex (.pu (zk_ [(.bin .le (.bf .len [(.fld (.v 0) "sums")]) (.g "MOST_SUMS" (.int 4))),(.k (.str [97,110,32,97,115,107,105,110,103,32,104,97,115,32,52,32,115,117,109,115,32,97,116,32,109,111,115,116]))]))]
def zR_:Fn:=fnOf gi 1 0 zT_
def zdo_:List S:=[.ret (.pu (.and (.bin .isn (.fld (.v 0) "middle") (.k .non)) (.bin .inn (.i (.fld (.v 0) "middle") 0) (.gt "MATING_WORDS" [[109,97,116,101,115],[119,105,116,104,111,117,116]]))))]
def zbT_:Fn:=fnOf gi 1 0 zdo_
noncomputable abbrev zbn_:=X.call zbT_ "mates_by"
def zM_:List S:=[.if_ (.bin .is (.fld (.v 0) "middle") (.k .non)) [.retN] [],.asg 1 (.pu (.bf .len [(.fld (.v 0) "middle")])),.ex (.pu (zk_ [(.and (.bin .gt (.v 1) (.n 0)) (.or (zbn_ [(.v 0)]) (.bin .eq (.i (.fld (.v 0) "middle") 0) (.k (.str [102,105,114,115,116]))))),(.k (.str [97,32,109,105,100,100,108,101,32,104,97,115,32,111,110,101,32,111,102,32,116,104,114,101,101,32,119,111,114,100,115]))])),.ex (.pu (zk_ [(.bin .eq (.v 1) (.ifx (zbn_ [(.v 0)]) (.n 4) (.n 2))),(.k (.str [97,32,109,105,100,100,108,101,32,104,97,115,32,119,104,97,116,32,105,116,115,32,119,111,114,100,32,119,97,110,116,115]))]))]
def zv_:Fn:=fnOf gi 1 1 zM_
def zdr_:List S:=[.ret (.pu (.ifx (zbn_ [(.v 0)]) (.lst [(.fld (.v 0) "deck"),(.i (.fld (.v 0) "middle") 1)]) (.lst [(.fld (.v 0) "deck")])))]
def zX_:Fn:=fnOf gi 1 0 zdr_
def zcK_:List S:=[.ret (.pu (.and (.ch .le .le (.n 1) (.bf .len [(.v 0)]) (.g "LONGEST_NAME" (.int 8))) (.bf .all [(.comp ["letter"] [] .any [(.v 0)] ⟨vn,[0]⟩ vk (.bin .inn (.v 0) (.g "SMALL_LETTERS" (.str Qm1))))])))]
def zcV_:Fn:=fnOf gi 1 0 zcK_
def zaH_:List S:=[.asg 1 (.pu (.call zX_ "names_of" [(.v 0)])),.for_ .any [(.v 1)] ⟨vn,[2]⟩ [.ex (.pu (zk_ [(.call zcV_ "is_name" [(.v 2)]),(.k (.str [97,32,110,97,109,101,32,104,97,115,32,111,110,101,32,116,111,32,101,105,103,104,116,32,115,109,97,108,108,32,108,101,116,116,101,114,115]))]))],.ex (.pu (zk_ [(.or (.bin .ne (.i (.v 1) 0) (.bin .ix (.v 1) (.neg (.n 1)))) (.bin .eq (.bf .len [(.v 1)]) (.n 1))),(.k (.str [116,104,101,32,116,119,111,32,110,97,109,101,115,32,97,114,101,32,117,110,108,105,107,101]))]))]
def zL_:Fn:=fnOf gi 1 2 zaH_
def zaQ_:List S:=[.if_ (.bin .is (.fld (.v 0) "middle") (.k .non)) [.ret (.pu (.lst []))] [],.ret (.pu (.ifx (zbn_ [(.v 0)]) (.bf .list [(.sl (.fld (.v 0) "middle") (vj (.n 2)) vk)]) (.lst [(.i (.fld (.v 0) "middle") 1)])))]
def zQ_:Fn:=fnOf gi 1 0 zaQ_
noncomputable abbrev zN_:=X.call zQ_ "middle_fields"
def zaY_:List S:=[.asg 1 (.pu (.bin .add (.bin .add (.bin .add (.comp ["pick"] [] .any [(.fld (.v 0) "picks")] ⟨vn,[0]⟩ vk (.i (.v 0) 0)) (zN_ [(.v 0)])) (.fld (.v 0) "order")) (.fld (.v 0) "sums"))),.for_ .any [(.fld (.v 0) "works")] ⟨vn,[2]⟩ [.ex (.bm .extend (.v 1) [(.x (.lst [(.i (.v 2) 0),(.i (.v 2) 1),(.i (.v 2) 3)]))])],.ret (.mv 1)]
def za9_:Fn:=fnOf gi 1 2 zaY_
noncomputable def zc5_:List S:=[.ret (.pu (.and (.isa (.v 0) "int") (.not (.isa (.v 0) "bool"))))]
def zbZ_:Fn:=fnOf gi 1 0 zc5_
noncomputable abbrev zay_:=X.call zbZ_ "is_whole"
def zb1_:List S:=[.ret (.pu (.and (zay_ [(.v 0)]) (.and (zay_ [(.v 1)]) (.ch3 .le .le .le (.n 1) (.v 0) (.v 1) (.g "BODY_WIDTH" (.int 36))))))]
def zbY_:Fn:=fnOf gi 2 0 zb1_
def zdk_:List S:=[.ret (.pu (.bin .add (.bin .sub (.i (.v 0) 1) (.i (.v 0) 0)) (.n 1)))]
def zbR_:Fn:=fnOf gi 1 0 zdk_
noncomputable abbrev zcd_:=X.call zbR_ "width_of"
def zbA_:List S:=[.ret (.pu (.bf .all [(.comp ["sign"] [] .any [(.v 0)] ⟨vn,[0]⟩ vk (.bin .inn (.v 0) (.g "SIGNS" (.str Qm0))))]))]
def zaN_:Fn:=fnOf gi 1 0 zbA_
def zaa_:List S:=[.asg 1 (.pu .dct0),.for_ .any [(.v 0)] ⟨vn,[2]⟩ [.if_ (.bin .eq (.i (.v 2) 0) (.k (.str [112,105,99,107]))) [.ifY (.bin .ne (.sd (.v 1) (.i (.v 2) 1) (.i (.v 2) 2)) (.pu (.i (.v 2) 2))) [.ret (.pu (.k .non))] []] []],.ret (.mv 1)]
def zC_:Fn:=fnOf gi 1 2 zaa_
def zaZ_:List S:=[.ret (.pu (.lr (.i (.v 0) 0) (.bin .add (.i (.v 0) 1) (.n 1))))]
def z9_:Fn:=fnOf gi 1 0 zaZ_
def zaG_:List S:=[.asg 1 (.pu (.lst [])),.for_ .any [(.fld (.v 0) "picks")] ⟨vn,[2]⟩ [.ex (.bm .extend (.v 1) [(.x (.comp ["column", "sign"] [] .zip [(.call z9_ "columns_of" [(.i (.v 2) 0)]),(.i (.v 2) 1)] ⟨vm,[0,1]⟩ vk (.tup [(.k (.str [112,105,99,107])),(.v 0),(.v 1)])))])],.ret (.mv 1)]
def zam_:Fn:=fnOf gi 1 2 zaG_
def zaw_:List S:=[.for_ .any [(.fld (.v 0) "picks")] ⟨vn,[1]⟩ [.ex (.pu (zk_ [(.bin .eq (.bf .len [(.i (.v 1) 1)]) (zcd_ [(.i (.v 1) 0)])),(.k (.str [97,32,112,105,99,107,39,115,32,116,101,120,116,32,105,115,32,97,115,32,119,105,100,101,32,97,115,32,105,116,115,32,102,105,101,108,100]))])),.ex (.pu (zk_ [(.call zaN_ "are_signs" [(.i (.v 1) 1)]),(.k (.str [97,32,112,105,99,107,39,115,32,116,101,120,116,32,105,115,32,111,102,32,115,105,103,110,115]))]))],.ex (.pu (zk_ [(.bin .isn (.call zC_ "picked_signs" [(.call zam_ "pick_passes" [(.v 0)])]) (.k .non)),(.k (.str [116,119,111,32,112,105,99,107,115,32,119,97,110,116,32,117,110,108,105,107,101,32,115,105,103,110,115,32,111,102,32,111,110,101,32,99,111,108,117,109,110]))]))]
def zar_:Fn:=fnOf gi 1 1 zaw_
def zi_:List S:=[.asg 1 (.pu (zN_ [(.v 0)])),.ifL (.v 1) [.ex (.pu (zk_ [(.bin .eq (zcd_ [(.i (.v 1) 0)]) (zcd_ [(.bin .ix (.v 1) (.neg (.n 1)))])),(.k (.str [116,104,101,32,109,105,100,100,108,101,39,115,32,102,105,101,108,100,115,32,97,114,101,32,111,102,32,111,110,101,32,119,105,100,116,104]))]))] []]
def zs_:Fn:=fnOf gi 1 1 zi_
def zbv_:List S:=[.ret (.pu (.and (zay_ [(.v 0)]) (.ch .le .le (.n 1) (.v 0) (.v 1))))]
def zaJ_:Fn:=fnOf gi 2 0 zbv_
def za6_:List S:=[.for_ .any [(.v 0)] ⟨vn,[1]⟩ [.if_ (.or (.not (.call zaJ_ "is_column" [(.i (.v 1) 0),(.g "CARD_WIDTH" (.int 40))])) (.not (.call zaJ_ "is_column" [(.i (.v 1) 1),(.g "BODY_WIDTH" (.int 36))]))) [.never] []],.asg 2 (.pu .dct0),.for_ .any [(.v 0)] ⟨vn,[1]⟩ [.if_ (.bin .inn (.i (.v 1) 1) (.v 2)) [.never] [],.setI (.v 2) (.i (.v 1) 1) (.v 1)],.ret (.pu (.comp ["column"] [("leading",2)] .any [(.bf .sorted [(.v 2)])] ⟨vn,[0]⟩ vk (.bin .ix (.v 1) (.v 0))))]
def za8_:Fn:=fnOf gi 1 2 za6_
def zca_:List S:=[.try0 [.asg 1 (.pu (.call za8_ "make_board" [(.v 0)]))] [],.ret (.pu (.bin .eq (.v 1) (.v 0)))]
def zcb_:Fn:=fnOf gi 1 1 zca_
def zD_:List S:=[.ex (.pu (zk_ [(.and (zay_ [(.fld (.v 0) "breaks")]) (.ch .le .le (.n 0) (.fld (.v 0) "breaks") (.g "MOST_BREAKS" (.int 3)))),(.k (.str [116,104,101,114,101,32,97,114,101,32,48,32,116,111,32,51,32,98,114,101,97,107,115]))])),.ex (.pu (zk_ [(.bin .le (.fld (.v 0) "breaks") (.bf .len [(.fld (.v 0) "order")])),(.k (.str [116,104,101,114,101,32,97,114,101,32,110,111,32,109,111,114,101,32,98,114,101,97,107,115,32,116,104,97,110,32,107,101,121,115]))])),.ex (.pu (zk_ [(.and (zay_ [(.fld (.v 0) "figures")]) (.ch .le .le (.n 1) (.fld (.v 0) "figures") (.g "MOST_FIGURES" (.int 12)))),(.k (.str [119,104,101,101,108,115,32,104,97,118,101,32,49,32,116,111,32,49,50,32,102,105,103,117,114,101,115]))])),.ex (.pu (zk_ [(.call zcb_ "is_board" [(.fld (.v 0) "board")]),(.k (.str [116,104,101,32,98,111,97,114,100,32,105,115,32,110,111,110,101,44,32,111,114,32,110,111,116,32,115,111,114,116,101,100]))]))]
def zG_:Fn:=fnOf gi 1 0 zD_
def zap_:List S:=[.asg 2 (.pu (.bin .add (.bin .add (.comp ["pick"] [] .any [(.fld (.v 0) "picks")] ⟨vn,[0]⟩ vk (.i (.v 0) 0)) (.sl (zN_ [(.v 0)]) vk (vj (.n 1)))) (.fld (.v 0) "order"))),.for_ .en [(.fld (.v 0) "works")] ⟨vm,[3,4]⟩ [.if_ (.bin .ne (.v 3) (.v 1)) [.ex (.bm .append (.v 2) [(.x (.i (.v 4) 0))])] [],.if_ (.bin .le (.v 3) (.v 1)) [.ex (.bm .extend (.v 2) [(.x (.lst [(.i (.v 4) 1),(.i (.v 4) 3)]))])] []],.ret (.mv 2)]
def zan_:Fn:=fnOf gi 2 3 zap_
def zbx_:List S:=[.ret (.pu (.or (.bin .lt (.i (.v 0) 1) (.i (.v 1) 0)) (.bin .lt (.i (.v 1) 1) (.i (.v 0) 0))))]
def zbu_:Fn:=fnOf gi 2 0 zbx_
def zav_:List S:=[.for_ .en [(.fld (.v 0) "works")] ⟨vm,[1,2]⟩ [.ex (.pu (zk_ [(.bin .inn (.i (.v 2) 2) (.gt "WORK_WORDS" [[112,108,117,115],[108,101,115,115],[116,105,109,101,115]])),(.k (.str [97,32,119,111,114,107,32,104,97,115,32,111,110,101,32,111,102,32,116,104,114,101,101,32,119,111,114,100,115]))])),.for_ .any [(.call zan_ "fields_kept" [(.v 0),(.v 1)])] ⟨vn,[3]⟩ [.ex (.pu (zk_ [(.call zbu_ "are_apart" [(.i (.v 2) 0),(.v 3)]),(.k (.str [97,32,119,111,114,107,32,112,117,110,99,104,101,115,32,105,110,116,111,32,97,32,102,105,101,108,100,32,116,104,97,116,32,105,116,32,109,117,115,116,32,98,101,32,97,112,97,114,116,32,102,114,111,109]))]))]]]
def zaF_:Fn:=fnOf gi 1 3 zav_
def z5_:List S:=[.ex (.pu (.call zR_ "check_lengths" [(.v 0)])),.ex (.pu (.call zv_ "check_middle_word" [(.v 0)])),.ex (.pu (.call zL_ "check_names" [(.v 0)])),.for_ .any [(.call za9_ "fields_due" [(.v 0)])] ⟨vn,[1]⟩ [.ex (.pu (zk_ [(.call zbY_ "is_field" [(.i (.v 1) 0),(.i (.v 1) 1)]),(.k (.str [97,32,102,105,101,108,100,32,103,111,101,115,32,102,114,111,109,32,97,32,102,105,114,115,116,32,116,111,32,97,32,108,97,115,116,32,99,111,108,117,109,110,44,32,102,114,111,109,32,49,32,116,111,32,51,54]))]))],.ex (.pu (.call zar_ "check_picks" [(.v 0)])),.ex (.pu (.call zs_ "check_middle_widths" [(.v 0)])),.ex (.pu (.call zG_ "check_counting" [(.v 0)])),.ex (.pu (.call zaF_ "check_works" [(.v 0)]))]
def zae_:Fn:=fnOf gi 1 1 z5_
def zg_:List S:=[.setF (.v 0) "deck" (.v 1),.setF (.v 0) "picks" (.bf .list [(.v 2)]),.setF (.v 0) "middle" (.v 3),.setF (.v 0) "order" (.bf .list [(.v 4)]),.setF (.v 0) "works" (zbL_ [(.v 5)]),.setF (.v 0) "breaks" (.v 6),.setF (.v 0) "sums" (zbL_ [(.v 7)]),.setF (.v 0) "figures" (.v 8),.setF (.v 0) "board" (zbL_ [(.v 9)]),.ex (.pu (.call zae_ "check_asking" [(.v 0)]))]
def zc_:Fn:=fnOf gi 10 0 zg_
def zaj_:List S:=[.for_ .any [(.call zX_ "names_of" [(.v 0)])] ⟨vn,[2]⟩ [.if_ (.bin .nin (.v 2) (.v 1)) [.never] []]]
def zaE_:Fn:=fnOf gi 2 1 zaj_
def zcQ_:List S:=[.ret (.pu (.sl (.v 0) (vj (.bin .sub (.i (.v 1) 0) (.n 1))) (vj (.i (.v 1) 1))))]
def zcs_:Fn:=fnOf gi 2 0 zcQ_
def zaD_:List S:=[.asg 2 (.pu (.v 1)),.for_ .any [(.fld (.v 0) "picks")] ⟨vn,[3]⟩ [.asg 2 (.pu (.comp ["card"] [("pick",3)] .any [(.v 2)] ⟨vn,[0]⟩ (vj (.bin .eq (.call zcs_ "part_of" [(.v 0),(.i (.v 1) 0)]) (.i (.v 1) 1))) (.v 0)))],.ret (.mv 2)]
def zax_:Fn:=fnOf gi 2 2 zaD_
noncomputable def zaz_:List S:=[.if_ (.bin .is (.fld (.v 0) "middle") (.k .non)) [.ret (.mv 1)] [],.never,.never,.never,.never,.never,.never]
def zak_:Fn:=fnOf gi 3 3 zaz_
def zeF_:List S:=[.ret (.pu (.and (.bin .eq (.bf .len [(.v 0)]) (.n 1)) (.bin .inn (.v 0) (.g "SIGNS" (.str Qm0)))))]
def zeq_:Fn:=fnOf gi 1 0 zeF_
def zes_:List S:=[.if_ (.not (.call zeq_ "is_sign" [(.v 0)])) [.never] [],.ret (.pu (.sm .index (.g "SIGNS" (.str Qm0)) [(.v 0)]))]
def zet_:Fn:=fnOf gi 1 0 zes_
def zew_:List S:=[.ret (.pu (.bin .ix (.v 0) (.bin .sub (.v 1) (.n 1))))]
def zev_:Fn:=fnOf gi 2 0 zew_
def zbX_:List S:=[.ret (.pu (.comp ["column"] [("card",0)] .any [(.v 1)] ⟨vn,[0]⟩ vk (.call zet_ "rank_of" [(.call zev_ "sign_at" [(.v 1),(.v 0)])])))]
def zal_:Fn:=fnOf gi 2 0 zbX_
def zba_:List S:=[.ret (.pu (.srt "card" [("columns",1)] 0 (.call zal_ "ranks_at" [(.v 0),(.v 1)])))]
def zB_:Fn:=fnOf gi 2 0 zba_
def zaC_:List S:=[.asg 1 (.pu (.lst [])),.for_ .any [(.fld (.v 0) "order")] ⟨vn,[2]⟩ [.ex (.bm .extend (.v 1) [(.x (.call z9_ "columns_of" [(.v 2)]))])],.ret (.mv 1)]
def zau_:Fn:=fnOf gi 1 2 zaC_
noncomputable def zaA_:List S:=[.asg 2 (.pu (.v 1)),.for_ .any [(.fld (.v 0) "works")] ⟨vn,[3]⟩ [.never],.ret (.mv 2)]
def zas_:Fn:=fnOf gi 2 2 zaA_
def zao_:List S:=[.ex (.pu (.call zaE_ "check_trays" [(.v 0),(.v 1)])),.asg 2 (.pu (.call zax_ "picked_deck" [(.v 0),(.bin .ix (.v 1) (.fld (.v 0) "deck"))])),.asg 2 (.pu (.call zak_ "middle_deck" [(.v 0),(.v 2),(.v 1)])),.asg 2 (.pu (.call zB_ "put_in_order" [(.v 2),(.call zau_ "key_columns" [(.v 0)])])),.ret (.pu (.comp ["card"] [("asking",0)] .any [(.v 2)] ⟨vn,[0]⟩ vk (.call zas_ "worked_card" [(.v 1),(.v 0)])))]
def zu_:Fn:=fnOf gi 2 1 zao_
noncomputable abbrev zK_:=X.call zu_ "chosen_deck"
noncomputable def za3_:List S:=[.if_ (.or (.not (.isa (.v 0) "list")) (.bin .ne (.v 0) (.v 1))) [.ret (.pu (.k (.bl vn)))] [],.for_ .any [(.v 0)] ⟨vn,[2]⟩ [.if_ (.not (.isa (.v 2) "str")) [.ret (.pu (.k (.bl vn)))] []],.ret (.pu (.k (.bl vm)))]
def za0_:Fn:=fnOf gi 2 1 za3_
noncomputable abbrev zad_:=X.call za0_ "_law_texts"
def zpi_:List S:=[.asg 1 (.pu (.bin .add (.n 1) (.bin .mod (z2_ [(.v 0),(.n 0)]) (.n 32)))),.asg 2 (.pu (.call zaV_ "_law_signs" [(.bin .div (z2_ [(.v 0),(.n 0)]) (.n 32))])),.asg 3 (.pu (.call za4_ "_law_names" [(.bin .div (z2_ [(.v 0),(.n 1)]) (.n 3))])),.asg 4 (.pu (.call zH_ "_law_picks" [(.v 0),(.v 1),(.v 2)])),.asg 5 (.pu (.comp ["_law_k", "_law_cell_here"] [("_law_base",1),("_law_signs_here",2)] .en [(.sl (.v 0) (vj (.n 4)) (vj (.n 84)))] ⟨vm,[0,1]⟩ vk (.call zw_ "_law_card" [(.v 1),(.v 2),(.v 3),(.v 0)]))),.asg 6 (.pu (.lst [])),.for_ .any [(.v 5)] ⟨vn,[7]⟩ [.if_ (.bin .eq (.bf .len [(.comp ["_law_field_here", "_law_text"] [("_law_card_here",7)] .any [(.v 4)] ⟨vm,[0,1]⟩ (vj (.bin .ne (.sl (.v 2) (vj (.bin .sub (.i (.v 0) 0) (.n 1))) (vj (.i (.v 0) 1))) (.v 1))) (.v 1))]) (.n 0)) [.ex (.bm .append (.v 6) [(.x (.v 7))])] []],.asg 8 (.pu (.ds2 (.i (.v 3) 0) (.bf .list [(.v 5)]) (.i (.v 3) 1) (.sl (.v 5) vk (vj (.n 2))))),.asg 9 (.pu (.mkd zc_ "Asking" [(.i (.v 3) 0),(.v 4),(.k .non),(.lst [])] [.non,(.int 0),.non,(.int 6),.non])),.asg 10 (.pu (zK_ [(.v 9),(.v 8)])),.if_ (.or (.not (zad_ [(.v 10),(.v 6)])) (.bin .ned (.v 8) (.ds2 (.i (.v 3) 0) (.v 5) (.i (.v 3) 1) (.sl (.v 5) vk (vj (.n 2)))))) [.ret (.pu (.k (.bl vn)))] [],.ex (.bm .append (.v 10) [(.x (.k (.str [120])))]),.if_ (.not (zad_ [(zK_ [(.v 9),(.v 8)]),(.v 6)])) [.ret (.pu (.k (.bl vn)))] [],.if_ (.not (zad_ [(zK_ [(.v 9),(.ds1 (.i (.v 3) 0) (.sl (.v 5) (vj (.n 1)) vk))]),(.comp ["_law_card_here"] [("_law_deck",5)] .any [(.v 6)] ⟨vn,[0]⟩ (vj (.bin .inn (.v 0) (.sl (.v 1) (vj (.n 1)) vk))) (.v 0))])) [.ret (.pu (.k (.bl vn)))] [],.ret (.pu (zad_ [(zK_ [(.mkd zc_ "Asking" [(.i (.v 3) 0),(.lst []),(.k .non),(.lst [])] [.non,(.int 0),.non,(.int 6),.non]),(.v 8)]),(.v 5)]))]
def f_law:Fn:=fnOf gi 1 10 zpi_
set_option hygiene false in
local macro_rules | `(tactic|exists $ts,*) => `(tactic|first |simp only[S.runs, S.run, trD, zgJ_, ye_mv, zpK_, zqk_, to_ok, bm_v, sd_v, onS, call1, atS_0, atS_s, Bm.ty, Bm.f, zp1_, zmI_, ↓zcf_, ↓zpz_, ↓sq_ct, ↓sq_ex, ↓ziv_, ↓mr_ex, ↓zcC_, zcf_, zpz_, sq_ct, sq_ex, ziv_, mr_ex, zcC_, zn6_, ifM_t, ifM_f, and_t, and_f, or_t, or_f, noE, or_b, and_b, min_i, vd_mod, zhf_, zlH_, nw_bl, zkz_, zjQ_, zrf_, zq4_, nw_c, nw_0, Bool.and_true, Mo.lim_ok, ag_d, ag_0, znx_, zre_, zpM_, get_0, get_s, mv_0, mv_s, zic_, zF_, zmW_, zj4_, frzE, List.foldl_cons, List.foldl_nil, frz_0, frz_n, frz_s, X.uses, X.usesL, X.usesO, zV_, zir_, xv_v, znV_, xv_ch, zru_, zpX_, xv_or, zqp_, zpc_, zpa_, xv_sl, zpl_, zo3_, zqL_, zlC_, xv_bf, xv_lr, zqK_, zoE_, xs_0, xs_c, xo_0, xo_s, xt_0, xt_s, zmr_, zpu_, xk_bl, zqN_, zri_, zpF_, fz_ix, fz_in, zo1_, zlN_, zml_, fz_sl, zqC_, zmj_, znL_, zqE_, znM_, fz_is, zra_, fz_bl, zpE_, zrr_, fz_rv, zm3_, zng_, zlS_, fz_eq, zqi_, Bo.f, Bf.f, Ik.f, forS, evG, List.map_cons, List.map_nil, List.length_cons, List.length_nil, List.set_cons_zero, List.set_cons_succ, List.replicate_succ, List.replicate_zero, List.cons_append, List.nil_append, zrx_, zpe_, bl_vw, zqB_, zoJ_, znb_, ls_vw, zl3_, zS_, zoz_, zoV_, ls_sl, zco_, zlr_, zpT_, ls_rv, di_vw, zmx_, di_ix, di_in, znZ_, ls_in, zln_, zaR_, zbC_, vd_lt, vd_le, vd_gt, vd_ge, zoP_, zq2_, zo2_, vd_bl, vd_int, zrb_, Bool.not_true, Bool.not_false, if_true, if_false, Bool.false_eq_true, Bool.true_eq_false, Option.map_some, Option.map_none, Nat.reduceAdd, Nat.reduceLT, Nat.reduceLeDiff, Int.reduceLT, Int.reduceLE, Int.reduceNeg, Int.reduceAdd, Int.reduceSub, Nat.lt_add_one, Nat.zero_lt_succ, Nat.zero_add, setE, cE, List.getElem?_cons_succ, List.getElem?_cons_zero, Option.join_some, setG, true_and, Int.toNat_natCast, zfj_, $[$ts:term],*]|skip)
set_option hygiene false in
local macro_rules | `(tactic|fail "q") => `(tactic|first |exact⟨_, _, rfl, .inl rfl⟩|exact⟨_, _, rfl, .inr ⟨rfl, rfl⟩⟩|exact⟨_, _, rfl, .inr ⟨rfl, trivial⟩⟩)
noncomputable abbrev Fd:=Int×Int
def F2 (f:Fd):D:=.nd .tup [.int f.1,.int f.2]
instance:Im F2:=⟨λ_=>rfl⟩
abbrev Pk:=Fd×List Nat
def PK (p:Pk):D:=.nd .tup [F2 p.1,.str p.2]
instance:Im PK:=⟨λ_=>rfl⟩
abbrev Wk:=Fd×Fd×List Nat×Fd
def WK (w:Wk):D:=.nd .tup [F2 w.1,F2 w.2.1,.str w.2.2.1,F2 w.2.2.2]
instance:Im WK:=⟨λ_=>rfl⟩
theorem F2_0 (f:Fd):ixA (F2 f) (.int 0)=.ok (.int f.1):=rfl
theorem F2_1 (f:Fd):ixA (F2 f) (.int 1)=.ok (.int f.2):=rfl
theorem PK_0 (f:Pk):ixA (PK f) (.int 0)=.ok (F2 f.1):=rfl
theorem PK_1 (f:Pk):ixA (PK f) (.int 1)=.ok (.str f.2):=rfl
theorem WK_0 (f:Wk):ixA (WK f) (.int 0)=.ok (F2 f.1):=rfl
theorem WK_1 (f:Wk):ixA (WK f) (.int 1)=.ok (F2 f.2.1):=rfl
theorem WK_2 (f:Wk):ixA (WK f) (.int 2)=.ok (.str f.2.2.1):=rfl
theorem WK_3 (f:Wk):ixA (WK f) (.int 3)=.ok (F2 f.2.2.2):=rfl
theorem zdA_ (f:Fd):(F2 f).vw=F2 f:=rfl
theorem zmm_ (f:Pk):(PK f).vw=PK f:=rfl
theorem zlf_ (f:Wk):(WK f).vw=WK f:=rfl
theorem zj6_ (f:Fd):(F2 f).new=vm:=znb_ f
noncomputable def WFi:List Nat:=[102,105,114,115,116]
noncomputable def WMa:List Nat:=[109,97,116,101,115]
noncomputable def WWi:List Nat:=[119,105,116,104,111,117,116]
inductive Md where
 |no |fi (f:Fd)|ma (w n:Jx) (f g:Fd)
def MD:Md->D
 |.no=>.non
 |.fi f=>.nd .tup [.str WFi,F2 f]
 |.ma w n f g=>.nd .tup [.str w,.str n,F2 f,F2 g]
structure Ak where
 dk:List Nat
 pk:List Pk
 md:Md
 od:List Fd
 wk:List Wk
 br:Int
 su:List Fd
 fg:Int
 bd:List Fd
def aFs (A:Ak):List D:=[.str A.dk,LS PK A.pk,MD A.md,LS F2 A.od,LS WK A.wk,.int A.br,LS F2 A.su,.int A.fg,LS F2 A.bd]
def AO (A:Ak):D:=.nd (.obj "Asking" ["deck", "picks", "middle", "order", "works", "breaks", "sums", "figures", "board"]) (aFs A)
section
variable (A:Ak)
theorem zlh_:fldD gi.cs "deck" (AO A)=.ok (.str A.dk):=rfl
theorem zbr_:fldD gi.cs "picks" (AO A)=.ok (.fz (LS PK A.pk)):=rfl
theorem ziF_:fldD gi.cs "middle" (AO A)=.ok (MD A.md):=by cases h:A.md<;>· show Mq (MD A.md).vw=_;rw[h];rfl
theorem zbW_:fldD gi.cs "order" (AO A)=.ok (.fz (LS F2 A.od)):=rfl
theorem zbU_:fldD gi.cs "works" (AO A)=.ok (.fz (LS WK A.wk)):=rfl
theorem zhZ_:fldD gi.cs "breaks" (AO A)=.ok (.int A.br):=rfl
theorem ziR_:fldD gi.cs "sums" (AO A)=.ok (.fz (LS F2 A.su)):=rfl
theorem zfE_:fldD gi.cs "figures" (AO A)=.ok (.int A.fg):=rfl
theorem zkN_:fldD gi.cs "board" (AO A)=.ok (.fz (LS F2 A.bd)):=rfl
theorem zoI_:(AO A).vw=.fz (AO A):=rfl
theorem zr_:(D.fz (AO A)).vw=.fz (AO A):=rfl
end
def OkFd (f:Fd):Prop:=1<=f.1/\f.1<=f.2/\f.2<=36
def SG:List Nat:=Qm0
def LT:List Nat:=Qm1
def OkN (n:Jx):Prop:=1<=n.length/\n.length<=8/\∀c∈n,c∈LT
def OkK (sg:Int->Nat)(p:Pk):Prop:=OkFd p.1/\p.2=(rngI p.1.1 (p.1.2+1-p.1.1).toNat).map sg
def OkM (d:Jx):Md->Prop
 |.no=>True
 |.fi f=>OkFd f
 |.ma w n f g=>(w=WMa\/w=WWi)/\OkN n/\n≠d/\OkFd f/\OkFd g/\f.2-f.1=g.2-g.1
def WWo:Jy:=[[112,108,117,115],[108,101,115,115],[116,105,109,101,115]]
def OkW (w:Wk):Prop:=OkFd w.1/\OkFd w.2.1/\OkFd w.2.2.2/\w.2.2.1∈WWo
def apt (a b:Fd):Bool:=decide (a.2<b.1)||decide (b.2<a.1)
def midF:Md->List Fd
 |.no=>[]
 |.fi f=>[f]
 |.ma _ _ f g=>[f,g]
def gk (k:Int)(q:Int×Wk):List Fd:=(if q.1=k then[]else[q.2.1])++(if q.1<=k then[q.2.2.1,q.2.2.2.2]else[])
def kp (A:Ak)(k:Int):List Fd:=A.pk.map (·.1)++(midF A.md).take 1++A.od++(enumL A.wk).flatMap (gk k)
structure OkA (A:Ak):Prop where
 nm:OkN A.dk
 pl:A.pk.length<=8
 pk:∃sg:Int->Nat,(∀c,sg c∈SG)/\∀p∈A.pk,OkK sg p
 md:OkM A.dk A.md
 ol:A.od.length<=6
 od:∀f∈A.od,OkFd f
 wl:A.wk.length<=4
 wk:∀w∈A.wk,OkW w
 br:0<=A.br/\A.br<=3/\A.br<=A.od.length
 sl:A.su.length<=4
 su:∀f∈A.su,OkFd f
 fg:1<=A.fg/\A.fg<=12
 bl:A.bd.length<=9
 bd:(∀w∈A.bd,1<=w.1/\w.1<=40/\1<=w.2/\w.2<=36)/\A.bd.Pairwise λa b=>a.2<b.2
 ft:∀q∈enumL A.wk,∀f∈kp A q.1,apt q.2.1 f=vm
theorem zjJ_ (a b:Fd):zbu_.val [F2 a,F2 b]=.ok (.bl (apt a b)):=by
 refine zY_ rfl rfl λpn hp=>?_
 unfold zbx_
 exists hp,F2_0,F2_1
 fail "q"
theorem zd6_ (f:Fd):zbR_.val [F2 f]=.ok (.int (f.2-f.1+1)):=rfl
theorem zgG_ (w:Jx):zcz_.val [.bl vm,.str w]=.ok .non:=rfl
theorem zdG_ (i:Int):zbZ_.val [.int i]=.ok (.bl vm):=rfl
theorem fieldb {f:Fd}(h:OkFd f):zbY_.val [.int f.1,.int f.2]=.ok (.bl vm):=by
 obtain⟨h1,h2,h3⟩:=h;refine zY_ rfl rfl λpn hp=>?_
 unfold zb1_
 exists hp,zdG_,ch3D,chD,decide_eq_true h1,decide_eq_true h2,decide_eq_true h3
 fail "q"
theorem znl_ {f:Fd}(h:OkFd f):z9_.val [F2 f]=.ok (LS .int (rngI f.1 (f.2+1-f.1).toNat)):=by
 obtain⟨h1,h2,h3⟩:=h;refine zY_ rfl rfl λpn hp=>?_
 unfold zaZ_;have e:lrD (.int f.1) (.int (f.2+1))=.ok (LS .int (rngI f.1 (f.2+1-f.1).toNat)):=by
  show Mo.grd _ (Mq (D.nd .lst (((rngI f.1 (f.2+1-f.1).toNat).map D.int).map .vw)))=_
  rw[Mo.grd_ok (by lia),zfZ_];rfl
 exists hp,F2_0,F2_1,e
 fail "q"
theorem zpv_ {A:Ak}(h:OkM A.dk A.md):zbT_.val [.fz (AO A)]=.ok (.bl (match A.md with |.ma _ _ _ _=>vm |_=>vn)):=by
 obtain⟨a,b,m,r⟩:=A;cases m with
 |no=>rfl
 |fi=>rfl
 |ma w n f g=>rcases h.1 with rfl |rfl<;>rfl
theorem zgo_ {A:Ak}(h:OkM A.dk A.md):zX_.val [.fz (AO A)]=.ok (LS .str (match A.md with |.ma _ n _ _=>[A.dk,n]|_=>[A.dk])):=by
 obtain⟨a,b,m,r⟩:=A;cases m with
 |no=>rfl
 |fi=>rfl
 |ma w n f g=>rcases h.1 with rfl |rfl<;>rfl
theorem zj2_ {A:Ak}(h:OkM A.dk A.md):zQ_.val [.fz (AO A)]=.ok (LS F2 (midF A.md)):=by
 obtain⟨a,b,m,r⟩:=A;cases m with
 |no=>rfl
 |fi=>rfl
 |ma w n f g=>rcases h.1 with rfl |rfl<;>rfl
theorem zog_ {A:Ak}(h:OkM A.dk A.md):zv_.val [.fz (AO A)]=.ok .non:=by
 obtain⟨a,b,m,r⟩:=A;cases m with
 |no=>rfl
 |fi=>rfl
 |ma w n f g=>rcases h.1 with rfl |rfl<;>rfl
theorem zmG_ {A:Ak}(h:OkA A):zR_.val [.fz (AO A)]=.ok .non:=by
 have h1:=h.pl;have h2:=h.ol;have h3:=h.wl;have h4:=h.sl;refine zY_ rfl rfl λpn hp=>?_
 unfold zT_
 exists hp,zr_,zbr_,zbW_,zbU_,ziR_,decide_eq_true (show(A.pk.length:Int)<=8 by lia),decide_eq_true (show(A.od.length:Int)<=6 by lia),decide_eq_true (show(A.wk.length:Int)<=4 by lia),decide_eq_true (show(A.su.length:Int)<=4 by lia),zgG_
 fail "q"
theorem lt_in {c:Nat}(h:c∈LT):inA vn (.str [c]) (.str LT)=.ok (.bl vm):=by
 show Mq (D.bl (decide (c∈LT)))=_
 rw[decide_eq_true h]
theorem sg_in {c:Nat}(h:c∈SG):inA vn (.str [c]) (.str SG)=.ok (.bl vm):=by
 show Mq (D.bl (decide (c∈SG)))=_
 rw[decide_eq_true h]
theorem bls_t:∀(l:List Bool),blsD (l.map .bl)=vj l
 |[]=>rfl
 |b::l=>by rw[lB,blsD,bls_t l];rfl
theorem zrp_ (l:List Bool):allD [LS .bl l]=.ok (.bl (l.all id)):=by
 show(match blsD (l.map .bl)with |some bs=>Mq (D.bl (bs.all id))|none=>.no)=_
 rw[bls_t]
theorem znF_ {α:Type}{p:α->Bool}(l:List α)(h:∀x∈l,p x=vm):allD [LS .bl (l.map p)]=.ok (.bl vm):=by
 rw[zrp_,uB,mG.mpr];intro x hx;exact h x hx
theorem lnS_ {l:List Nat}(h:l.length<=100000):lenA [.str l]=.ok (.int l.length):=by
 show Mo.lim _ _=_
 rw[Mo.lim_ok h]
theorem zhm_ (l:Jx):walkA [.str l]=.ok (l.map λc=>.str [c]):=rfl
theorem zns_ {n:List Nat}(h:OkN n):zcV_.val [.str n]=.ok (.bl vm):=by
 obtain⟨h1,h2,h3⟩:=h;refine zY_ rfl rfl λpn hp=>?_
 unfold zcK_
 exists hp,chD,lnS_ (show n.length<=100000 by lia),decide_eq_true (show(1:Int)<=n.length by lia),decide_eq_true (show(n.length:Int)<=8 by lia)
 rw[xcompN (f:=λ_:Nat=>vm) (o:=.bl) n rfl (by exists zhm_;rfl) (zV_ _ _) (λc hc=>by exact lt_in (h3 c hc)) (by lia)]
 exists znF_ n (p:=λ_=>vm) (λ_ _=>rfl)
 fail "q"
theorem zkb_ {n:List Nat}(hl:n.length<=100000)(h:∀c∈n,c∈SG):zaN_.val [.str n]=.ok (.bl vm):=by
 refine zY_ rfl rfl λpn hp=>?_
 unfold zbA_
 exists hp
 rw[xcompN (f:=λ_:Nat=>vm) (o:=.bl) n rfl (by exists zhm_;rfl) (zV_ _ _) (λc hc=>by exact sg_in (h c hc)) hl]
 exists znF_ n (p:=λ_=>vm) (λ_ _=>rfl)
 fail "q"
theorem ziA_ {A:Ak}(h:OkA A):zL_.val [.fz (AO A)]=.ok .non:=by
 have key:∀(ns:Jy) (c:Bool),zX_.val [.fz (AO A)]=.ok (LS .str ns)->(∀n∈ns,OkN n)->eqD vm (.str (ns.headD [])) (.str (ns.getLastD []))=.ok (.bl c)->ixA (LS .str ns) (.int 0)=.ok (.str (ns.headD []))->ixA (LS .str ns) (.int (-1))=.ok (.str (ns.getLastD []))->(c ||decide ((ns.length:Int)=1))=vm->zL_.val [.fz (AO A)]=.ok .non:=λns c e cR hc h0 h1 bI=>by
  refine zY_ rfl rfl λpn hp=>?_
  unfold zaH_
  exists hp,zr_,e
  refine zda_ (a:=[_,_]) (b:=[]) rfl (hp _) (λn hn=>?_) (λo=>?_)
  ·exists hp,zns_ (cR n hn),zgG_
   exact⟨_,_,rfl,rfl,rfl⟩
  ·exists hp,h0,h1,hc,bI,zgG_
   fail "q"
 have e:=zgo_ h.md;have hm:=h.md
 revert e hm
 cases A.md with
 |no=>exact λe _=>key _ vn e (λn hn=>by rw[mz.mp hn];exact h.nm) (by rw[zbC_];simp) rfl rfl rfl
 |fi=>exact λe _=>key _ vn e (λn hn=>by rw[mz.mp hn];exact h.nm) (by rw[zbC_];simp) rfl rfl rfl
 |ma w n f g=>
  intro e hm;refine key _ vm e (λx hx=>?_) ?_ rfl rfl rfl
  ·rcases lQ.mp hx with rfl |hx
   ·exact h.nm
   ·rw[mz.mp hx];exact hm.2.1
  ·rw[zbC_]
   show Mq (D.bl (if vm=vm then !decide (A.dk=n)else _))=_
   rw[if_pos rfl,decide_eq_false (λz=>hm.2.2.1 z.symm)];rfl
theorem flen {α β:Type}{n:Nat}{f:α->List β}:∀(l:List α),(∀x,(f x).length<=n)->(l.flatMap f).length<=n*l.length
 |[],_=>by simp
 |x::l,h=>by rw[qA,lF,lG,uY];have:=flen l h;have:=h x;lia
theorem zrt_ {A:Ak}(h:OkA A):za9_.val [.fz (AO A)]=.ok (LS F2 (A.pk.map (·.1)++midF A.md++A.od++A.su++A.wk.flatMap λw=>[w.1,w.2.1,w.2.2.2])):=by
 have h1:=h.pl;have h2:=h.ol;have h3:=h.wl;have h4:=h.sl;have h5:(midF A.md).length<=2:=by unfold midF;split<;>simp
 refine zY_ rfl rfl λpn hp=>?_
 unfold zaY_
 exists hp,zr_
 rw[xcompN (f:=λp:Pk=>p.1) (o:=F2) A.pk rfl (by exists zr_,zbr_;rfl) (zV_ _ _) (λc hc=>rfl) (by lia)]
 exists hp,zr_,zj2_ h.md,zbW_,ziR_,zbU_,zfB_ (g:=F2) (a:=A.pk.map (·.1)) (b:=midF A.md) (by rw[lq];lia),zfB_ (g:=F2) (a:=A.pk.map (·.1)++midF A.md) (b:=A.od) (by rw[lF,lq];lia),zfB_ (g:=F2) (a:=A.pk.map (·.1)++midF A.md++A.od) (b:=A.su) (by rw[lF,lF,lq];lia)
 generalize hs:A.pk.map (·.1)++midF A.md++A.od++A.su=s
 have jC:s.length<=20:=by rw[<- hs];simp;lia
 refine zcY_ (l:=A.wk) (enc:=λw=>[WK w]) (λd e=>∃o,e=[vj (.fz (AO A)),vj (LS F2 (s++d.flatMap λw=>[w.1,w.2.1,w.2.2.2])),o]) ⟨_,by rw[qN,nG]⟩ (λd x r e hl he=>?_) (λe he=>?_)
 ·obtain⟨o,rfl⟩:=he
  refine⟨_,by exists hp;rfl,?_⟩
  have e:extendF [LS F2 (s++d.flatMap λw=>[w.1,w.2.1,w.2.2.2]),.nd .lst [F2 x.1,F2 x.2.1,F2 x.2.2.2]]=.ok .non [_,_]:=zkW_ (b:=[x.1,x.2.1,x.2.2.2]) (by
   have:=flen (n:=3) (f:=λw:Wk=>[w.1,w.2.1,w.2.2.2]) d (λ_=>by simp)
   rw[hl]at h3;rw[lF]at h3 ⊢;simp only[lG,oX];lia)
  exists hp,zlf_,WK_0,WK_1,WK_3,zj6_,e
  exact⟨_,_,rfl,.inl ⟨.inl rfl,vj (WK x),by rw[qj];simp⟩⟩
 ·obtain⟨o,rfl⟩:=he
  exists hp
  fail "q"
theorem cpicks1 {A:Ak}(h:OkA A){sg:Int->Nat}(hs:∀c,sg c∈SG){p:Pk}(hk:OkK sg p):zaN_.val [.str p.2]=.ok (.bl vm)/\lenA [.str p.2]=.ok (.int (p.1.2-p.1.1+1)):=by
 obtain⟨⟨f1,f2,f3⟩,e⟩:=hk;have el:p.2.length=(p.1.2+1-p.1.1).toNat:=by rw[e,lq,zd3_]
 refine⟨zkb_ (by lia) (λc hc=>?_),?_⟩
 ·rw[e]at hc
  obtain⟨x,_,rfl⟩:=nW.mp hc;exact hs x
 ·rw[lnS_ (by lia),el];congr 2;lia
def cl (f:Fd):List Int:=rngI f.1 (f.2+1-f.1).toNat
def PP (sg:Int->Nat)(c:Int):D:=.nd .tup [.str [112,105,99,107],.int c,.str [sg c]]
def KD (sg:Int->Nat)(ks:List Int):D:=DI .str (ks.map λc=>(c,[sg c]))
def adp (m:List Int)(c:Int):List Int:=if c∈m then m else m++[c]
def ddp (l:List Int):List Int:=l.foldl adp []
section
variable {sg:Int->Nat}
instance:Im (PP sg):=⟨λ_=>rfl⟩
theorem PP_0 (c:Int):ixA (PP sg c) (.int 0)=.ok (.str [112,105,99,107]):=rfl
theorem PP_1 (c:Int):ixA (PP sg c) (.int 1)=.ok (.int c):=rfl
theorem PP_2 (c:Int):ixA (PP sg c) (.int 2)=.ok (.str [sg c]):=rfl
theorem PP_vw (c:Int):(PP sg c).vw=PP sg c:=rfl
theorem zm0_ (ks:List Int)(c:Int):dgt (ks.map λc=>(c,[sg c])) c=if c∈ks then vj [sg c]else vk:=by
 induction ks with
 |nil=>rfl
 |cons k ks ih=>
  rw[lB,dgt];by_cases h:k=c
  ·subst h;rw[if_pos rfl,if_pos (by simp)]
  ·rw[if_neg h,ih]
   simp[pN h]
theorem zkJ_ (l:List Int)(c:Int):ddp (l++[c])=adp (ddp l) c:=by unfold ddp;rw[sG];rfl
theorem zlY_ (m:List Int)(c:Int):(adp m c).length<=m.length+1:=by unfold adp;split<;>simp
theorem zgj_:∀(l m:List Int),(l.foldl adp m).length<=m.length+l.length
 |[],m=>by simp
 |c::l,m=>by have:=zgj_ l (adp m c);have:=zlY_ m c;rw[pP,lG];lia
theorem zor_ (l:List Int):(ddp l).length<=l.length:=by have:=zgj_ l [];rw[oX,rf]at this;exact this
theorem zkE_ {f:Fd}(h:OkFd f):(cl f).length<=36:=by unfold cl;rw[zd3_];obtain⟨a,b,c⟩:=h;lia
theorem flenM {α β:Type}{n:Nat}{f:α->List β}:∀(l:List α),(∀x∈l,(f x).length<=n)->(l.flatMap f).length<=n*l.length
 |[],_=>by simp
 |x::l,h=>by rw[qA,lF,lG,uY];have:=flenM l λy hy=>h y (lV _ hy);have:=h x lW;lia
theorem zob_ (l:List Int):zipD [LS .int l,.str (l.map sg)]=.ok (l.map λc=>.nd .tup [.int c,.str [sg c]]):=by
 show Mq (((l.map D.int).zip (l.map sg)).map λq=>D.nd .tup [q.1,.str [q.2]])=_
 rw[List.zip_map',mD];rfl
theorem zhT_ {A:Ak}(fO:A.pk.length<=8)(hk:∀p∈A.pk,OkK sg p):zam_.val [.fz (AO A)]=.ok (LS (PP sg) (A.pk.flatMap λp=>cl p.1)):=by
 refine zY_ rfl rfl λpn hp=>?_
 unfold zaG_
 exists hp,zr_,zbr_
 refine zcY_ (l:=A.pk) (enc:=λw=>[PK w]) (λd e=>∃o,e=[vj (.fz (AO A)),vj (LS (PP sg) (d.flatMap λp=>cl p.1)),o]) ⟨vk,rfl⟩ (λd x r e hl he=>?_) (λe he=>?_)
 ·obtain⟨o,rfl⟩:=he
  refine⟨_,by exists hp;rfl,?_⟩
  have hx:=hk x (by rw[hl];simp)
  have e1:x.2=(cl x.1).map sg:=hx.2;have hlen:(d.flatMap λp=>cl p.1).length<=36*d.length:=flenM d λy hy=>zkE_ (hk y (by rw[hl];simp[hy])).1
  have kY:=zkE_ hx.1;rw[hl,lF]at fO
  exists hp,zmm_
  rw[xcompN (f:=λc:Int=>c) (o:=PP sg) (T:=λc=>[.int c,.str [sg c]]) (cl x.1) rfl (by exists zmm_,PK_0,PK_1,zdA_,znl_ hx.1,e1,zob_;exact zob_ _) (zir_ _ _ _) (λc hc=>rfl) (by lia)]
  exists hp,pF,zkW_ (g:=PP sg) (a:=d.flatMap λp=>cl p.1) (b:=cl x.1) (by lia)
  exact⟨_,_,rfl,.inl ⟨.inl rfl,vj (PK x),by rw[qj];simp⟩⟩
 ·obtain⟨o,rfl⟩:=he
  exists hp
  fail "q"
theorem zip_ (cs:List Int)(hl:cs.length<=1000):zC_.val [.fz (LS (PP sg) cs)]=.ok (KD sg (ddp cs)):=by
 refine zY_ rfl rfl λpn hp=>?_
 unfold zaa_
 exists hp
 refine zcY_ (l:=cs) (enc:=λw=>[PP sg w]) (λd e=>∃o,e=[vj (.fz (LS (PP sg) cs)),vj (KD sg (ddp d)),o]) ⟨vk,rfl⟩ (λd x r e cT he=>?_) (λe he=>?_)
 ·obtain⟨o,rfl⟩:=he
  refine⟨_,by exists hp;rfl,?_⟩
  have hlen:=zor_ d;rw[cT,lF]at hl;rw[zkJ_];have ek:eqD vm (.str [sg x]) (.str [sg x])=.ok (.bl vn):=by rw[zbC_];simp
  have ep:eqD vn (.str [112,105,99,107]) (.str [112,105,99,107])=.ok (.bl vm):=by rw[zbC_];simp
  by_cases hc:x∈ddp d
  ·have es:setdF [KD sg (ddp d),.int x,.str [sg x]]=_:=zmD_ (g:=.str) (v:=[sg x]) (w:=[sg x]) (by rw[zm0_,if_pos hc])
   rw[show adp (ddp d) x=ddp d from if_pos hc]
   have ik:isK "dict" (KD sg (ddp d))=vm:=rfl
   exists hp,PP_vw,PP_0,PP_1,PP_2,ep,es,ik,ek
   exact⟨_,_,rfl,.inl ⟨.inl rfl,vj (PP sg x),rfl⟩⟩
  ·have es:setdF [KD sg (ddp d),.int x,.str [sg x]]=_:=zlW_ (g:=.str) (v:=[sg x]) (by rw[zm0_,if_neg hc]) (by rw[lq];lia)
   have ik:isK "dict" (KD sg (ddp d))=vm:=rfl
   exists hp,PP_vw,PP_0,PP_1,PP_2,ep,es,ik,ek
   exact⟨_,_,rfl,.inl ⟨.inl rfl,vj (PP sg x),by unfold KD adp;rw[if_neg hc,ng];rfl⟩⟩
 ·obtain⟨o,rfl⟩:=he
  exists hp
  fail "q"
end
theorem KD_vw {sg:Int->Nat}(ks:List Int):(KD sg ks).vw=.fz (KD sg ks):=rfl
theorem zqv_ {sg:Int->Nat}(ks:List Int):isD vm (KD sg ks) .non=.ok (.bl vm):=rfl
theorem zig_ {A:Ak}{sg:Int->Nat}(fO:A.pk.length<=8)(hk:∀p∈A.pk,OkK sg p):zC_.val [.fz (LS (PP sg) (A.pk.flatMap λp=>cl p.1))]=.ok (KD sg (ddp (A.pk.flatMap λp=>cl p.1))):=
 zip_ _ (by have:(A.pk.flatMap λp=>cl p.1).length<=36*A.pk.length:=flenM A.pk λy hy=>zkE_ (hk y hy).1;lia)
theorem zhA_ {A:Ak}(h:OkA A):zar_.val [.fz (AO A)]=.ok .non:=by
 obtain⟨sg,hs,hk⟩:=h.pk;refine zY_ rfl rfl λpn hp=>?_
 unfold zaw_
 exists hp,zr_,zbr_
 refine zda_ (a:=[_]) (b:=[]) rfl (hp _) (λp jG=>?_) (λo=>?_)
 ·obtain⟨e1,e2⟩:=cpicks1 h hs (hk p jG)
  exists hp,zmm_,PK_0,PK_1,zdA_,e1,e2,zd6_,zaR_,decide_true,zgG_
  exact⟨_,_,rfl,rfl,rfl⟩
 ·exists hp,zr_,zhT_ h.pl hk,zig_ h.pl hk,zqv_,zgG_
  fail "q"
theorem zna_ {A:Ak}(h:OkA A):zs_.val [.fz (AO A)]=.ok .non:=by
 have e:=zj2_ h.md;have hm:=h.md
 revert e hm
 cases A.md with
 |no=>
  intro e _;refine zY_ rfl rfl λpn hp=>?_
  unfold zi_;have e0:trD (LS F2 [])=.ok vn:=rfl
  exists hp,zr_,e,midF
  have:trD (.fz (LS F2 []))=.ok vn:=rfl;exact⟨_,_,rfl,.inr ⟨rfl,by first |rfl |trivial⟩⟩
 |fi f=>
  intro e _;refine zY_ rfl rfl λpn hp=>?_
  unfold zi_;have e0:ixA (LS F2 [f]) (.int 0)=.ok (F2 f):=rfl;have e1:ixA (LS F2 [f]) (.int (-1))=.ok (F2 f):=rfl
  exists hp,zr_,e,midF,e0,e1,zdA_,zd6_,zaR_,decide_true,zgG_
  exact⟨_,_,rfl,.inr ⟨rfl,by first |rfl |trivial⟩⟩
 |ma w n f g=>
  intro e hm;refine zY_ rfl rfl λpn hp=>?_
  unfold zi_;have e0:ixA (LS F2 [f,g]) (.int 0)=.ok (F2 f):=rfl;have e1:ixA (LS F2 [f,g]) (.int (-1))=.ok (F2 g):=rfl
  exists hp,zr_,e,midF,e0,e1,zdA_,zd6_,zaR_,decide_eq_true (show f.2-f.1+1=g.2-g.1+1 by have:=hm.2.2.2.2.2;lia),zgG_
  exact⟨_,_,rfl,.inr ⟨rfl,by first |rfl |trivial⟩⟩
theorem zos_ {v m:Int}(h:1<=v/\v<=m):zaJ_.val [.int v,.int m]=.ok (.bl vm):=by
 refine zY_ rfl rfl λpn hp=>?_
 unfold zbv_
 exists hp,zdG_,chD,decide_eq_true h.1,decide_eq_true h.2
 fail "q"
def ld (ws:List Fd):List (Int×Fd):=ws.map λw=>(w.2,w)
theorem znK_ {ws:List Fd}{i:Int}(h:∀w∈ws,w.2≠i):dgt (ld ws) i=vk:=by
 induction ws with
 |nil=>rfl
 |cons w ws ih=>unfold ld at ih ⊢;rw[lB,dgt,if_neg (h w lW)];exact ih λx hx=>h x (lV _ hx)
theorem zn2_ {ws:List Fd}(hp:ws.Pairwise λa b=>a.2<b.2){w:Fd}(h:w∈ws):dgt (ld ws) w.2=vj w:=by
 induction ws with
 |nil=>cases h
 |cons x ws ih=>
  rw[qm]at hp;unfold ld at ih ⊢;rw[lB,dgt];rcases lQ.mp h with rfl |h
  ·rw[if_pos rfl]
  ·rw[if_neg (by have:=hp.1 w h;lia)];exact ih hp.2 h
theorem zkM_ {ws:List Fd}(hl:ws.length<=9)(h1:∀w∈ws,1<=w.1/\w.1<=40/\1<=w.2/\w.2<=36)(h2:ws.Pairwise λa b=>a.2<b.2):za8_.val [.fz (LS F2 ws)]=.ok (LS F2 ws):=by
 refine zY_ rfl rfl λpn hp=>?_
 unfold za6_
 exists hp
 refine zda_ (a:=[_]) (b:=[_]) rfl (hp _) (λw hw=>?_) (λo=>?_)
 ·obtain⟨a1,a2,a3,a4⟩:=h1 w hw
  exists hp,zdA_,F2_0,F2_1,zos_ ⟨a1,a2⟩,zos_ ⟨a3,a4⟩
  exact⟨_,_,rfl,rfl,rfl⟩
 ·exists hp
  refine zcY_ (l:=ws) (enc:=λw=>[F2 w]) (λd e=>∃o,e=[vj (.fz (LS F2 ws)),o,vj (DI F2 (ld d))]) ⟨_,rfl⟩ (λd x r e cT he=>?_) (λe he=>?_)
  ·obtain⟨o,rfl⟩:=he
   refine⟨_,by exists hp;rfl,?_⟩
   have hn:dgt (ld d) x.2=vk:=znK_ λw hw=>by
    rw[cT,List.pairwise_append]at h2;have:=h2.2.2 w hw x lW;lia
   rw[cT,lF]at hl
   exists hp,zdA_,F2_1,hn,Option.isSome_none
   rw[zlP_ (d:=F2 x) (a:=.int x.2) rfl (zj6_ x) rfl rfl rfl (zpg_ (g:=F2) (m:=ld d) (i:=x.2) (v:=x) (by unfold ld;rw[lq];lia))]
   exists hp
   refine⟨_,_,rfl,.inl ⟨.inl rfl,vj (F2 x),?_⟩⟩;rw[(zeD_ (g:=F2) (ld d)).1 hn];unfold ld;rw[ng];rfl
  ·obtain⟨o,rfl⟩:=he
   exists hp
   have es:srtI ((ld ws).map (·.1))=.ok (.nd .lst (ws.map λw=>.int w.2)):=by
    have e0:(ld ws).map (·.1)=ws.map (·.2):=by unfold ld;rw[mD];rfl
    unfold srtI;rw[e0,Mo.grd_ok (by rw[lq];lia),<- zbH_ zlu_ (ws:=ws.map (·.2)) (tR _) ?_,mD]
    ·rfl
    ·rw[List.pairwise_map]
     exact h2.imp λ{a b} h=>by show decide _=vn;exact decide_eq_false (by lia)
   rw[xcompN (f:=λw:Fd=>w) (o:=F2) (T:=λw=>[.int w.2]) (items:=ws.map λw=>.int w.2) ws rfl (by exists es;rfl) (zV_ _ _) (λc hc=>?_) (by lia)]
   ·exists hp,pF
    fail "q"
   ·show ixA (.fz (DI F2 (ld ws))) (.int c.2)=_
    rw[fz_ix,di_ix,zn2_ h2 hc];rfl
theorem rf_F2 (n:Nat)(w:Fd):eqT (n+1) (F2 w) (F2 w)=vj vm:=zqZ_ λd hd=>by
 rcases lQ.mp hd with rfl |hd
 ·rw[zhI_,decide_eq_true rfl]
 ·rw[mz.mp hd,zhI_,decide_eq_true rfl]
theorem zqV_ {ws:List Fd}(hl:ws.length<=9)(h1:∀w∈ws,1<=w.1/\w.1<=40/\1<=w.2/\w.2<=36)(h2:ws.Pairwise λa b=>a.2<b.2):zcb_.val [.fz (LS F2 ws)]=.ok (.bl vm):=by
 refine zY_ rfl rfl λpn hp=>?_
 unfold zca_;have e:eqD vn (LS F2 ws) (LS F2 ws)=.ok (.bl vm):=zgA_ (c:=vm) (zoS_ (n:=11) λd hd=>by obtain⟨w,_,rfl⟩:=nW.mp hd;exact rf_F2 10 w)
 exists hp,zkM_ hl h1 h2,e
 fail "q"
theorem zlQ_ {A:Ak}(h:OkA A):zG_.val [.fz (AO A)]=.ok .non:=by
 obtain⟨b1,b2,b3⟩:=h.br;obtain⟨g1,g2⟩:=h.fg;refine zY_ rfl rfl λpn hp=>?_
 unfold zD_
 exists hp,zr_,zhZ_,zbW_,zfE_,zkN_,zdG_,chD,decide_eq_true b1,decide_eq_true b2,decide_eq_true b3,decide_eq_true g1,decide_eq_true g2,zqV_ h.bl h.bd.1 h.bd.2,zgG_
 fail "q"
theorem zjq_ (l:List Wk):enumD [LS WK l]=.ok ((enumL l).map λq=>.nd .tup [.int q.1,WK q.2]):=by
 show Mq ((enumL (l.map WK)).map λq=>D.nd .tup [.int q.1,q.2])=_
 unfold enumL;rw[lq,se,mD,mD,mD];rfl
theorem zmJ_ {A:Ak}(h:OkA A)(k:Int):zan_.val [.fz (AO A),.int k]=.ok (LS F2 (kp A k)):=by
 have h1:=h.pl;have h2:=h.ol;have h3:=h.wl;have h5:((midF A.md).take 1).length<=1:=by rw[mS];lia
 refine zY_ rfl rfl λpn hp=>?_
 unfold zap_
 exists hp,zr_
 rw[xcompN (f:=λp:Pk=>p.1) (o:=F2) A.pk rfl (by exists zr_,zbr_;rfl) (zV_ _ _) (λc hc=>rfl) (by lia)]
 exists hp,zr_,zj2_ h.md,zbW_,zbU_,zfY_ (show(0:Int)<=1 by lia),show(1:Int).toNat=1 from rfl,zfB_ (g:=F2) (a:=A.pk.map (·.1)) (b:=(midF A.md).take 1) (by rw[lq];lia),zfB_ (g:=F2) (a:=A.pk.map (·.1)++(midF A.md).take 1) (b:=A.od) (by rw[lF,lq];lia),zjq_
 unfold kp
 generalize hs:A.pk.map (·.1)++(midF A.md).take 1++A.od=s
 have jC:s.length<=15:=by rw[<- hs];simp;lia
 refine zcY_ (l:=enumL A.wk) (enc:=λq=>[.int q.1,WK q.2]) (λd e=>∃o o',e=[vj (.fz (AO A)),vj (.int k),vj (LS F2 (s++d.flatMap (gk k))),o,o']) ⟨vk,vk,by rw[qN,nG]⟩ (λd x r e hl he=>?_) (λe he=>?_)
 ·obtain⟨o,o',rfl⟩:=he
  refine⟨_,by exists hp;rfl,?_⟩
  have hlen:(d.flatMap (gk k)).length<=3*d.length:=flenM d λq _=>by unfold gk;split<;>split<;>simp
  have hle:d.length<=4:=by have:=zy_ A.wk;rw[hl,lF]at this;lia
  generalize hd:s++d.flatMap (gk k)=m
  have iK:m.length<=30:=by rw[<- hd,lF];lia
  rw[qj,<- nC,hd,qA,qN,nG];have ea:appendF [LS F2 m,F2 x.2.1]=_:=zij_ (g:=F2) (l:=m) (x:=x.2.1) (by lia)
  have eb:∀m:List Fd,m.length<=31->extendF [LS F2 m,.nd .lst [F2 x.2.2.1,F2 x.2.2.2.2]]=.ok .non [LS F2 (m++[x.2.2.1,x.2.2.2.2]),_]:=λm hm=>zkW_ (b:=[x.2.2.1,x.2.2.2.2]) (by simp only[lG,oX];lia)
  unfold gk;by_cases c1:x.1=k
  ·have c2:x.1<=k:=by lia
   rw[if_pos c1,if_pos c2]
   exists hp,zlf_,WK_0,WK_1,WK_3,zdA_,zj6_,zaR_,decide_eq_true c1,decide_eq_true c2,eb m (by lia)
   exact⟨_,_,rfl,.inl ⟨.inl rfl,vj (.int x.1),vj (WK x.2),rfl⟩⟩
  ·rw[if_neg c1]
   by_cases c2:x.1<=k
   ·rw[if_pos c2]
    exists hp,zlf_,WK_0,WK_1,WK_3,zdA_,zj6_,zaR_,decide_eq_false c1,decide_eq_true c2,ea,eb (m++[x.2.1]) (by simp;lia)
    exact⟨_,_,rfl,.inl ⟨.inl rfl,vj (.int x.1),vj (WK x.2),by simp⟩⟩
   ·rw[if_neg c2]
    exists hp,zlf_,WK_0,WK_1,WK_3,zdA_,zj6_,zaR_,decide_eq_false c1,decide_eq_false c2,ea
    exact⟨_,_,rfl,.inl ⟨.inl rfl,vj (.int x.1),vj (WK x.2),by simp⟩⟩
 ·obtain⟨o,o',rfl⟩:=he
  exists hp
  fail "q"
theorem zkg_ {w:List Nat}(h:w∈WWo):inA vn (.str w) (.nd .ktup (WWo.map .str))=.ok (.bl vm):=by
 unfold WWo at h;simp only[lQ,pE,or_false]at h;rcases h with rfl |rfl |rfl<;>rfl
theorem zlt_ {A:Ak}(h:OkA A):zaF_.val [.fz (AO A)]=.ok .non:=by
 refine zY_ rfl rfl λpn hp=>?_
 unfold zav_
 exists hp,zr_,zbU_,zjq_
 refine zcY_ (l:=enumL A.wk) (enc:=λq=>[.int q.1,WK q.2]) (λd e=>∃a b o,e=[vj (.fz (AO A)),a,b,o]) ⟨vk,vk,vk,rfl⟩ (λd x r e hl he=>?_) (λe he=>?_)
 ·obtain⟨o1,o2,o3,rfl⟩:=he
  refine⟨_,by exists hp;rfl,?_⟩
  have hx:x∈enumL A.wk:=by rw[hl];simp
  have hw:x.2∈A.wk:=by obtain⟨i,_,_,e2⟩:=zer_ hx;exact m8 e2
  have ew:∀env,X.ev gi env (.gt "WORK_WORDS" WWo)=.ok (.nd .ktup (WWo.map .str)):=λenv=>xv_gt _ _ (by decide)
  have e2:=zkg_ (h.wk x.2 hw).2.2.2;unfold WWo at ew e2;simp only[lB,nL]at e2
  exists hp,zlf_,WK_2,zr_,zmJ_ h,ew,e2,zgG_
  refine zda_ (a:=[_,_,_]) (b:=[]) rfl (hp _) (λf hf=>?_) (λo=>?_)
  ·exists hp,zlf_,WK_0,zdA_,zjJ_,h.ft x hx f hf,zgG_
   exact⟨_,_,rfl,rfl,rfl⟩
  ·exists hp
   exact⟨_,_,rfl,.inl ⟨.inl rfl,_,_,_,rfl⟩⟩
 ·obtain⟨a,b,o,rfl⟩:=he
  exists hp
  fail "q"
theorem zhe_ {A:Ak}(h:OkA A):zae_.val [.fz (AO A)]=.ok .non:=by
 refine zY_ rfl rfl λpn hp=>?_
 unfold z5_
 exists hp,zr_,zmG_ h,zog_ h.md,ziA_ h,zrt_ h
 refine zda_ (a:=[_]) (b:=[]) rfl (hp _) (λf hf=>?_) (λo=>?_)
 ·have hF:OkFd f:=by
   obtain⟨sg,_,hk⟩:=h.pk;have hm:=h.md;rcases m9.mp hf with hf |hf
   ·rcases m9.mp hf with hf |hf
    ·rcases m9.mp hf with hf |hf
     ·rcases m9.mp hf with hf |hf
      ·obtain⟨p,hp,rfl⟩:=nW.mp hf;exact(hk p hp).1
      ·revert hm hf
       cases A.md with
       |no=>intro _ hf;cases hf
       |fi g=>intro hm hf;rw[mz.mp hf];exact hm
       |ma w n f g=>
        intro hm hf;rcases lQ.mp hf with rfl |hf
        ·exact hm.2.2.2.1
        ·rw[mz.mp hf];exact hm.2.2.2.2.1
     ·exact h.od f hf
    ·exact h.su f hf
   ·obtain⟨w,hw,hf⟩:=List.mem_flatMap.mp hf
    obtain⟨a,b,c,_⟩:=h.wk w hw;simp only[lQ,pE,or_false]at hf;rcases hf with rfl |rfl |rfl
    ·exact a
    ·exact b
    ·exact c
  exists hp,zdA_,F2_0,F2_1,fieldb hF,zgG_
  exact⟨_,_,rfl,rfl,rfl⟩
 ·exists hp,zr_,zhA_ h,zna_ h,zlQ_ h,zlt_ h
  fail "q"
theorem zkv_ {α:Type}{g:α->D}[Im g](l:List α):zz_.val [.fz (LS g l)]=.ok (LS g l):=by
 refine zY_ rfl rfl λpn hp=>?_
 unfold zbk_;have e:isD vn (LS g l) .non=.ok (.bl vn):=rfl
 exists hp,e
 fail "q"
def AL (A:Ak):D:=.nd .lst [.str A.dk,.fz (LS PK A.pk),MD A.md,.fz (LS F2 A.od),LS WK A.wk,.int A.br,.fz (LS F2 A.su),.int A.fg,.fz (LS F2 A.bd)]
theorem zmN_ (m:Md):(MD m).imm=vm:=by cases m<;>rfl
theorem zq5_ (m:Md):(MD m).vw=MD m:=by unfold D.vw;rw[zmN_];rfl
theorem zpt_ (m:Md):(MD m).new=vm:=zfP_ _ (zmN_ m)
theorem init_eq {A:Ak}(h:OkA A):∃ds,zc_ [.nd (.obj "Asking" []) [],.str A.dk,.fz (LS PK A.pk),MD A.md,.fz (LS F2 A.od),.fz (LS WK A.wk),.int A.br,.fz (LS F2 A.su),.int A.fg,.fz (LS F2 A.bd)]=.ok .non (AO A::ds):=by
 have mv:(MD A.md).vw=MD A.md:=zq5_ _;have mn:(MD A.md).new=vm:=zpt_ _;have main:∀pn:Nat->Bool,∃e,S.runs gi pn zg_ [vj (.nd (.obj "Asking" []) []),vj (.str A.dk),vj (.fz (LS PK A.pk)),vj (MD A.md),vj (.fz (LS F2 A.od)),vj (.fz (LS WK A.wk)),vj (.int A.br),vj (.fz (LS F2 A.su)),vj (.int A.fg),vj (.fz (LS F2 A.bd))]=.ok .nx (vj (AO A)::e):=λpn=>by
  unfold zg_;rw[S.runs,S.run,zag_ (d:=.str A.dk) rfl rfl rfl (by decide) (by decide) (by decide),zcf_]
  rw[S.runs,S.run,zag_ (d:=LS PK A.pk) (by exists zco_) zS_ rfl (by decide) (by decide) (by decide),zcf_]
  rw[S.runs,S.run,zag_ (d:=MD A.md) (by exists mv) mn rfl (by decide) (by decide) (by decide),zcf_]
  rw[S.runs,S.run,zag_ (d:=LS F2 A.od) (by exists zco_) zS_ rfl (by decide) (by decide) (by decide),zcf_]
  rw[S.runs,S.run,zag_ (d:=LS WK A.wk) (by exists zkv_) zS_ rfl (by decide) (by decide) (by decide),zcf_]
  rw[S.runs,S.run,zag_ (d:=.int A.br) rfl rfl rfl (by decide) (by decide) (by decide),zcf_]
  rw[S.runs,S.run,zag_ (d:=LS F2 A.su) (by exists zkv_) zS_ rfl (by decide) (by decide) (by decide),zcf_]
  rw[S.runs,S.run,zag_ (d:=.int A.fg) rfl rfl rfl (by decide) (by decide) (by decide),zcf_]
  rw[S.runs,S.run,zag_ (d:=LS F2 A.bd) (by exists zkv_) zS_ rfl (by decide) (by decide) (by decide),zcf_]
  have e0:∀l,getE (vj (D.nd (.obj "Asking" ["deck", "picks", "middle", "order", "works", "breaks", "sums", "figures", "board"]) (aFs A))::l) 0=.ok (.fz (AO A)):=λl=>rfl
  unfold aFs at e0
  exists e0,zr_,zhe_ h
  exact⟨_,rfl⟩
 obtain⟨e,he⟩:=main (pins [.nd (.obj "Asking" []) [],.str A.dk,.fz (LS PK A.pk),MD A.md,.fz (LS F2 A.od),.fz (LS WK A.wk),.int A.br,.fz (LS F2 A.su),.int A.fg,.fz (LS F2 A.bd)]);exact⟨_,zoB_ (G:=gi) (n:=10) (m:=0) (body:=zg_) (ds:=[.nd (.obj "Asking" []) [],.str A.dk,.fz (LS PK A.pk),MD A.md,.fz (LS F2 A.od),.fz (LS WK A.wk),.int A.br,.fz (LS F2 A.su),.int A.fg,.fz (LS F2 A.bd)]) rfl he⟩
theorem AL_2v (A:Ak):ixA (AL A) (.int 2)=.ok (MD A.md).vw:=rfl
theorem rg1 {j:Int}(h0:0<=j)(h:j<=100000):rng1D [D.int j]=Mq ((mj j.toNat).map λi:Nat=>D.int (0+(i:Int))):=by
 unfold rng1D;dsimp only;rw[VI.vd_int,zcC_,Mo.grd_ok ⟨by lia,by lia⟩]
 unfold rngI;rw[mD];rfl
section
variable (ns:List Int)
theorem zoe_ {k:Int}(h0:0<=k)(h1:k<=1000):∃c,z1_.val [scr ns,.int k]=.ok (.int c):=by
 by_cases hk:k<(ns.length:Int)
 ·refine⟨ns.getD k.toNat 0,zY_ rfl rfl λpn hp=>?_⟩
  unfold z3_
  exists hp,zg5_,decide_eq_true hk,VI.vd_ix h0 hk
  fail "q"
 ·by_cases hl:(0:Int)<(ns.length:Int)
  ·have m0:=mL (k*7) (show(ns.length:Int)≠0 by lia)
   have m1:=mB (k*7) hl
   generalize hx:ns.getD (k*7 % (ns.length:Int)).toNat 0=x
   have n0:=mL (x*48271+k*7919) (show(2147483647:Int)≠0 by lia)
   have n1:=mB (x*48271+k*7919) (show(0:Int)<2147483647 by lia)
   refine⟨(x*48271+k*7919) % 2147483647*((x*48271+k*7919) % 2147483647) % 2147483629,zY_ rfl rfl λpn hp=>?_⟩
   unfold z3_;have e1:ixA (scr ns) (.int (k*7 % (ns.length:Int)))=.ok (.int x):=by rw[VI.vd_ix m0 m1,hx]
   have e2:modD (.int (k*7)) (.int (ns.length:Int))=.ok (.int (k*7 % (ns.length:Int))):=VI.vd_mod hl
   generalize hy:(x*48271+k*7919) % 2147483647=y at n0 n1 ⊢
   exists hp,zg5_,decide_eq_false hk,decide_eq_true hl,e1,e2,hy,zjl_ (i:=y) (j:=y) (by lia) (by lia)
   fail "q"
  ·refine⟨(k*7919+5)*(k*7919+5) % 2147483629,zY_ rfl rfl λpn hp=>?_⟩
   unfold z3_
   exists hp,zg5_,decide_eq_false hk,decide_eq_false hl,zjl_ (i:=k*7919+5) (j:=k*7919+5) (by lia) (by lia)
   fail "q"
def cel (k:Int):Int:=match z1_.val [scr ns,.int k]with |.ok (.int c)=>c |_=>0
theorem zex_ {k:Int}(h0:0<=k)(h1:k<=1000):z1_.val [scr ns,.int k]=.ok (.int (cel ns k)):=by
 obtain⟨c,e⟩:=zoe_ ns h0 h1;unfold cel;rw[e]
end
theorem zju_ (c b:Int):∃f:Fd,za5_.val [.int c,.int b]=.ok (F2 f)/\b<=f.1/\f.1<=f.2/\f.2<=b+4/\f.2<=f.1+2:=by
 have m0:=mL c (show(5:Int)≠0 by lia)
 have m1:=mB c (show(0:Int)<5 by lia)
 have hm:0<min 3 (5-c % 5):=by lia
 have k0:=mL (c / 5) (show min 3 (5-c % 5)≠0 by lia)
 have k1:=mB (c / 5) hm;refine⟨(b+c % 5,b+c % 5+c / 5 % min 3 (5-c % 5)),zY_ rfl rfl λpn hp=>?_,by show b<=b+c % 5;lia,by show b+c % 5<=b+c % 5+_;lia,by show b+c % 5+_<=b+4;lia,by show b+c % 5+_<=b+c % 5+2;lia⟩
 unfold za2_
 exists hp,VI.vd_mod hm
 fail "q"
theorem zoL_ {i:Int}(h0:0<=i)(h1:i<37):∃s,s∈SG/\ixA (.str SG) (.int i)=.ok (.str [s]):=by
 obtain⟨s,e,hs⟩:=zfq_ (xs:=SG) h0 (show i<(SG.length:Int)from h1)
 refine⟨s,hs,?_⟩;show Mo.lim SG.length (Mo.opt ((atI SG i).map λc=>D.str [c]))=_
 rw[Mo.lim_ok (by decide),e];rfl
theorem zkK_ (x:Int):∃a b c:Nat,zaV_.val [.int x]=.ok (LS .str [[a],[b],[c]])/\a∈SG/\b∈SG/\c∈SG:=by
 obtain⟨a,ha,ea⟩:=zoL_ (mL x (show(37:Int)≠0 by lia)) (mB x (show(0:Int)<37 by lia))
 obtain⟨b,hb,eb⟩:=zoL_ (mL (x % 37+1+x / 37 % 36) (show(37:Int)≠0 by lia)) (mB (x % 37+1+x / 37 % 36) (show(0:Int)<37 by lia))
 obtain⟨c,hc,ec⟩:=zoL_ (mL ((x % 37+1+x / 37 % 36) % 37+1+x / 1332 % 36) (show(37:Int)≠0 by lia)) (mB ((x % 37+1+x / 37 % 36) % 37+1+x / 1332 % 36) (show(0:Int)<37 by lia))
 refine⟨a,b,c,zY_ rfl rfl λpn hp=>?_,ha,hb,hc⟩
 unfold za1_;unfold SG at ea eb ec
 exists hp,ea,eb,ec
 fail "q"
theorem zkS_ {α:Type}(xs:List α)(i k:Nat)(h:i<=xs.length):cutG xs (vj (i:Int)) (vj ((i:Int)+k))=(xs.drop i).take k:=by
 have e:cutG xs (vj (i:Int)) (vj ((i:Int)+k))=(xs.drop i).take (min (i+k) xs.length-i):=by
  unfold cutG HT.sIx;simp only[];rw[if_neg (by lia),if_neg (by lia),show min ((i:Int)+k).toNat xs.length=min (i+k) xs.length by lia,show min (i:Int).toNat xs.length=i by lia]
 rw[e];by_cases z:i+k<=xs.length
 ·congr 1;lia
 ·rw[oU (by rw[mY];lia),oU (by rw[mY];lia)]
def LY:List Nat:=Qm2
theorem zko_ (x:Int):∃a b:List Nat,za4_.val [.int x]=.ok (LS .str [a,b])/\OkN a/\OkN b/\b≠a:=by
 have m0:=mL x (show(22:Int)≠0 by lia)
 have m1:=mB x (show(0:Int)<22 by lia)
 have k0:=mL (x / 22) (show(4:Int)≠0 by lia)
 have k1:=mB (x / 22) (show(0:Int)<4 by lia)
 obtain⟨i,hi⟩:=nu m0;obtain⟨j,hj⟩:=nu k0
 generalize ho:(LY.drop i).take (1+j)=one
 have kX:one.length=1+j:=by rw[<- ho,mS,mY];show min (1+j) (25-i)=_;lia
 have dS:∀c∈one,c∈LY:=λc hc=>by rw[<- ho]at hc;exact qa (rH hc)
 have s1:slA (.str LY) (vj (x % 22)) (vj (x % 22+1+x / 22 % 4))=.ok (.str one):=by
  show Mo.lim LY.length (Mq (D.str (cutG LY _ _)))=_
  rw[Mo.lim_ok (by decide),hi,hj,show((i:Int)+1+j)=(i:Int)+((1+j:Nat):Int) by lia,zkS_ LY i (1+j) (by show i<=25;lia),ho]
 have iL:(0:Int)<(one.length:Int):=by lia
 have a0:=mL (x / 88) (show(one.length:Int)≠0 by lia)
 have a1:=mB (x / 88) iL;obtain⟨t,ht⟩:=nu a0;have dP:t<one.length:=by lia
 have e2:modD (.int (x / 88)) (.int (one.length:Int))=.ok (.int (x / 88 % (one.length:Int))):=VI.vd_mod iL;have s2:slA (.str one) vk (vj (t:Int))=.ok (.str (one.take t)):=by
  show Mo.lim one.length (Mq (D.str (cutG one _ _)))=_
  rw[Mo.lim_ok (by lia),zfY_ (by lia),qx]
 have s3:slA (.str one) (vj ((t:Int)+1)) vk=.ok (.str (one.drop (t+1))):=by
  show Mo.lim one.length (Mq (D.str (cutG one _ _)))=_
  rw[Mo.lim_ok (by lia),zej_ (by lia),show((t:Int)+1).toNat=t+1 by lia]
 have s4:addA (.str (one.take t)) (.str [122])=.ok (.str (one.take t++[122])):=by
  show Mo.lim _ _=_
  rw[Mo.lim_ok (by rw[mS];simp;lia)]
 have s5:addA (.str (one.take t++[122])) (.str (one.drop (t+1)))=.ok (.str (one.take t++[122]++one.drop (t+1))):=by
  show Mo.lim _ _=_
  rw[Mo.lim_ok (by simp;lia)]
 have j8:∀c∈LY,c∈LT:=by decide
 have h1:OkN one:=⟨by lia,by lia,λc hc=>j8 c (dS c hc)⟩
 have h2:OkN (one.take t++[122]++one.drop (t+1)):=⟨by simp;lia,by simp;lia,λc hc=>by
  rcases m9.mp hc with hc |hc
  ·rcases m9.mp hc with hc |hc
   ·exact h1.2.2 c (rH hc)
   ·rw[mz.mp hc];decide
  ·exact h1.2.2 c (qa hc)⟩
 have bW:one.take t++[122]++one.drop (t+1)≠one:=λz=>by
  have e1:(one.take t++[122]++one.drop (t+1))[t]?=vj 122:=by
   rw[nC,mH (by rw[mS];lia),mS,tE (by lia),qZ];rfl
  rw[z]at e1;have:=dS 122 (m8 e1);exact absurd this (by decide)
 unfold LY at s1;by_cases c:x / 352 % 2=1
 ·refine⟨one.take t++[122]++one.drop (t+1),one,zY_ rfl rfl λpn hp=>?_,h2,h1,bW.symm⟩
  unfold z7_
  exists hp,s1,lnS_ (show one.length<=100000 by lia),e2,ht,s2,s3,s4,s5,zaR_,decide_eq_true c
  fail "q"
 ·refine⟨one,one.take t++[122]++one.drop (t+1),zY_ rfl rfl λpn hp=>?_,h1,h2,bW⟩
  unfold z7_
  exists hp,s1,lnS_ (show one.length<=100000 by lia),e2,ht,s2,s3,s4,s5,zaR_,decide_eq_false c
  fail "q"
theorem zmU_ {n m:Nat}{body:List S}{ds:List D}{d:D}{e:VI.Env}(hl:ds.length=n)(hc:D.colds ds=vm)(h:S.runs gi (pins ds) body (ds.map vj++lR m vk)=.ok (.rt d) e):fnOf gi n m body ds=.ok d ds:=by
 unfold fnOf;rw[if_pos hl,h];show Mr.ok d (outs ds e)=_
 rw[zbg_ hc]
def GM (m:List (Int×List Nat)):Prop:=∀q∈m,∃s,s∈SG/\q.2=[s]
def Has (m:List (Int×List Nat))(f:Int)(t:Jx):Prop:=∀(i:Nat) s,t[i]?=vj s->dgt m (f+(i:Int))=vj [s]
def Le (m m':List (Int×List Nat)):Prop:=∀i v,dgt m i=vj v->dgt m' i=vj v
theorem zfN_:∀{m:List (Int×List Nat)}{i:Int}{v:List Nat},dgt m i=vj v->(i,v)∈m
 |q::m,i,v,h=>by
  rw[dgt]at h;split at h
  ·rename_i e;cases h;rw[<- e];exact lW
  ·exact lV _ (zfN_ h)
theorem zi7_ {m:List (Int×List Nat)}{i k:Int}{v w:List Nat}(h:dgt m i=vj v):dgt (m++[(k,w)]) i=vj v:=by
 induction m with
 |nil=>cases h
 |cons q m ih=>
  rw[dgt]at h;rw[mK,dgt];split
  ·rename_i e;rw[if_pos e]at h;exact h
  ·rename_i e;rw[if_neg e]at h;exact ih h
theorem zmu_ {m:List (Int×List Nat)}{k:Int}{w:List Nat}(h:dgt m k=vk):dgt (m++[(k,w)]) k=vj w:=by
 induction m with
 |nil=>simp[dgt]
 |cons q m ih=>
  rw[dgt]at h;rw[mK,dgt];split
  ·rename_i e;rw[if_pos e]at h;cases h
  ·rename_i e;rw[if_neg e]at h;exact ih h
theorem Has.le {m m':List (Int×List Nat)}{f:Int}{t:List Nat}(h:Has m f t)(l:Le m m'):Has m' f t:=λi s e=>l _ _ (h i s e)
theorem zoC_ {m:List (Int×List Nat)}{f:Int}{t:List Nat}{s:Nat}(g:GM m)(hs:s∈SG)(h:Has m f t)(hl:m.length<1000):∃m' s',setdF [DI .str m,.int (f+(t.length:Int)),.str [s]]=.ok (.str [s']) [DI .str m',.int (f+(t.length:Int)),.str [s]]/\GM m'/\Le m m'/\Has m' f (t++[s'])/\m'.length<=m.length+1:=by
 have fin:∀{m':List (Int×List Nat)}{s':Nat},Le m m'->dgt m' (f+(t.length:Int))=vj [s']->Has m' f (t++[s']):=λ{m' s'} l e i u hu=>by
  by_cases hi:i<t.length
  ·rw[mU hi]at hu;exact l _ _ (h i u hu)
  ·have:i=t.length:=by have:=(lO.mp hu).1;simp at this;lia
   subst this;rw[mH (lC _),qZ]at hu;cases hu;exact e
 cases e:dgt m (f+(t.length:Int))with
 |none=>
  refine⟨m++[(_,[s])],s,zlW_ (g:=.str) (v:=[s]) e (by lia),λq hq=>?_,λi v hv=>zi7_ hv,fin (λi v hv=>zi7_ hv) (zmu_ e),by simp⟩
  rcases m9.mp hq with hq |hq
  ·exact g q hq
  ·rw[mz.mp hq];exact⟨s,hs,rfl⟩
 |some v=>
  obtain⟨s',cP,e'⟩:=g _ (zfN_ e);have e':v=[s']:=e';subst e';exact⟨m,s',zmD_ (g:=.str) (v:=[s]) e,g,λ_ _ h=>h,fin (λ_ _ h=>h) e,by lia⟩
theorem sg3 {a b c:Nat}(ha:a∈SG)(hb:b∈SG)(hc:c∈SG)(y:Int):∃s,s∈SG/\ixA (LS .str [[a],[b],[c]]) (.int (y % 3))=.ok (.str [s]):=by
 obtain⟨x,e,hx⟩:=zfq_ (xs:=[[a],[b],[c]]) (mL y (show(3:Int)≠0 by lia)) (show y % 3<((3:Nat):Int)from mB y (by lia))
 have:∃s,s∈SG/\x=[s]:=by
  simp only[lQ,pE,or_false]at hx;rcases hx with rfl |rfl |rfl
  ·exact⟨a,ha,rfl⟩
  ·exact⟨b,hb,rfl⟩
  ·exact⟨c,hc,rfl⟩
 obtain⟨s,hs,rfl⟩:=this;exact⟨s,hs,by rw[zoV_,e];rfl⟩
theorem zpw_ {j:Nat}(h:j<3):∃q:Int,0<q/\q<1000/\ixA (.nd .lst [.int 15,.int 45,.int 135]) (.int (0+(j:Int)))=.ok (.int q):=by
 rcases(show j=0\/j=1\/j=2 by lia)with rfl |rfl |rfl
 ·exact⟨15,by lia,by lia,rfl⟩
 ·exact⟨45,by lia,by lia,rfl⟩
 ·exact⟨135,by lia,by lia,rfl⟩
def PkH (lo hi:Int)(m:List (Int×List Nat))(p:Pk):Prop:=OkFd p.1/\Has m p.1.1 p.2/\p.2.length=(cl p.1).length/\lo<=p.1.1/\p.1.2<=hi/\(cl p.1).length<=3
def PkR (lo hi:Int)(sg:Int->Nat)(ps:List Pk):Prop:=(∀c,sg c∈SG)/\∀p∈ps,OkK sg p/\lo<=p.1.1/\p.1.2<=hi/\(cl p.1).length<=3
theorem zqI_ {lo hi:Int}{m:List (Int×List Nat)}{ps:List Pk}(g:GM m)(h:∀p∈ps,PkH lo hi m p):∃sg,PkR lo hi sg ps:=by
 refine⟨λc=>match dgt m c with |some [s]=>s |_=>32,λc=>?_,λp hp=>?_⟩
 ·cases e:dgt m c with
  |none=>simp only[e];decide
  |some v=>
   obtain⟨s,hs,e'⟩:=g _ (zfN_ e);have e':v=[s]:=e';subst e';simp only[e];exact hs
 ·obtain⟨h1,h2,h3,h4,h5,h6⟩:=h p hp
  refine⟨⟨h1,?_⟩,h4,h5,h6⟩;show p.2=(cl p.1).map _
  refine List.ext_getElem (by rw[lq,h3]) λi i1 i2=>?_
  rw[qO];have hc:(cl p.1)[i]'(by rw[lq]at i2;exact i2)=p.1.1+(i:Int):=by unfold cl rngI;simp
  rw[hc];have:=h2 i _ (lA i1);simp only[this]
theorem zk3_ (ns:List Int){b:Int}(hb:1<=b/\b<=32){x y z:Nat}(hx:x∈SG)(hy:y∈SG)(hz:z∈SG):∃ps sg,zH_.val [scr ns,.int b,.fz (LS .str [[x],[y],[z]])]=.ok (LS PK ps)/\ps.length<=2/\PkR b (b+4) sg ps:=by
 suffices main:∃ps m,zH_.val [scr ns,.int b,.fz (LS .str [[x],[y],[z]])]=.ok (LS PK ps)/\ps.length<=2/\GM m/\∀p∈ps,PkH b (b+4) m p by
  obtain⟨ps,m,h1,h2,h3,h4⟩:=main;obtain⟨sg,h5⟩:=zqI_ h3 h4;exact⟨ps,sg,h1,h2,h5⟩
 have m0:=mL (cel ns 1) (show(3:Int)≠0 by lia)
 have m1:=mB (cel ns 1) (show(0:Int)<3 by lia)
 have key:∀pn:Nat->Bool,(∀i,pn i=vn)->En (S.runs gi pn zI_ ([scr ns,.int b,.fz (LS .str [[x],[y],[z]])].map vj++lR 7 vk)) λo _=>∃ps m,o=.rt (LS PK ps)/\ps.length<=2/\GM m/\∀p∈ps,PkH b (b+4) m p:=λpn hp=>by
  unfold zI_;rw[zcg_ (d:=DI .str []) (by rw[zgJ_,zoE_];exact zF_ (d:=DI .str []) _ zmx_) (hp _)]
  rw[zcg_ (d:=LS PK []) (by rw[zgJ_];exact zF_ (d:=LS PK []) _ zS_) (hp _)]
  have er:rng1D [.int (cel ns 1 % 3)]=_:=rg1 m0 (by lia)
  refine zbE_ (l:=mj (cel ns 1 % 3).toNat) (enc:=λi:Nat=>[.int (0+(i:Int))]) (d:=.int (cel ns 1 % 3)) (λd e=>∃ps m o5 o6 o7 o8 o9,e=[vj (scr ns),vj (.int b),vj (.fz (LS .str [[x],[y],[z]])),vj (DI .str m),vj (LS PK ps),o5,o6,o7,o8,o9]/\ps.length=d.length/\m.length<=3*d.length/\GM m/\∀p∈ps,PkH b (b+4) m p) (by exists zex_ ns (show(0:Int)<=1 by lia) (by lia)) er (zV_ _ _) ⟨[],[],vk,vk,vk,vk,vk,rfl,rfl,mq _,(λq hq=>by cases hq),λp hp=>by cases hp⟩ (λd k r e hl he=>?_) (λe he=>?_)
  ·obtain⟨ps,m,o5,o6,o7,o8,o9,rfl,aN,iK,hg,fM⟩:=he
   have iP:d.length+1<=2:=by have:=congrArg p6 hl;simp at this;lia
   have fR:k<2:=by
    have:k∈mj (cel ns 1 % 3).toNat:=by rw[hl];simp
    have:=mV.mp this;lia
   refine⟨[vj (scr ns),vj (.int b),vj (.fz (LS .str [[x],[y],[z]])),vj (DI .str m),vj (LS PK ps),vj (.int (0+(k:Int))),o6,o7,o8,o9],(by exists hp),?_⟩
   generalize hc:cel ns (2+(0+(k:Int)))=c
   obtain⟨f,ef,f1,f2,f3,f4⟩:=zju_ c b;rw[zcg_ (d:=.int c) (by exists zex_ ns (show(0:Int)<=2+(0+(k:Int)) by lia) (by lia),hc) (hp _)]
   rw[zcg_ (d:=F2 f) (by exists ef,zj6_) (hp _)]
   rw[zcg_ (d:=.str []) (by exists hp) (hp _)]
   have hF:OkFd f:=⟨by lia,f2,by lia⟩
   have iQ:(cl f).length=(f.2-f.1+1).toNat:=by unfold cl;rw[zd3_];lia
   have kg:rng1D [.int (f.2-f.1+1)]=_:=rg1 (by lia) (by lia)
   refine zbE_ (l:=mj (f.2-f.1+1).toNat) (enc:=λi:Nat=>[.int (0+(i:Int))]) (d:=.int (f.2-f.1+1)) (λd2 e=>∃m2 t o9,e=[vj (scr ns),vj (.int b),vj (.fz (LS .str [[x],[y],[z]])),vj (DI .str m2),vj (LS PK ps),vj (.int (0+(k:Int))),vj (.int c),vj (F2 f),vj (.str t),o9]/\GM m2/\Le m m2/\Has m2 f.1 t/\t.length=d2.length/\m2.length<=m.length+d2.length) (by exists zdA_,F2_0,F2_1) kg (zV_ _ _) ⟨m,[],o9,rfl,hg,λ_ _ h=>h,(λi s e=>by simp at e),rfl,by simp⟩ (λd2 j r2 e dq he=>?_) (λe he=>?_)
   ·obtain⟨m2,t,o9,rfl,hg2,hle,aS,dP,hm2⟩:=he
    have hj:j=d2.length:=by
     have:=congrArg (λl=>l[d2.length]?) dq
     simp at this;have aB:d2.length<(f.2-f.1+1).toNat:=by have:=congrArg p6 dq;simp at this;lia
     rw[lA (by simpa using aB)]at this
     simpa using this.symm
    have jP:j<3:=by
     have:j∈mj (f.2-f.1+1).toNat:=by rw[dq];simp
     have:=mV.mp this;lia
    refine⟨[vj (scr ns),vj (.int b),vj (.fz (LS .str [[x],[y],[z]])),vj (DI .str m2),vj (LS PK ps),vj (.int (0+(k:Int))),vj (.int c),vj (F2 f),vj (.str t),vj (.int (0+(j:Int)))],(by exists hp),?_⟩
    obtain⟨q,q0,q1,eq⟩:=zpw_ jP;obtain⟨s,hs,es⟩:=sg3 hx hy hz (c / q);obtain⟨m3,s',e3,g3,l3,h3,n3⟩:=zoC_ hg2 hs aS (by lia)
    have hU:f.1+(0+(j:Int))=f.1+(t.length:Int):=by rw[dP,hj];lia
    have km:addA (.str t) (.str [s'])=.ok (.str (t++[s'])):=by show Mo.lim _ _=_;rw[Mo.lim_ok (by simp;lia)]
    have kl:divD (.int c) (.int q)=.ok (.int (c / q)):=zhf_ q0 (by lia)
    rw[zj9_ (d:=.str (t++[s'])) (e:=[vj (scr ns),vj (.int b),vj (.fz (LS .str [[x],[y],[z]])),vj (DI .str m3),vj (LS PK ps),vj (.int (0+(k:Int))),vj (.int c),vj (F2 f),vj (.str t),vj (.int (0+(j:Int)))]) (by exists zdA_,F2_0,eq,kl,es,hU,e3,km,zmI_) (hp _) (show 8<10 by decide),S.runs]
    exact⟨_,_,rfl,.inl ⟨.inl rfl,m3,t++[s'],_,rfl,g3,λi v hv=>l3 i v (hle i v hv),h3,by rw[lF,lF,dP];rfl,by rw[lF];simp;lia⟩⟩
   ·obtain⟨m2,t,o9,rfl,hg2,hle,aS,dP,hm2⟩:=he
    rw[mM]at dP hm2;have ea:appendF [LS PK ps,.nd .tup [F2 f,.str t]]=_:=zij_ (g:=PK) (l:=ps) (x:=(f,t)) (by lia)
    rw[zoM_ (d:=.non) (e:=[vj (scr ns),vj (.int b),vj (.fz (LS .str [[x],[y],[z]])),vj (DI .str m2),vj (LS PK (ps++[(f,t)])),vj (.int (0+(k:Int))),vj (.int c),vj (F2 f),vj (.str t),o9]) (by exists zdA_,zj6_,ea),S.runs]
    refine⟨_,_,rfl,.inl ⟨.inl rfl,ps++[(f,t)],m2,_,_,_,_,_,rfl,by rw[lF,lF,aN];rfl,by rw[lF];simp;lia,hg2,λp hp=>?_⟩⟩
    rcases m9.mp hp with hp |hp
    ·obtain⟨a1,a2,a3,a4⟩:=fM p hp
     exact⟨a1,a2.le hle,a3,a4⟩
    ·rw[mz.mp hp]
     exact⟨hF,aS,by rw[dP,iQ],f1,f3,by rw[iQ];lia⟩
  ·obtain⟨ps,m,o5,o6,o7,o8,o9,rfl,aN,iK,hg,fM⟩:=he
   exists hp
   rw[mM]at aN;exact⟨_,_,rfl,ps,m,rfl,by lia,hg,fM⟩
 have hf:zH_=fnOf gi 3 7 zI_:=rfl;obtain⟨o,e,h1,ps,m,rfl,h2,h3,h4⟩:=key (pins [scr ns,.int b,.fz (LS .str [[x],[y],[z]])]) (zcT_ rfl);exact⟨ps,m,by rw[hf];exact zkG_ (zmU_ rfl rfl h1),h2,h3,h4⟩
abbrev Cds:=Jy
def LG (l:Cds):Prop:=l.length<64/\∀c∈l,c.length<=1000
def pt (f:Fd)(c:Jx):List Nat:=cutG c (vj (f.1-1)) (vj f.2)
theorem zhR_ {c:List Nat}{lo hi:Option Int}(h:c.length<=1000):slA (.str c) lo hi=.ok (.str (cutG c lo hi)):=by
 show Mo.lim _ _=_;rw[Mo.lim_ok (by lia)]
theorem znP_ {c:List Nat}{f:Fd}(h:c.length<=1000):zcs_.val [.str c,F2 f]=.ok (.str (pt f c)):=by
 refine zY_ rfl rfl λpn hp=>?_
 unfold zcQ_;have e:slA (.str c) (vj (f.1-1)) (vj f.2)=.ok (.str (pt f c)):=zhR_ h
 exists hp,F2_0,F2_1,e
 fail "q"
def hit (p:Pk)(c:Jx):Bool:=decide (pt p.1 c=p.2)
def flt (ps:List Pk)(cs:Cds):Cds:=ps.foldl (λl p=>l.filter (hit p)) cs
theorem zf2_:∀(ps:List Pk) {cs:Cds},LG cs->LG (flt ps cs)
 |[],_,h=>h
 |p::ps,cs,h=>zf2_ ps (cs:=cs.filter (hit p)) ⟨r9 (rA _ _) h.1,λc hc=>h.2 c (qb.mp hc).1⟩
def LF (cs:Cds)(ps:List Pk):D:=if ps=[]then .fz (LS .str cs)else LS .str (flt ps cs)
theorem LF_vw (cs:Cds)(ps:List Pk):(LF cs ps).vw=.fz (LS .str (flt ps cs)):=by
 unfold LF;cases ps with
 |nil=>rfl
 |cons=>rfl
theorem pts_1 (l:Cds)(i:Nat):tgsD ⟨vn,[i]⟩ (l.map D.str)=vj (l.map λc=>[D.str c]):=zV_ _ _
theorem zgM_ {A:Ak}{cs:Cds}(h:LG cs):zax_.val [.fz (AO A),.fz (LS .str cs)]=.ok (LF cs A.pk):=by
 refine zY_ rfl rfl λpn hp=>?_
 unfold zaD_;rw[zcg_ (d:=.fz (LS .str cs)) (by exists hp) (hp _)]
 refine zbE_ (l:=A.pk) (enc:=λp=>[PK p]) (d:=.fz (LS PK A.pk)) (λd e=>∃o,e=[vj (.fz (AO A)),vj (.fz (LS .str cs)),vj (LF cs d),o]) (by exists zr_,zbr_) (by exists hp) (zV_ _ _) ⟨vk,rfl⟩ (λd p r e hl he=>?_) λe he=>?_
 ·obtain⟨o,rfl⟩:=he
  refine⟨[vj (.fz (AO A)),vj (.fz (LS .str cs)),vj (LF cs d),vj (PK p)],(by exists hp,zmm_),?_⟩
  have hd:=zf2_ d h;rw[zcg_ (d:=LS .str ((flt d cs).filter (hit p))) ?_ (hp _)]
  ·refine⟨_,_,rfl,.inl ⟨.inl rfl,vj (PK p),?_⟩⟩
   have e:LF cs (d++[p])=LS .str ((flt d cs).filter (hit p)):=by
    unfold LF;rw[if_neg (by simp)];unfold flt;rw[sG];rfl
   rw[e];rfl
  ·rw[zgJ_]
   rw[xcomp (p:=hit p) (f:=λx:List Nat=>x) (o:=.str) (T:=λx=>[.str x]) (flt d cs) rfl (by exists LF_vw) (zV_ _ _) (λx hx=>?_) (λx hx _=>rfl) (by have:=hd.1;lia),pF]
   ·exact zF_ _ zS_
   ·have e:=zbC_ (neg:=vn) (pt p.1 x) p.2
    exists zmm_,PK_0,PK_1,zdA_,znP_ (hd.2 x hx),e
    rfl
 ·obtain⟨o,rfl⟩:=he
  exists hp
  fail "q"
def kN_t (n:Jx):Key:=.inr ⟨n.toArray⟩
theorem zk9_ {a b:List Nat}:kN_t a=kN_t b↔a=b:=by
 constructor
 ·intro h;injection h with h;injection h with h;simpa using congrArg qS h
 ·rintro rfl;rfl
def TD (m:List (List Nat×Cds)):D:=.nd (.dct (m.map λq=>kN_t q.1)) (m.map λq=>LS .str q.2)
theorem zcP_ (m:List (List Nat×Cds)):(D.fz (TD m)).vw=.fz (TD m):=rfl
theorem zm1_ (m:List (List Nat×Cds)):(TD m).vw=.fz (TD m):=rfl
theorem zjZ_:∀(m:List (List Nat×Cds)) (n:Jx),valD (m.map λq=>kN_t q.1) (m.map λq=>LS .str q.2) (kN_t n)=((m.find? λq=>decide (q.1=n)).map λq=>LS .str q.2)
 |[],n=>rfl
 |q::m,n=>by
  have ih:=zjZ_ m n;unfold valD at ih ⊢;rw[lB,lB,mf,nq,nq];by_cases e:q.1=n
  ·rw[decide_eq_true (zk9_.mpr e),decide_eq_true e];rfl
  ·rw[decide_eq_false (λz=>e (zk9_.mp z)),decide_eq_false e];exact ih
theorem td_ix {m:List (List Nat×Cds)}{n:List Nat}{cs:Cds}(h:(m.find? λq=>decide (q.1=n))=vj (n,cs)):ixA (TD m) (.str n)=.ok (.fz (LS .str cs)):=by
 show Mo.opt ((valD _ _ (kN_t n)).map D.vw)=_
 rw[zjZ_,h];rfl
theorem zpI_ {m:List (List Nat×Cds)}{n:List Nat}{cs:Cds}(h:(m.find? λq=>decide (q.1=n))=vj (n,cs)):inA vm (.str n) (TD m)=.ok (.bl vn):=by
 show Mq (D.bl (if vm=vm then !(valD _ _ (kN_t n)).isSome else _))=_
 rw[zjZ_,h];rfl
theorem zqc_ {A:Ak}{m:List (List Nat×Cds)}{cs:Cds}(hm:A.md=.no)(h:(m.find? λq=>decide (q.1=A.dk))=vj (A.dk,cs)):zaE_.val [.fz (AO A),.fz (TD m)]=.ok .non:=by
 refine zY_ rfl rfl λpn hp=>?_
 unfold zaj_;have e:zX_.val [.fz (AO A)]=.ok (LS .str [A.dk]):=by
  have:=zgo_ (A:=A) (by rw[hm];trivial)
  rw[hm]at this;exact this
 refine zbE_ (l:=[A.dk]) (enc:=λp=>[.str p]) (d:=LS .str [A.dk]) (λd e=>∃o,e=[vj (.fz (AO A)),vj (.fz (TD m)),o]) (by exists zr_,e) (by exists hp) (zV_ _ _) ⟨vk,rfl⟩ (λd p r e hl he=>?_) λe he=>?_
 ·obtain⟨o,rfl⟩:=he
  have jI:p=A.dk:=by
   have:p∈[A.dk]:=by rw[hl];simp
   simpa using this
  subst jI;refine⟨[vj (.fz (AO A)),vj (.fz (TD m)),vj (.str A.dk)],(by exists hp),?_⟩
  exists hp,zcP_,zpI_ h
  exact⟨_,_,rfl,.inl ⟨.inl rfl,_,rfl⟩⟩
 ·obtain⟨o,rfl⟩:=he
  exists hp
  fail "q"
theorem znJ_ {A:Ak}{d t:D}(hm:A.md=.no):zak_.val [.fz (AO A),.fz d,.fz t]=.ok (.fz d):=by
 refine zY_ rfl rfl λpn hp=>?_
 unfold zaz_;have e:fldD gi.cs "middle" (AO A)=.ok .non:=by rw[ziF_,hm];rfl
 have e2:isD vn .non .non=.ok (.bl vm):=rfl
 exists hp,zr_,e,e2
 fail "q"
theorem znE_ {A:Ak}(ho:A.od=[]):zau_.val [.fz (AO A)]=.ok (LS .int []):=by
 refine zY_ rfl rfl λpn hp=>?_
 unfold zaC_;rw[zcg_ (d:=LS .int []) (by rw[zgJ_];exact zF_ (d:=LS .int []) _ zS_) (hp _)]
 refine zbE_ (l:=([]:List Fd)) (enc:=λp=>[F2 p]) (d:=.fz (LS F2 [])) (λd e=>e=[vj (.fz (AO A)),vj (LS .int []),vk]) (by exists zr_,zbW_,ho) (by exists hp) (zV_ _ _) rfl (λd p r e hl he=>by simp at hl) λe he=>?_
 subst he
 exists hp
 fail "q"
theorem znX_ {A:Ak}(c:Jx)(hw:A.wk=[]):zas_.val [.fz (AO A),.str c]=.ok (.str c):=by
 refine zY_ rfl rfl λpn hp=>?_
 unfold zaA_;rw[zcg_ (d:=.str c) (by exists hp) (hp _)]
 refine zbE_ (l:=([]:List Wk)) (enc:=λp=>[WK p]) (d:=.fz (LS WK [])) (λd e=>e=[vj (.fz (AO A)),vj (.str c),vj (.str c),vk]) (by exists zr_,zbU_,hw) (by exists hp) (zV_ _ _) rfl (λd p r e hl he=>by simp at hl) λe he=>?_
 subst he
 exists hp
 fail "q"
theorem zms_ (c:Jx):zal_.val [.str c,.fz (LS .int [])]=.ok (LS .int []):=by
 refine zY_ rfl rfl λpn hp=>?_
 unfold zbX_;rw[zk0_ (d:=LS .int []) (e:=[vj (.str c),vj (.fz (LS .int []))]) ?_]
 ·fail "q"
 ·rw[zgJ_,xcompN (f:=λx:Int=>x) (o:=.int) (T:=λx=>[.int x]) ([]:List Int) rfl (by exists hp) (zV_ _ _) (λc hc=>by cases hc) (by simp)]
  exact zF_ _ zS_
def srtG (key:List Nat->List Int)(l:Cds):Cds:=(srtQ (l.map key) l.length).map λi=>l.getD i []
theorem zfX_:∀(l:Cds),strsD (l.map D.str)=vj l
 |[]=>rfl
 |c::l=>by rw[lB];unfold strsD;rw[zfX_ l];rfl
theorem zoq_ (l:Cds):strL (.fz (LS .str l))=.ok l:=by
 show Mo.opt (strsD (l.map D.str))=_
 rw[zfX_];rfl
theorem zi2_:∀(l:List Int),intsD (l.map D.int)=vj l
 |[]=>rfl
 |c::l=>by rw[lB];unfold intsD;rw[zi2_ l];rfl
theorem zfH_ (key:List Nat->List Int):∀(l:Cds),intLs (l.map λc=>LS .int (key c))=vj (l.map key)
 |[]=>rfl
 |c::l=>by
  rw[lB];unfold intLs;rw[zfH_ key l];show(intsD ((key c).map D.int)).bind _=_
  rw[zi2_];rfl
theorem zpG_ {key:List Nat->List Int}{cols:List Int}{l:Cds}(h:LG l)(hk:∀c∈l,zal_.val [.str c,.fz (LS .int cols)]=.ok (LS .int (key c))):zB_.val [.fz (LS .str l),.fz (LS .int cols)]=.ok (LS .str (srtG key l)):=by
 refine zY_ rfl rfl λpn hp=>?_
 unfold zba_;show En (S.runs gi pn _ [vj (.fz (LS .str l)),vj (.fz (LS .int cols))]) _
 rw[zk0_ (d:=LS .str (srtG key l)) (e:=[vj (.fz (LS .str l)),vj (.fz (LS .int cols))]) ?_]
 ·fail "q"
 ·rw[zgJ_,zoY_]
  have e0:getE [vj (.fz (LS .str l)),vj (.fz (LS .int cols))] 0=.ok (.fz (LS .str l)):=rfl;show keep (Mb (getE [vj (.fz (LS .str l)),vj (.fz (LS .int cols))] 0) _) _ _=_
  rw[e0,zcC_,zoq_,zcC_];have e1:compM (λx=>cond1 (.ok vm) ((X.call zal_ "ranks_at" [.v 0,.v 1]).ev gi (setE (cE ["card"] [("columns",1)] [vj (.fz (LS .str l)),vj (.fz (LS .int cols))]) [0] x))) (l.map λc=>[D.str c]) []=.ok (l.map λc=>LS .int (key c)):=by
   rw[zeM_ (p:=λ_=>vm) (f:=λc:List Nat=>c) (o:=λc=>LS .int (key c)) (λc hc=>?_) (by have:=h.1;simp;lia)]
   ·rw[qi.mpr λ_ _=>rfl,pF];rfl
   ·unfold cond1
    rw[zcC_,if_pos rfl,if_pos rfl]
    exists hk c hc
    rfl
  rw[Mo.grd_ok h.1,e1,zcC_];unfold srtK;rw[zfH_];show keep (Mo.grd _ _) _ _=_
  rw[Mo.grd_ok (by simp)]
  unfold srtG;have e2:((srtQ (l.map key) l.length).map λi=>D.str (l.getD i []))=((srtQ (l.map key) l.length).map λi=>l.getD i []).map D.str:=by rw[mD];rfl
  rw[e2];exact zF_ _ zS_
theorem zjO_ (l:Cds):srtG (λ_=>[]) l=l:=by
 have e:srtQ (l.map λ_=>([]:List Int)) l.length=mj l.length:=by
  refine(zbH_ (lo_q _) (tR _) ?_).symm;refine List.pairwise_lt_range.imp λ{a b} fT=>zfm_.mpr ⟨?_,.inr (oE fT)⟩
  have:∀i,(l.map λ_=>([]:List Int)).getD i []=[]:=λi=>by
   rw[lZ,lK];cases l[i]?<;>rfl
  show HT.lexLt _ _=vn
  rw[this,this];rfl
 unfold srtG;rw[e];apply qy;intro i;by_cases hi:i<l.length
 ·simp[hi]
 ·simp[pf,hi,pZ hi]
theorem zcM_ {A:Ak}{m:List (List Nat×Cds)}{cs:Cds}(hm:A.md=.no)(ho:A.od=[])(hw:A.wk=[])(hc:LG cs)(h:(m.find? λq=>decide (q.1=A.dk))=vj (A.dk,cs)):zu_.val [.fz (AO A),.fz (TD m)]=.ok (LS .str (flt A.pk cs)):=by
 refine zY_ rfl rfl λpn hp=>?_
 unfold zao_;have hl:=zf2_ A.pk hc;have e1:zB_.val [.fz (LS .str (flt A.pk cs)),.fz (LS .int [])]=.ok (LS .str (flt A.pk cs)):=by
  have:=zpG_ (key:=λ_=>[]) (cols:=[]) hl λc _=>zms_ c
  rw[zjO_]at this;exact this
 rw[zoM_ (d:=.non) (e:=[vj (.fz (AO A)),vj (.fz (TD m)),vk]) (by exists zr_,zcP_,zqc_ hm h)]
 rw[zcg_ (d:=LF cs A.pk) ?_ (hp _)]
 ·rw[zj9_ (d:=.fz (LS .str (flt A.pk cs))) (e:=[vj (.fz (AO A)),vj (.fz (TD m)),vj (.fz (LS .str (flt A.pk cs)))]) (by exists zr_,zcP_,LF_vw,znJ_ hm) (hp _) (ph rfl)]
  rw[zcg_ (d:=LS .str (flt A.pk cs)) (by exists zr_,znE_ ho,e1) (hp _)]
  rw[zk0_ (d:=LS .str (flt A.pk cs)) (e:=[vj (.fz (AO A)),vj (.fz (TD m)),vj (LS .str (flt A.pk cs))]) ?_]
  ·fail "q"
  ·rw[zgJ_,xcompN (f:=λx:List Nat=>x) (o:=.str) (T:=λx=>[.str x]) (flt A.pk cs) rfl (by exists hp) (zV_ _ _) (λc hc=>?_) (by have:=hl.1;lia),pF]
   ·exact zF_ _ zS_
   ·exists zr_,znX_ c hw
 ·exists zr_,zcP_,zlh_,td_ix h,zgM_ hc
  show(if _ then _ else _)=_
  split<;>rfl
theorem zmc_ {v:Int}(h0:0<=v)(h1:v<10000):v.natAbs.log2<1920/\(zfL (strI v) 4).length=4:=by
 obtain⟨m,rfl⟩:=nu h0;have hm:m<10000:=by lia
 have e:zfL (strI (m:Int)) 4=digs 4 m:=by
  unfold zfL;rw[zec_];exact zb5_ (w:=4) (by decide) (by lia)
 refine⟨?_,by rw[e,zcp_]⟩
 have:Int.natAbs (m:Int)=m:=by lia
 rw[this];by_cases h:m=0
 ·subst h;decide
 ·have:m.log2<14:=(Nat.log2_lt h).mpr (by lia)
  lia
theorem atI_5 {l:List Int}{j:Nat}{q:Int}(h:l[j]?=vj q):ixA (LS .int l) (.int (0+(j:Int)))=.ok (.int q):=by
 rw[zoV_,zhC_ (by lia) (by rw[show(0+(j:Int)).toNat=j by lia];exact h)];rfl
theorem zli_ {row:Cds}{s:List Nat}{i:Int}(h0:0<=i)(h1:i<row.length):setIF [.str s,LS .str row,.int i]=.ok .non [.gone,LS .str (row.set i.toNat s),.int i]:=by
 show(match ixN (row.map D.str).length i with |some j=>Mr.ok D.non [D.gone,D.nd .lst ((row.map D.str).set j (D.str s)),D.int i]|none=>Mr.no)=_
 have:ixN (row.map D.str).length i=vj i.toNat:=by unfold ixN;rw[lq,if_pos h0,if_pos (by lia)]
 rw[this];show Mr.ok D.non [D.gone,D.nd .lst ((row.map D.str).set i.toNat (D.str s)),D.int i]=_
 rw[<- List.map_set];rfl
theorem zqS_ (s:Nat):∃R:Cds,mulD (.nd .lst [.str [s]]) (.int 36)=.ok (LS .str R)/\R.length=36/\∀t∈R,t.length=1:=by
 refine⟨lR 36 [s],?_,rp,λt ht=>by rw[List.eq_of_mem_replicate ht];rfl⟩
 show Mo.grd (CRep 1 36) _=_
 rw[Mo.grd_ok (by decide)];rfl
theorem str_int {k:Int}(h:k.natAbs.log2<1920):strD [.int k]=.ok (.str (strI k)):=by
 show Mo.grd _ _=_
 rw[Mo.grd_ok h]
theorem zf_4 (l:Jx):zfillD l [.int 4]=.ok (.str (zfL l 4)):=by
 show Mo.grd _ _=_
 rw[Mo.grd_ok (zeZ_ (by lia) (by lia))]
theorem smf_j (l:Jx)(ds:List D):Sm.f .join l ds=joinD l ds:=rfl
theorem smf_z (l:Jx)(ds:List D):Sm.f .zfill l ds=zfillD l ds:=rfl
theorem znp_ (l:Jx):strOf (.str l)=.ok l:=rfl
theorem zk6_ {row:Cds}(hl:row.length=36)(h1:∀t∈row,t.length=1):∃t,joinD [] [.fz (LS .str row)]=.ok (.str t)/\t.length=36:=by
 refine⟨joinS [] (strsL row),?_,?_⟩
 ·show(Mo.opt (strsD (row.map D.str))).bind _=_
  rw[zfX_];show Mo.grd _ _=_
  rw[Mo.grd_ok (zdF_ (by unfold strsL;rw[lq,hl];decide) ?_)]
  intro z hz;obtain⟨t,ht,rfl⟩:=nW.mp hz;show t.toArray.size<=1
  rw[lD,h1 t ht];exact lC _
 ·rw[L2.zk8_]
  have e:((strsL row).map λz:Str=>z.cps.toList)=row:=by
   unfold strsL;rw[mD];exact(nS λt _=>rfl).trans (pF row)
  rw[e,List.length_flatten,List.eq_replicate_of_mem (a:=1) (l:=row.map p6) (λx hx=>by obtain⟨t,ht,rfl⟩:=nW.mp hx;exact h1 t ht),lq,hl];rfl
theorem zmY_ {b:Int}(hb:1<=b/\b<=32){x y z:Nat}(hx:x∈SG)(hy:y∈SG)(hz:z∈SG)(c:Int){k:Int}(gL:0<=k)(eQ:k<10000):∃t,zw_.val [.int c,.int b,.fz (LS .str [[x],[y],[z]]),.int k]=.ok (.str t)/\t.length=40/\t.drop 36=zfL (strI k) 4:=by
 have key:∀pn:Nat->Bool,(∀i,pn i=vn)->En (S.runs gi pn zZ_ ([.int c,.int b,.fz (LS .str [[x],[y],[z]]),.int k].map vj++lR 3 vk)) λo _=>∃t,o=.rt (.str t)/\t.length=40/\t.drop 36=zfL (strI k) 4:=λpn hp=>by
  unfold zZ_;rw[zcg_ (d:=.str SG) (by exists hp;rfl) (hp _)]
  obtain⟨s,hs,es⟩:=zoL_ (mL (c / 243) (show(37:Int)≠0 by lia)) (mB (c / 243) (show(0:Int)<37 by lia))
  obtain⟨R,eR,R1,R2⟩:=zqS_ s;rw[zcg_ (d:=LS .str R) (by exists hp,es,eR) (hp _)]
  refine zbE_ (l:=mj 5) (enc:=λi:Nat=>[.int (0+(i:Int))]) (d:=.int 5) (λd e=>∃row o,e=[vj (.int c),vj (.int b),vj (.fz (LS .str [[x],[y],[z]])),vj (.int k),vj (.str SG),vj (LS .str row),o]/\row.length=36/\∀t∈row,t.length=1) (by exists hp) (rg1 (by lia) (by lia)) (zV_ _ _) ⟨_,vk,rfl,R1,R2⟩ (λd j r e hl he=>?_) λe he=>?_
  ·obtain⟨row,o,rfl,hr,h1⟩:=he
   have hj:j<5:=by
    have:j∈mj 5:=by rw[hl];simp
    exact mV.mp this
   refine⟨[vj (.int c),vj (.int b),vj (.fz (LS .str [[x],[y],[z]])),vj (.int k),vj (.str SG),vj (LS .str row),vj (.int (0+(j:Int)))],(by exists hp),?_⟩
   obtain⟨q,hq,q0,q1⟩:∃q:Int,[1,3,9,27,81][j]?=vj q/\0<q/\q<1000:=by
    have:j=0\/j=1\/j=2\/j=3\/j=4:=by lia
    rcases this with rfl |rfl |rfl |rfl |rfl<;>exact⟨_,rfl,by decide,by decide⟩
   have e5:ixA (.nd .lst [.int 1,.int 3,.int 9,.int 27,.int 81]) (.int (0+(j:Int)))=.ok (.int q):=atI_5 (l:=[1,3,9,27,81]) hq;obtain⟨s,hs,es⟩:=sg3 hx hy hz (c / q);rw[S.runs,S.run,zlP_ (d:=.str [s]) (a:=.int (b-1+(0+(j:Int)))) (by exists hp,e5,zhf_ q0 (by lia),es) (zjQ_ _) (by exists hp) (zkz_ _) rfl (zli_ (by lia) (by lia)),zcf_]
   refine⟨_,_,rfl,.inl ⟨.inl rfl,_,_,rfl,by rw[nj];exact hr,λt ht=>?_⟩⟩
   rcases List.mem_or_eq_of_mem_set ht with h |h
   ·exact h1 t h
   ·rw[h];rfl
  ·obtain⟨row,o,rfl,hr,h1⟩:=he
   obtain⟨t,et,tl⟩:=zk6_ hr h1;obtain⟨m1,m2⟩:=zmc_ gL eQ;have ea:addA (.str t) (.str (zfL (strI k) 4))=.ok (.str (t++zfL (strI k) 4)):=by show Mo.lim _ _=_;rw[Mo.lim_ok (by lia)]
   exists hp,xv_sm,znp_,smf_j,smf_z,et,str_int m1,zf_4,ea
   exact⟨_,_,rfl,t++zfL (strI k) 4,rfl,by rw[lF];lia,by rw[<- tl];exact List.drop_left⟩
 have hf:zw_=fnOf gi 4 3 zZ_:=rfl;obtain⟨o,e,h1,t,rfl,h2⟩:=key (pins [.int c,.int b,.fz (LS .str [[x],[y],[z]]),.int k]) (zcT_ rfl);exact⟨t,by rw[hf];exact zkG_ (zmU_ rfl rfl h1),h2⟩
theorem zkA_ {i j:Int}(h0:0<=i)(h1:i<10000)(g0:0<=j)(g1:j<10000)(e:zfL (strI i) 4=zfL (strI j) 4):i=j:=by
 obtain⟨m,rfl⟩:=nu h0;obtain⟨n,rfl⟩:=nu g0;unfold zfL at e;rw[zec_,zec_]at e;have a:=zb5_ (w:=4) (m:=m) (by decide) (by lia)
 have b:=zb5_ (w:=4) (m:=n) (by decide) (by lia)
 have:=zfz_ 4 m n (by lia) (by lia) (a.symm.trans (e.trans b))
 rw[this]
theorem zhy_ (l:List Int):enumD [LS .int l]=.ok ((enumL l).map λq=>.nd .tup [.int q.1,.int q.2]):=by
 show Mq ((enumL (l.map D.int)).map λq=>D.nd .tup [.int q.1,q.2])=_
 unfold enumL;rw[lq,se,mD,mD,mD];rfl
theorem zmk_ (l:List Int)(hl:l.length<64){b:Int}(hb:1<=b/\b<=32){x y z:Nat}(hx:x∈SG)(hy:y∈SG)(hz:z∈SG):∃g:Int×Int->List Nat,(∀q∈enumL l,zw_.val [.int q.2,.int b,.fz (LS .str [[x],[y],[z]]),.int q.1]=.ok (.str (g q)))/\LG ((enumL l).map g)/\((enumL l).map g).Nodup:=by
 have key:∀q:Int×Int,∃t,q∈enumL l->(zw_.val [.int q.2,.int b,.fz (LS .str [[x],[y],[z]]),.int q.1]=.ok (.str t)/\t.length=40/\t.drop 36=zfL (strI q.1) 4):=λq=>by
  by_cases h:q∈enumL l
  ·obtain⟨k,hk,e,_⟩:=zer_ h
   obtain⟨t,ht⟩:=zmY_ hb hx hy hz q.2 (k:=q.1) (by lia) (by lia)
   exact⟨t,λ_=>ht⟩
  ·exact⟨[],λz=>absurd z h⟩
 refine⟨λq=>(key q).choose,λq hq=>((key q).choose_spec hq).1,⟨by rw[lq,zy_];exact hl,λc hc=>?_⟩,qr.mpr λi j hi hj aO e=>?_⟩
 ·obtain⟨q,hq,rfl⟩:=nW.mp hc
  rw[((key q).choose_spec hq).2.1];decide
 ·rw[lq,zy_]at hi hj
  have m:∀(i:Nat) (h:i<l.length),(enumL l)[i]'(by rw[zy_];exact h)=((i:Int),l[i]):=λi h=>by
   have:=zbJ_ l i;rw[lA (by rw[zy_];exact h),lA h]at this
   exact l9 this
  rw[qO,qO,m i hi,m j hj]at e;have a:=((key ((i:Int),l[i])).choose_spec (by rw[<- m i hi];exact pC _)).2.2
  have b:=((key ((j:Int),l[j])).choose_spec (by rw[<- m j hj];exact pC _)).2.2
  have:=zkA_ (i:=(i:Int)) (j:=(j:Int)) (by lia) (by lia) (by lia) (by lia) (a.symm.trans ((congrArg (List.drop 36) e).trans b))
  lia
theorem zeO_ {α:Type}{g:α->D}[Im g]:zz_.val [.non]=.ok (LS g []):=by
 refine zY_ rfl rfl λpn hp=>?_
 unfold zbk_;have e:isD vn .non .non=.ok (.bl vm):=rfl
 exists hp,e
 fail "q"
theorem initG {A:Ak}(h:OkA A){W U B:D}(vW:W.vw=W)(vS:U.vw=U)(vB:B.vw=B)(hW:zz_.val [W]=.ok (LS WK A.wk))(hS:zz_.val [U]=.ok (LS F2 A.su))(hB:zz_.val [B]=.ok (LS F2 A.bd)):
  ∃ds,zc_ [.nd (.obj "Asking" []) [],.str A.dk,.fz (LS PK A.pk),MD A.md,.fz (LS F2 A.od),W,.int A.br,U,.int A.fg,B]=.ok .non (AO A::ds):=by
 have mv:(MD A.md).vw=MD A.md:=zq5_ _;have mn:(MD A.md).new=vm:=zpt_ _;have main:∀pn:Nat->Bool,∃e,S.runs gi pn zg_ [vj (.nd (.obj "Asking" []) []),vj (.str A.dk),vj (.fz (LS PK A.pk)),vj (MD A.md),vj (.fz (LS F2 A.od)),vj W,vj (.int A.br),vj U,vj (.int A.fg),vj B]=.ok .nx (vj (AO A)::e):=λpn=>by
  unfold zg_;rw[S.runs,S.run,zag_ (d:=.str A.dk) rfl rfl rfl (by decide) (by decide) (by decide),zcf_]
  rw[S.runs,S.run,zag_ (d:=LS PK A.pk) (by exists zco_) zS_ rfl (by decide) (by decide) (by decide),zcf_]
  rw[S.runs,S.run,zag_ (d:=MD A.md) (by exists mv) mn rfl (by decide) (by decide) (by decide),zcf_]
  rw[S.runs,S.run,zag_ (d:=LS F2 A.od) (by exists zco_) zS_ rfl (by decide) (by decide) (by decide),zcf_]
  rw[S.runs,S.run,zag_ (d:=LS WK A.wk) (by exists vW,hW) zS_ rfl (by decide) (by decide) (by decide),zcf_]
  rw[S.runs,S.run,zag_ (d:=.int A.br) rfl rfl rfl (by decide) (by decide) (by decide),zcf_]
  rw[S.runs,S.run,zag_ (d:=LS F2 A.su) (by exists vS,hS) zS_ rfl (by decide) (by decide) (by decide),zcf_]
  rw[S.runs,S.run,zag_ (d:=.int A.fg) rfl rfl rfl (by decide) (by decide) (by decide),zcf_]
  rw[S.runs,S.run,zag_ (d:=LS F2 A.bd) (by exists vB,hB) zS_ rfl (by decide) (by decide) (by decide),zcf_]
  have e0:∀l,getE (vj (D.nd (.obj "Asking" ["deck", "picks", "middle", "order", "works", "breaks", "sums", "figures", "board"]) (aFs A))::l) 0=.ok (.fz (AO A)):=λl=>rfl
  unfold aFs at e0
  exists e0,zr_,zhe_ h
  exact⟨_,rfl⟩
 obtain⟨e,he⟩:=main (pins [.nd (.obj "Asking" []) [],.str A.dk,.fz (LS PK A.pk),MD A.md,.fz (LS F2 A.od),W,.int A.br,U,.int A.fg,B]);exact⟨_,zoB_ (G:=gi) (n:=10) (m:=0) (body:=zg_) (ds:=[.nd (.obj "Asking" []) [],.str A.dk,.fz (LS PK A.pk),MD A.md,.fz (LS F2 A.od),W,.int A.br,U,.int A.fg,B]) rfl he⟩
theorem ziX_ {A:Ak}(h:OkA A){P O W:D}(hP:P.vw=.fz (LS PK A.pk))(hO:O.vw=.fz (LS F2 A.od))(vW:W.vw.vw=W.vw)(hW:zz_.val [W.vw]=.ok (LS WK A.wk))(hs:A.su=[])(hb:A.bd=[]):
  makeD zc_ "Asking" [.str A.dk,P,MD A.md,O,W,.int A.br,.non,.int A.fg,.non]=.ok (AO A):=by
 obtain⟨ds,e⟩:=initG h (W:=W.vw) (U:=.non) (B:=.non) vW rfl rfl hW (by rw[hs];exact zeO_) (by rw[hb];exact zeO_)
 unfold makeD;have em:[D.str A.dk,P,MD A.md,O,W,.int A.br,.non,.int A.fg,.non].map D.vw=[.str A.dk,.fz (LS PK A.pk),MD A.md,.fz (LS F2 A.od),W.vw,.int A.br,.non,.int A.fg,.non]:=by
  simp only[lB,nL,hP,hO,zq5_];rfl
 rw[em,e]
def AP (n:Jx)(ps:List Pk)(m:Md)(ks:List Fd):Ak:=⟨n,ps,m,ks,[],0,[],6,[]⟩
theorem ap_ok {n:List Nat}{ps:List Pk}{m:Md}{ks:List Fd}{lo hi:Int}{sg:Int->Nat}(hn:OkN n)(hl:ps.length<=8)(hp:PkR lo hi sg ps)(hm:OkM n m)(hk:ks.length<=6)(ho:∀f∈ks,OkFd f):OkA (AP n ps m ks) where
 nm:=hn
 pl:=hl
 pk:=⟨sg,hp.1,λp h=>(hp.2 p h).1⟩
 md:=hm
 ol:=hk
 od:=ho
 wl:=mq _
 wk:=λw h=>by cases h
 br:=⟨Int.le_refl _,(by show(0:Int)<=3;lia),(by show(0:Int)<=_;lia)⟩
 sl:=mq _
 su:=λw h=>by cases h
 fg:=⟨(by show(1:Int)<=6;lia),(by show(6:Int)<=12;lia)⟩
 bl:=mq _
 bd:=⟨λw h=>(by cases h),sr⟩
 ft:=λq h=>by cases h
theorem zbo_:∀(ps:List Pk) (cs:Cds),flt ps cs=cs.filter λc=>ps.all λp=>hit p c
 |[],cs=>(qi.mpr λ_ _=>rfl).symm
 |p::ps,cs=>by
  show flt ps (cs.filter (hit p))=_
  rw[zbo_ ps,sf];exact sJ λc _=>by rw[mO,Bool.and_comm]
theorem zho_ (a b:Cds):eqT 12 (LS .str a) (LS .str b)=vj (decide (a=b)):=eq_ls (n:=11) (zk1_ 11) a b
theorem zd1_ (l:Cds)(hl:l.length<1000):za0_.val [.fz (LS .str l),.fz (LS .str l)]=.ok (.bl vm):=by
 refine zY_ rfl rfl λpn hp=>?_
 unfold za3_;have i1:isaD "list" (LS .str l)=.ok (.bl vm):=rfl;have i2:∀t,isaD "str" (.str t)=.ok (.bl vm):=λ_=>rfl
 have e1:eqD vm (LS .str l) (LS .str l)=.ok (.bl vn):=by rw[zgA_ (zho_ l l)];simp
 rw[zf1_ (by exists hp,i1,e1;rfl)]
 refine zbE_ (l:=l) (enc:=λp=>[.str p]) (d:=.fz (LS .str l)) (λd e=>∃o,e=[vj (.fz (LS .str l)),vj (.fz (LS .str l)),o]) (by exists hp) (by exists hp) (zV_ _ _) ⟨vk,rfl⟩ (λd p r e hl he=>?_) λe he=>?_
 ·obtain⟨o,rfl⟩:=he
  refine⟨[vj (.fz (LS .str l)),vj (.fz (LS .str l)),vj (.str p)],(by exists hp),?_⟩
  exists hp,i2
  exact⟨_,_,rfl,.inl ⟨.inl rfl,_,rfl⟩⟩
 ·obtain⟨o,rfl⟩:=he
  exists hp
  fail "q"
theorem zjX_ (ps:List Pk)(c:Jx):decide ((((ps.filter λp=>!hit p c).map λp:Pk=>p.2).length:Int)=0)=ps.all λp=>hit p c:=by
 rw[lq];cases h:ps.all λp=>hit p c with
 |true=>
  rw[List.filter_eq_nil_iff.mpr λp hp=>by have:=mG.mp h p hp;simp[this]];rfl
 |false=>
  obtain⟨p,hp,h2⟩:=List.all_eq_false.mp h;have:p∈ps.filter λp=>!hit p c:=qb.mpr ⟨hp,by simpa using h2⟩
  have:=List.length_pos_of_mem this;exact decide_eq_false (by lia)
theorem zmq_ {pn:Nat->Bool}(hp:∀i,pn i=vn){s0 s1 s2 s3:Option D}{ps:List Pk}{cs:Cds}(hl:LG cs)(fM:ps.length<=8){ss:List S}{Q:Fl->VI.Env->Prop}
  (hq:∀o,En (S.runs gi pn ss [s0,s1,s2,s3,vj (LS PK ps),vj (.fz (LS .str cs)),vj (LS .str (flt ps cs)),o,vk,vk,vk]) Q):
  En (S.runs gi pn (.for_ .any [(.v 5)] ⟨vn,[7]⟩ [.if_ (.bin .eq (.bf .len [(.comp ["_law_field_here", "_law_text"] [("_law_card_here",7)] .any [(.v 4)] ⟨vm,[0,1]⟩ (vj (.bin .ne (.sl (.v 2) (vj (.bin .sub (.i (.v 0) 0) (.n 1))) (vj (.i (.v 0) 1))) (.v 1))) (.v 1))]) (.n 0)) [.ex (.bm .append (.v 6) [(.x (.v 7))])] []]::ss) [s0,s1,s2,s3,vj (LS PK ps),vj (LS .str cs),vj (LS .str []),vk,vk,vk,vk]) Q:=by
 refine ziY_ (l:=cs) (enc:=λp=>[.str p]) (d:=.fz (LS .str cs)) (e1:=[s0,s1,s2,s3,vj (LS PK ps),vj (.fz (LS .str cs)),vj (LS .str []),vk,vk,vk,vk]) (λd e=>∃o,e=[s0,s1,s2,s3,vj (LS PK ps),vj (.fz (LS .str cs)),vj (LS .str (flt ps d)),o,vk,vk,vk]) (by exists hp) (by exists hp) (zV_ _ _) ⟨vk,by rw[zbo_];rfl⟩ (λd c r e hd he=>?_) λe he=>?_
 ·obtain⟨o,rfl⟩:=he
  have hc:c∈cs:=by rw[hd];simp
  refine⟨[s0,s1,s2,s3,vj (LS PK ps),vj (.fz (LS .str cs)),vj (LS .str (flt ps d)),vj (.str c),vk,vk,vk],(by exists hp),?_⟩
  have ec:X.ev gi [s0,s1,s2,s3,vj (LS PK ps),vj (.fz (LS .str cs)),vj (LS .str (flt ps d)),vj (.str c),vk,vk,vk] (.comp ["_law_field_here", "_law_text"] [("_law_card_here",7)] .any [(.v 4)] ⟨vm,[0,1]⟩ (vj (.bin .ne (.sl (.v 2) (vj (.bin .sub (.i (.v 0) 0) (.n 1))) (vj (.i (.v 0) 1))) (.v 1))) (.v 1))=.ok (LS .str ((ps.filter λp=>!hit p c).map λp=>p.2)):=by
   refine xcomp (p:=λp=>!hit p c) (f:=λp:Pk=>p.2) (o:=.str) (T:=λp=>[F2 p.1,.str p.2]) (items:=ps.map PK) ps rfl (by exists hp) (zir_ _ _ _) (λp jJ=>?_) (λp jJ _=>rfl) (by lia)
   have e1:slA (.str c) (vj (p.1.1-1)) (vj p.1.2)=.ok (.str (pt p.1 c)):=zhR_ (hl.2 c hc);have e2:=zbC_ (neg:=vm) (pt p.1 c) p.2
   exists zdA_,F2_0,F2_1,e1,e2
   rfl
  have et:X.ev gi [s0,s1,s2,s3,vj (LS PK ps),vj (.fz (LS .str cs)),vj (LS .str (flt ps d)),vj (.str c),vk,vk,vk] (.bin .eq (.bf .len [(.comp ["_law_field_here", "_law_text"] [("_law_card_here",7)] .any [(.v 4)] ⟨vm,[0,1]⟩ (vj (.bin .ne (.sl (.v 2) (vj (.bin .sub (.i (.v 0) 0) (.n 1))) (vj (.i (.v 0) 1))) (.v 1))) (.v 1))]) (.n 0))=.ok (.bl (ps.all λp=>hit p c)):=by
   have e3:=zaR_ (neg:=vn) (((ps.filter λp=>!hit p c).map λp:Pk=>p.2).length:Int) 0
   rw[zjX_]at e3;rw[znV_,xv_bf,xs_c,ec,zcC_,xs_0,zcC_,zcC_];show Mb (lenA [LS .str _]) _=_
   rw[zoz_,zcC_,zmr_,zcC_];exact e3
  cases ha:ps.all λp=>hit p c with
  |false=>
   rw[ha]at et;rw[zf1_ (by rw[et];rfl)]
   refine⟨_,_,rfl,.inl ⟨.inl rfl,vj (.str c),?_⟩⟩;rw[zbo_ ps (d++[c]),si,qP (by rw[ha];decide),tH,nG,<- zbo_]
  |true=>
   rw[ha]at et;rw[zpk_ (by rw[et];rfl)]
   have iP:(flt ps d).length<100000:=by
    rw[zbo_];have h1:=rA (λc=>ps.all λp=>hit p c) d
    have h2:=congrArg p6 hd;rw[lF,lG]at h2;have:=hl.1;lia
   rw[List.singleton_append,zoM_ (d:=.non) (e:=[s0,s1,s2,s3,vj (LS PK ps),vj (.fz (LS .str cs)),vj (LS .str (flt ps d++[c])),vj (.str c),vk,vk,vk]) (by exists zij_ iP)]
   refine⟨_,_,rfl,.inl ⟨.inl rfl,vj (.str c),?_⟩⟩;rw[zbo_ ps (d++[c]),si,List.filter_cons_of_pos (by rw[ha]),tH,<- zbo_]
 ·obtain⟨o,rfl⟩:=he
  exact hq o
theorem zo4_ (ns:List Int)(lo hi:Option Int):slA (scr ns) lo hi=.ok (LS .int (cutG ns lo hi)):=by
 show Mq (D.nd .lst ((cutG (ns.map D.int) lo hi).map .vw))=_
 unfold cutG LS;rw[lq,<- tZ,<- t5,mD];rfl
theorem dsp_2 {a n:List Nat}(h:n≠a){x y:D}:dspD [.str a,x,.str n,y]=.ok (.nd (.dct [kN_t a,kN_t n]) [x,y]):=by
 unfold dspD;rw[show prD [.str a,x,.str n,y]=vj ([kN_t a,kN_t n],[x,y])from rfl]
 show Mo.grd ([kN_t a,kN_t n].Nodup/\[kN_t a,kN_t n].length<=15) (.ok (D.nd (.dct [kN_t a,kN_t n]) [x,y]))=_
 rw[Mo.grd_ok ⟨by simp[zk9_,pN h],by simp⟩]
theorem dsp_1 {a:List Nat}{x:D}:dspD [.str a,x]=.ok (.nd (.dct [kN_t a]) [x]):=by
 unfold dspD;rw[show prD [.str a,x]=vj ([kN_t a],[x])from rfl]
 show Mo.grd ([kN_t a].Nodup/\[kN_t a].length<=15) (.ok (D.nd (.dct [kN_t a]) [x]))=_
 rw[Mo.grd_ok ⟨by simp,by simp⟩]
theorem ned_2 {ks:List Key}{u v u' v':Cds}(hu:u=u')(hv:v=v'):nedD (.fz (.nd (.dct ks) [LS .str u,LS .str v])) (.nd (.dct ks) [.fz (LS .str u'),LS .str v'])=.ok (.bl vn):=by
 subst hu hv;show Mo.grd (ks=ks) _=_
 rw[Mo.grd_ok rfl];have e1:eqT 12 (LS .str u) (.fz (LS .str u))=vj vm:=by rw[zja_,zho_];simp
 have e2:eqT 12 (LS .str v) (LS .str v)=vj vm:=by rw[zho_];simp
 show(Mo.opt ((eqT 12 _ _).bind _)).bind _=_
 rw[e1];show(Mo.opt (((eqT 12 _ _).bind _).map _)).bind _=_
 rw[e2];rfl
theorem ziW_ (c:Jx):∀(l:Cds),inV (tx c) (l.map tx)=decide (c∈l)
 |[]=>rfl
 |j::l=>by
  have:=ziW_ c l;unfold inV at this ⊢;rw[lB,pd,this];have e:∀a b:List Nat,eqV (tx a) (tx b)=decide (a=b):=λa b=>by
   have:=zk1_ 0 a b;exact l9 this
  rw[e];by_cases h:c=j
  ·subst h;simp
  ·simp[h,pN h]
theorem zdl_:∀(l:Cds),flats (l.map D.str)=vj (l.map tx)
 |[]=>rfl
 |c::l=>by rw[lB];unfold flats;rw[zdl_ l];rfl
theorem zlD_ (c:Jx)(l:Cds):inA vn (.str c) (LS .str l)=.ok (.bl (decide (c∈l))):=by
 show inSeq vn (.str c) (l.map .str)=_
 unfold inSeq;rw[zdl_];show Mq (D.bl (if vn=vm then !(inV (tx c) (l.map tx))else inV (tx c) (l.map tx)))=_
 rw[ziW_];rfl
theorem zku_ {ps:List Pk}{cs:Cds}(nd:cs.Nodup):(flt ps cs).filter (λc=>decide (c∈cs.drop 1))=flt ps (cs.drop 1):=by
 rw[zbo_,zbo_];cases cs with
 |nil=>rfl
 |cons c cs=>
  obtain⟨h1,h2⟩:=oz.mp nd;show tu _ (tu _ (c::cs))=tu _ cs
  rw[sf,qP (by simp[h1])]
  exact sJ λx hx=>by
   show(decide (x∈cs) && _)=_
   rw[decide_eq_true hx,tX]
theorem zkj_:∀ns:List Int,ns.length<=63->BitsOk ns->f_law.val [scr ns]=.ok (.bl vm):=by
 intro ns hl _;have b0:=mL (cel ns 0) (show(32:Int)≠0 by lia)
 have b1:=mB (cel ns 0) (show(0:Int)<32 by lia)
 obtain⟨x,y,z,es,hx,hy,hz⟩:=zkK_ (cel ns 0 / 32);obtain⟨n1,n2,en,h1,h2,bW⟩:=zko_ (cel ns 1 / 3);obtain⟨ps,sg,ep,pl,pr⟩:=zk3_ ns (b:=1+cel ns 0 % 32) ⟨by lia,by lia⟩ hx hy hz
 have hlen:=zjN_ ns (vj 4) (vj 84);obtain⟨g,eg,hg,nd⟩:=zmk_ (cutG ns (vj 4) (vj 84)) (by lia) (b:=1+cel ns 0 % 32) ⟨by lia,by lia⟩ hx hy hz
 have ex:X.ev gi [vj (scr ns),vj (.int (1+cel ns 0 % 32)),vj (LS .str [[x],[y],[z]]),vj (LS .str [n1,n2]),vj (LS PK ps),vk,vk,vk,vk,vk,vk] (.comp ["_law_k", "_law_cell_here"] [("_law_base",1),("_law_signs_here",2)] .en [(.sl (.v 0) (vj (.n 4)) (vj (.n 84)))] ⟨vm,[0,1]⟩ vk (.call zw_ "_law_card" [(.v 1),(.v 2),(.v 3),(.v 0)]))=.ok (LS .str ((enumL (cutG ns (vj 4) (vj 84))).map g)):=by
  refine xcompN (f:=g) (o:=.str) (T:=λq=>[.int q.1,.int q.2]) (items:=(enumL (cutG ns (vj 4) (vj 84))).map λq=>.nd .tup [.int q.1,.int q.2]) (enumL (cutG ns (vj 4) (vj 84))) rfl (by exists zfj_,zo4_,zhy_) (zir_ _ _ _) (λq hq=>?_) (by rw[zy_];lia)
  exists eg q hq
 generalize (enumL (cutG ns (vj 4) (vj 84))).map g=cs at ex hg nd
 generalize gW:1+cel ns 0 % 32=b at ep ex
 refine zY_ rfl rfl λpn hp=>?_
 unfold zpi_;have c0:=zex_ ns (k:=0) (by lia) (by lia)
 have c1:=zex_ ns (k:=1) (by lia) (by lia)
 rw[zcg_ (d:=.int b) (by exists zfj_,c0,gW) (hp _)]
 rw[zcg_ (d:=LS .str [[x],[y],[z]]) (by exists zfj_,c0,es) (hp _)]
 rw[zcg_ (d:=LS .str [n1,n2]) (by exists zfj_,c1,en) (hp _)]
 rw[zcg_ (d:=LS PK ps) (by exists zfj_,ep) (hp _)]
 rw[zcg_ (d:=LS .str cs) (by rw[zgJ_];show keep (X.ev gi [vj (scr ns),vj (.int b),vj (LS .str [[x],[y],[z]]),vj (LS .str [n1,n2]),vj (LS PK ps),vk,vk,vk,vk,vk,vk] _) _ _=_;rw[ex];exact zF_ _ zS_) (hp _)]
 rw[zcg_ (d:=LS .str []) (by rw[zgJ_];exact zF_ (d:=LS .str []) _ zS_) (hp _)]
 refine zmq_ hp hg (by lia) λo=>?_
 have l1:ixA (LS .str [n1,n2]) (.int 0)=.ok (.str n1):=rfl;have l2:ixA (LS .str [n1,n2]) (.int 1)=.ok (.str n2):=rfl;have e2:cutG cs vk (vj 2)=cs.take 2:=zfY_ (by lia)
 have eT:dspD [.str n1,LS .str cs,.str n2,LS .str (cs.take 2)]=.ok (TD [(n1,cs),(n2,cs.take 2)]):=dsp_2 bW;have nT:(TD [(n1,cs),(n2,cs.take 2)]).new=vm:=by unfold TD;simp only[lB,nL,zq4_,nw_c,nw_0,zS_,rN]
 rw[zcg_ (d:=TD [(n1,cs),(n2,cs.take 2)]) (by exists znv_,l1,l2,zco_,e2,eT,zF_ _ nT) (hp _)]
 show En (S.runs gi pn _ [vj (scr ns),vj (.int b),vj (LS .str [[x],[y],[z]]),vj (LS .str [n1,n2]),vj (LS PK ps),vj (.fz (LS .str cs)),vj (LS .str (flt ps cs)),o,vj (TD [(n1,cs),(n2,cs.take 2)]),vk,vk]) _
 have hA:OkA (AP n1 ps .no []):=ap_ok h1 (by lia) pr trivial (mq _) λf h=>by cases h
 have kd:OkA (AP n1 [] .no []):=ap_ok (sg:=sg) (lo:=0) (hi:=0) h1 (mq _) ⟨pr.1,λp h=>by cases h⟩ trivial (mq _) λf h=>by cases h
 have kj:∀A:Ak,(AO A).new=vm:=λA=>by unfold AO aFs;simp only[zq4_,nw_c,nw_0,zjQ_,zkz_,zS_,zpt_,rN]
 have mk:∀env,X.evs gi env [(.i (.v 3) 0),(.v 4),(.k .non),(.lst [])]=.ok [.str n1,.fz (LS PK ps),.non,.nd .lst []]->X.ev gi env (.mkd zc_ "Asking" [(.i (.v 3) 0),(.v 4),(.k .non),(.lst [])] [.non,(.int 0),.non,(.int 6),.non])=.ok (AO (AP n1 ps .no [])):=λenv he=>by
  rw[zn9_,if_pos (show(flats [.non,.int 0,.non,.int 6,.non]).isSome=vm from rfl),he,zcC_]
  exact ziX_ hA rfl rfl rfl zeO_ rfl rfl
 have ji:∀env,X.evs gi env [(.i (.v 3) 0),(.lst []),(.k .non),(.lst [])]=.ok [.str n1,.nd .lst [],.non,.nd .lst []]->X.ev gi env (.mkd zc_ "Asking" [(.i (.v 3) 0),(.lst []),(.k .non),(.lst [])] [.non,(.int 0),.non,(.int 6),.non])=.ok (AO (AP n1 [] .no [])):=λenv he=>by
  rw[zn9_,if_pos (show(flats [.non,.int 0,.non,.int 6,.non]).isSome=vm from rfl),he,zcC_]
  exact ziX_ kd rfl rfl rfl zeO_ rfl rfl
 rw[zcg_ (d:=AO (AP n1 ps .no [])) (by rw[zgJ_,mk _ (by exists l1)];exact zF_ _ (kj _)) (hp _)]
 have ch:zu_.val [.fz (AO (AP n1 ps .no [])),.fz (TD [(n1,cs),(n2,cs.take 2)])]=.ok (LS .str (flt ps cs)):=zcM_ (A:=AP n1 ps .no []) rfl rfl rfl hg (by simp[AP])
 have kE:zu_.val [.fz (AO (AP n1 [] .no [])),.fz (TD [(n1,cs),(n2,cs.take 2)])]=.ok (LS .str cs):=zcM_ (A:=AP n1 [] .no []) rfl rfl rfl hg (by simp[AP])
 have iO:LG (cs.drop 1):=⟨by rw[mY];have:=hg.1;lia,λc hc=>hg.2 c (qa hc)⟩
 have kz:zu_.val [.fz (AO (AP n1 ps .no [])),.fz (TD [(n1,cs.drop 1)])]=.ok (LS .str (flt ps (cs.drop 1))):=zcM_ (A:=AP n1 ps .no []) rfl rfl rfl iO (by simp[AP])
 have fl:=(zf2_ ps hg).1;have lg:=(zf2_ ps iO).1;have aT:=hg.1;rw[zcg_ (d:=LS .str (flt ps cs)) (by exists zoI_,zm1_,zr_,zcP_,ch) (hp _)]
 have t1:=zd1_ (flt ps cs) (by lia)
 have ko:dspD [.str n1,.fz (LS .str cs),.str n2,LS .str (cs.take 2)]=.ok (.nd (.dct [kN_t n1,kN_t n2]) [.fz (LS .str cs),LS .str (cs.take 2)]):=dsp_2 bW;have ki:nedD (.fz (TD [(n1,cs),(n2,cs.take 2)])) (.nd (.dct [kN_t n1,kN_t n2]) [.fz (LS .str cs),LS .str (cs.take 2)])=.ok (.bl vn):=ned_2 rfl rfl;rw[zf1_ (by exists zm1_,zcP_,t1,znv_,l1,l2,e2,ko,ki;rfl)]
 have ap:appendF [LS .str (flt ps cs),.str [120]]=.ok .non [LS .str (flt ps cs++[[120]]),.gone]:=zij_ (x:=[120]) (by lia)
 show En (S.runs gi pn (S.ex _::_) _) _
 rw[zoM_ (d:=.non) (e:=[vj (scr ns),vj (.int b),vj (LS .str [[x],[y],[z]]),vj (LS .str [n1,n2]),vj (LS PK ps),vj (.fz (LS .str cs)),vj (LS .str (flt ps cs)),o,vj (TD [(n1,cs),(n2,cs.take 2)]),vj (AO (AP n1 ps .no [])),vj (LS .str (flt ps cs++[[120]]))]) (by exists ap)]
 rw[zf1_ (by exists zoI_,zm1_,zr_,zcP_,ch,t1)]
 have e3:cutG cs (vj 1) vk=cs.drop 1:=zej_ (by lia)
 have ec:X.ev gi [vj (scr ns),vj (.int b),vj (LS .str [[x],[y],[z]]),vj (LS .str [n1,n2]),vj (LS PK ps),vj (.fz (LS .str cs)),vj (LS .str (flt ps cs)),o,vj (TD [(n1,cs),(n2,cs.take 2)]),vj (AO (AP n1 ps .no [])),vj (LS .str (flt ps cs++[[120]]))] (.comp ["_law_card_here"] [("_law_deck",5)] .any [(.v 6)] ⟨vn,[0]⟩ (vj (.bin .inn (.v 0) (.sl (.v 1) (vj (.n 1)) vk))) (.v 0))=.ok (LS .str (flt ps (cs.drop 1))):=by
  rw[<- zku_ nd];have:=xcomp (G:=gi) (env:=[vj (scr ns),vj (.int b),vj (LS .str [[x],[y],[z]]),vj (LS .str [n1,n2]),vj (LS PK ps),vj (.fz (LS .str cs)),vj (LS .str (flt ps cs)),o,vj (TD [(n1,cs),(n2,cs.take 2)]),vj (AO (AP n1 ps .no [])),vj (LS .str (flt ps cs++[[120]]))]) (lv:=["_law_card_here"]) (fr:=[("_law_deck",5)]) (ik:=.any) (src:=[(.v 6)]) (tg:=⟨vn,[0]⟩) (c:=vj (.bin .inn (.v 0) (.sl (.v 1) (vj (.n 1)) vk))) (e:=.v 0) (p:=λc=>decide (c∈cs.drop 1)) (f:=λc:List Nat=>c) (o:=.str) (T:=λc=>[.str c]) (items:=(flt ps cs).map .str) (flt ps cs) rfl (by exists hp) (zV_ _ _) (λc hc=>by exists ls_sl,e3,zlD_) (λc hc _=>rfl) (by lia)
  rw[pF]at this;exact this
 have t3:=zd1_ (flt ps (cs.drop 1)) (by lia)
 have kn:dspD [.str n1,LS .str (cs.drop 1)]=.ok (TD [(n1,cs.drop 1)]):=dsp_1;show En (S.runs gi pn (S.if_ _ _ _::_) _) _
 rw[zf1_ (by exists zoI_,zr_,zcP_,zp5_,l1,e3,kn,zm1_,kz,ec,t3)]
 have t4:=zd1_ cs (by lia)
 have m0:=ji [vj (scr ns),vj (.int b),vj (LS .str [[x],[y],[z]]),vj (LS .str [n1,n2]),vj (LS PK ps),vj (.fz (LS .str cs)),vj (LS .str (flt ps cs)),o,vj (TD [(n1,cs),(n2,cs.take 2)]),vj (AO (AP n1 ps .no [])),vj (LS .str (flt ps cs++[[120]]))] (by exists l1)
 show En (S.runs gi pn (S.ret _::_) _) _
 exists zoI_,zm1_,zr_,zcP_,m0,kE,t4
 fail "q"
def top (i:Nat):mC:=PySem.Challenge.pw_cardshop_k48_picked.main.body.getD i (.Pass ⟨0,0,0,0⟩)
abbrev zfg_:mC:=top 85
abbrev zdT_:mC:=top 87
abbrev zdY_:mC:=top 88
abbrev zdD_:mC:=top 86
abbrev zdI_:mC:=top 89
abbrev zeW_:mC:=top 90
abbrev zgy_:mC:=top 46
abbrev ziE_:mC:=top 53
abbrev zcj_:mC:=top 55
abbrev zg3_:mC:=top 47
abbrev zbh_:mC:=top 56
abbrev zg0_:mC:=top 48
abbrev ziy_:mC:=top 51
abbrev zdg_:mC:=top 57
abbrev zch_:mC:=top 49
abbrev zdV_:mC:=top 58
abbrev zfQ_:mC:=top 18
abbrev zg9_:mC:=top 25
abbrev zhn_:mC:=top 26
abbrev zff_:mC:=top 13
abbrev zcE_:mC:=top 33
abbrev zdE_:mC:=top 27
abbrev zc6_:mC:=top 50
abbrev zcZ_:mC:=top 59
abbrev zaP_:mC:=top 60
abbrev ze8_:mC:=top 22
abbrev zef_:mC:=top 23
abbrev zf5_:mC:=top 52
abbrev zce_:mC:=top 61
abbrev zdp_:mC:=top 63
abbrev ze5_:mC:=top 28
abbrev zdu_:mC:=top 62
abbrev zcR_:mC:=top 54
abbrev zaf_:mC:=inClass (top 45) 0
abbrev zdt_:mC:=top 78
abbrev ziq_:mC:=top 29
abbrev zdb_:mC:=top 79
abbrev zds_:mC:=top 80
abbrev zhX_:mC:=top 12
abbrev zhN_:mC:=top 14
abbrev zhK_:mC:=top 15
abbrev zgl_:mC:=top 65
abbrev zac_:mC:=top 68
abbrev zdc_:mC:=top 81
abbrev zc0_:mC:=top 82
abbrev zc1_:mC:=top 83
abbrev zdU_:mC:=top 91
abbrev s_law:mC:=top 92
structure Ek (K:Fgg):Prop where
 u0:Fg K "_law_cell" zfg_
 u1:Fg K "_law_signs" zdT_
 u2:Fg K "_law_names" zdY_
 u3:Fg K "_law_field" zdD_
 u4:Fg K "_law_picks" zdI_
 u5:Fg K "_law_card" zeW_
 u6:Fg K "own_list" zgy_
 u7:Fg K "ask_for" ziE_
 u8:Fg K "check_lengths" zcj_
 u9:Fg K "mates_by" zg3_
 u10:Fg K "check_middle_word" zbh_
 u11:Fg K "names_of" zg0_
 u12:Fg K "is_name" ziy_
 u13:Fg K "check_names" zdg_
 u14:Fg K "middle_fields" zch_
 u15:Fg K "fields_due" zdV_
 u16:Fg K "is_whole" zfQ_
 u17:Fg K "is_field" zg9_
 u18:Fg K "width_of" zhn_
 u19:Fg K "are_signs" zff_
 u20:Fg K "picked_signs" zcE_
 u21:Fg K "columns_of" zdE_
 u22:Fg K "pick_passes" zc6_
 u23:Fg K "check_picks" zcZ_
 u24:Fg K "check_middle_widths" zaP_
 u25:Fg K "is_column" ze8_
 u26:Fg K "make_board" zef_
 u27:Fg K "is_board" zf5_
 u28:Fg K "check_counting" zce_
 u29:Fg K "fields_kept" zdp_
 u30:Fg K "are_apart" ze5_
 u31:Fg K "check_works" zdu_
 u32:Fg K "check_asking" zcR_
 u33:Fg K "check_trays" zdt_
 u34:Fg K "part_of" ziq_
 u35:Fg K "picked_deck" zdb_
 u36:Fg K "middle_deck" zds_
 u37:Fg K "is_sign" zhX_
 u38:Fg K "rank_of" zhN_
 u39:Fg K "sign_at" zhK_
 u40:Fg K "ranks_at" zgl_
 u41:Fg K "put_in_order" zac_
 u42:Fg K "key_columns" zdc_
 u43:Fg K "worked_card" zc0_
 u44:Fg K "chosen_deck" zc1_
 u45:Fg K "_law_texts" zdU_
 u46:Fg K "law" s_law
 u47:FmD K "Asking" "__init__" "Asking.__init__" zaf_ [.non,(.int 0),.non,(.int 6),.non]
 u48:Fc K "Asking"
 u49:Fa K "Asking" "board"
 u50:Fa K "Asking" "breaks"
 u51:Fa K "Asking" "deck"
 u52:Fa K "Asking" "figures"
 u53:Fa K "Asking" "middle"
 u54:Fa K "Asking" "order"
 u55:Fa K "Asking" "picks"
 u56:Fa K "Asking" "sums"
 u57:Fa K "Asking" "works"
 u58:L2.Fl K (lamPos zac_)
 u59:Fb K "all"
 u60:Fb K "bool"
 u61:Fb K "enumerate"
 u62:Fb K "int"
 u63:Fb K "isinstance"
 u64:Fb K "len"
 u65:Fb K "list"
 u66:Fb K "min"
 u67:Fb K "range"
 u68:Fb K "sorted"
 u69:Fb K "str"
 u70:Fb K "zip"
 u71:Fv K "BODY_WIDTH" (.int 36)
 u72:Fv K "CARD_WIDTH" (.int 40)
 u73:Fv K "LONGEST_NAME" (.int 8)
 u74:Fv K "MOST_BREAKS" (.int 3)
 u75:Fv K "MOST_FIGURES" (.int 12)
 u76:Fv K "MOST_KEYS" (.int 6)
 u77:Fv K "MOST_PICKS" (.int 8)
 u78:Fv K "MOST_SUMS" (.int 4)
 u79:Fv K "MOST_WORKS" (.int 4)
 u80:Fv K "SIGNS" (tx Qm0)
 u81:Fv K "SMALL_LETTERS" (tx Qm1)
 u82:Fk K "MATING_WORDS"
 u83:FtT K "MATING_WORDS" [[109,97,116,101,115],[119,105,116,104,111,117,116]]
 u84:Fk K "WORK_WORDS"
 u85:FtT K "WORK_WORDS" [[112,108,117,115],[108,101,115,115],[116,105,109,101,115]]
structure En (K:Fgg)(mg:Str->Option aV):Prop extends Ek K where
 m:Mgo K mg
def ft:Ft:={bs:=["all", "bool", "enumerate", "int", "isinstance", "len", "list", "min", "range", "sorted", "str", "zip"],at_:=["board", "breaks", "deck", "figures", "middle", "order", "picks", "sums", "works"],gc:=[("BODY_WIDTH",(.int 36)),("CARD_WIDTH",(.int 40)),("LONGEST_NAME",(.int 8)),("MOST_BREAKS",(.int 3)),("MOST_FIGURES",(.int 12)),("MOST_KEYS",(.int 6)),("MOST_PICKS",(.int 8)),("MOST_SUMS",(.int 4)),("MOST_WORKS",(.int 4)),("SIGNS",(tx Qm0)),("SMALL_LETTERS",(tx Qm1))]}
theorem gok {K:Fgg}(e:Ek K):gi.Ok K:=⟨by decide,(zf_ (ftt_u e.u83) (zf_ (ftt_u e.u85) zdN_))⟩
theorem fo {K:Fgg}{mg:Str->Option aV}(e:En K mg):ft.Ok gi K mg:=⟨(zf_ (e.m.gb e.u59) (zf_ (e.m.gb e.u60) (zf_ (e.m.gb e.u61) (zf_ (e.m.gb e.u62) (zf_ (e.m.gb e.u63) (zf_ (e.m.gb e.u64) (zf_ (e.m.gb e.u65) (zf_ (e.m.gb e.u66) (zf_ (e.m.gb e.u67) (zf_ (e.m.gb e.u68) (zf_ (e.m.gb e.u69) (zf_ (e.m.gb e.u70) zdN_)))))))))))),(zf_ e.u48.cls zdN_),(zf_ (zf_ e.u49.no (zf_ e.u50.no (zf_ e.u51.no (zf_ e.u52.no (zf_ e.u53.no (zf_ e.u54.no (zf_ e.u55.no (zf_ e.u56.no (zf_ e.u57.no zdN_))))))))) zdN_),(zf_ (e.m.gv e.u71) (zf_ (e.m.gv e.u72) (zf_ (e.m.gv e.u73) (zf_ (e.m.gv e.u74) (zf_ (e.m.gv e.u75) (zf_ (e.m.gv e.u76) (zf_ (e.m.gv e.u77) (zf_ (e.m.gv e.u78) (zf_ (e.m.gv e.u79) (zf_ (e.m.gv e.u80) (zf_ (e.m.gv e.u81) zdN_))))))))))),(zf_ (e.m.gkc e.u82) (zf_ (e.m.gkc e.u84) zdN_))⟩
section
variable {P:l5}{w:mx}{K:Fgg}{mg:Str->Option aV}{base:Heap}
theorem g0 (e:En K mg):GG P w K mg base 1 "_law_cell" ["_law_script", "_law_k"] z1_:=zJ_ e.m e.u0 (okW (N:=["_law_script", "_law_k", "_law_number"]) (body:=z3_) (n:=2) (m:=1) (gok e.toEk) (fo e) trivial)
theorem g1 (e:En K mg):GG P w K mg base 1 "_law_signs" ["_law_cell_here"] zaV_:=zJ_ e.m e.u1 (okW (N:=["_law_cell_here", "_law_some", "_law_one", "_law_two"]) (body:=za1_) (n:=1) (m:=3) (gok e.toEk) (fo e) trivial)
theorem g2 (e:En K mg):GG P w K mg base 1 "_law_names" ["_law_cell_here"] za4_:=zJ_ e.m e.u2 (okW (N:=["_law_cell_here", "_law_letters", "_law_one", "_law_at", "_law_two"]) (body:=z7_) (n:=1) (m:=4) (gok e.toEk) (fo e) trivial)
theorem g3 (e:En K mg):GG P w K mg base 1 "_law_field" ["_law_cell_here", "_law_base"] za5_:=zJ_ e.m e.u3 (okW (N:=["_law_cell_here", "_law_base", "_law_low"]) (body:=za2_) (n:=2) (m:=1) (gok e.toEk) (fo e) trivial)
theorem g4 (e:En K mg):GG P w K mg base 2 "_law_picks" ["_law_script", "_law_base", "_law_signs_here"] zH_:=zJ_ e.m e.u4 (okW (N:=["_law_script", "_law_base", "_law_signs_here", "_law_held", "_law_picks_here", "_law_k", "_law_cell_here", "_law_field_here", "_law_text", "_law_j"]) (body:=zI_) (n:=3) (m:=7) (gok e.toEk) (fo e) ⟨fkc (g0 e),fkc (g0 e),fkc (g3 e),trivial⟩)
theorem g5 (e:En K mg):GG P w K mg base 1 "_law_card" ["_law_cell_here", "_law_base", "_law_signs_here", "_law_k"] zw_:=zJ_ e.m e.u5 (okW (N:=["_law_cell_here", "_law_base", "_law_signs_here", "_law_k", "_law_some", "_law_row", "_law_j"]) (body:=zZ_) (n:=4) (m:=3) (gok e.toEk) (fo e) trivial)
theorem g6 (e:En K mg):GG P w K mg base 1 "own_list" ["values"] zz_:=zJ_ e.m e.u6 (okW (N:=["values"]) (body:=zbk_) (n:=1) (m:=0) (gok e.toEk) (fo e) trivial)
theorem g7 (e:En K mg):GG P w K mg base 1 "ask_for" ["holds", "words"] zcz_:=zJ_ e.m e.u7 (okW (N:=["holds", "words"]) (body:=zeu_) (n:=2) (m:=0) (gok e.toEk) (fo e) trivial)
theorem g8 (e:En K mg):GG P w K mg base 2 "check_lengths" Qn1 zR_:=zJ_ e.m e.u8 (okW (N:=Qn1) (body:=zT_) (n:=1) (m:=0) (gok e.toEk) (fo e) ⟨fkc (g7 e),fkc (g7 e),fkc (g7 e),fkc (g7 e),trivial⟩)
theorem g9 (e:En K mg):GG P w K mg base 1 "mates_by" Qn1 zbT_:=zJ_ e.m e.u9 (okW (N:=Qn1) (body:=zdo_) (n:=1) (m:=0) (gok e.toEk) (fo e) trivial)
theorem g10 (e:En K mg):GG P w K mg base 2 "check_middle_word" Qn1 zv_:=zJ_ e.m e.u10 (okW (N:=["asking", "many"]) (body:=zM_) (n:=1) (m:=1) (gok e.toEk) (fo e) ⟨fkc (g7 e),fkc (g9 e),fkc (g7 e),fkc (g9 e),trivial⟩)
theorem g11 (e:En K mg):GG P w K mg base 2 "names_of" Qn1 zX_:=zJ_ e.m e.u11 (okW (N:=Qn1) (body:=zdr_) (n:=1) (m:=0) (gok e.toEk) (fo e) ⟨fkc (g9 e),trivial⟩)
theorem g12 (e:En K mg):GG P w K mg base 1 "is_name" ["text"] zcV_:=zJ_ e.m e.u12 (okW (N:=["text"]) (body:=zcK_) (n:=1) (m:=0) (gok e.toEk) (fo e) trivial)
theorem g13 (e:En K mg):GG P w K mg base 3 "check_names" Qn1 zL_:=zJ_ e.m e.u13 (okW (N:=["asking", "names", "name"]) (body:=zaH_) (n:=1) (m:=2) (gok e.toEk) (fo e) ⟨fkc (g11 e),fkc (g7 e),fkc (g12 e),fkc (g7 e),trivial⟩)
theorem g14 (e:En K mg):GG P w K mg base 2 "middle_fields" Qn1 zQ_:=zJ_ e.m e.u14 (okW (N:=Qn1) (body:=zaQ_) (n:=1) (m:=0) (gok e.toEk) (fo e) ⟨fkc (g9 e),trivial⟩)
theorem g15 (e:En K mg):GG P w K mg base 3 "fields_due" Qn1 za9_:=zJ_ e.m e.u15 (okW (N:=["asking", "fields", "work"]) (body:=zaY_) (n:=1) (m:=2) (gok e.toEk) (fo e) ⟨fkc (g14 e),trivial⟩)
theorem g16 (e:En K mg):GG P w K mg base 1 "is_whole" ["value"] zbZ_:=zJ_ e.m e.u16 (okW (N:=["value"]) (body:=zc5_) (n:=1) (m:=0) (gok e.toEk) (fo e) trivial)
theorem g17 (e:En K mg):GG P w K mg base 2 "is_field" ["first", "last"] zbY_:=zJ_ e.m e.u17 (okW (N:=["first", "last"]) (body:=zb1_) (n:=2) (m:=0) (gok e.toEk) (fo e) ⟨fkc (g16 e),fkc (g16 e),trivial⟩)
theorem g18 (e:En K mg):GG P w K mg base 1 "width_of" ["field"] zbR_:=zJ_ e.m e.u18 (okW (N:=["field"]) (body:=zdk_) (n:=1) (m:=0) (gok e.toEk) (fo e) trivial)
theorem g19 (e:En K mg):GG P w K mg base 1 "are_signs" ["text"] zaN_:=zJ_ e.m e.u19 (okW (N:=["text"]) (body:=zbA_) (n:=1) (m:=0) (gok e.toEk) (fo e) trivial)
theorem g20 (e:En K mg):GG P w K mg base 1 "picked_signs" ["row"] zC_:=zJ_ e.m e.u20 (okW (N:=["row", "signs", "step"]) (body:=zaa_) (n:=1) (m:=2) (gok e.toEk) (fo e) trivial)
theorem g21 (e:En K mg):GG P w K mg base 1 "columns_of" ["field"] z9_:=zJ_ e.m e.u21 (okW (N:=["field"]) (body:=zaZ_) (n:=1) (m:=0) (gok e.toEk) (fo e) trivial)
theorem g22 (e:En K mg):GG P w K mg base 2 "pick_passes" Qn1 zam_:=zJ_ e.m e.u22 (okW (N:=["asking", "row", "pick"]) (body:=zaG_) (n:=1) (m:=2) (gok e.toEk) (fo e) ⟨fkc (g21 e),trivial⟩)
theorem g23 (e:En K mg):GG P w K mg base 3 "check_picks" Qn1 zar_:=zJ_ e.m e.u23 (okW (N:=["asking", "pick"]) (body:=zaw_) (n:=1) (m:=1) (gok e.toEk) (fo e) ⟨fkc (g7 e),fkc (g18 e),fkc (g7 e),fkc (g19 e),fkc (g7 e),fkc (g20 e),fkc (g22 e),trivial⟩)
theorem g24 (e:En K mg):GG P w K mg base 3 "check_middle_widths" Qn1 zs_:=zJ_ e.m e.u24 (okW (N:=["asking", "fields"]) (body:=zi_) (n:=1) (m:=1) (gok e.toEk) (fo e) ⟨fkc (g14 e),fkc (g7 e),fkc (g18 e),fkc (g18 e),trivial⟩)
theorem g25 (e:En K mg):GG P w K mg base 2 "is_column" ["value", "most"] zaJ_:=zJ_ e.m e.u25 (okW (N:=["value", "most"]) (body:=zbv_) (n:=2) (m:=0) (gok e.toEk) (fo e) ⟨fkc (g16 e),trivial⟩)
theorem g26 (e:En K mg):GG P w K mg base 3 "make_board" ["wires"] za8_:=zJ_ e.m e.u26 (okW (N:=["wires", "wire", "leading"]) (body:=za6_) (n:=1) (m:=2) (gok e.toEk) (fo e) ⟨fkc (g25 e),fkc (g25 e),trivial⟩)
theorem g27 (e:En K mg):GG P w K mg base 4 "is_board" ["wires"] zcb_:=zJ_ e.m e.u27 (okW (N:=["wires", "board"]) (body:=zca_) (n:=1) (m:=1) (gok e.toEk) (fo e) ⟨fkc (g26 e),trivial⟩)
theorem g28 (e:En K mg):GG P w K mg base 5 "check_counting" Qn1 zG_:=zJ_ e.m e.u28 (okW (N:=Qn1) (body:=zD_) (n:=1) (m:=0) (gok e.toEk) (fo e) ⟨fkc (g7 e),fkc (g16 e),fkc (g7 e),fkc (g7 e),fkc (g16 e),fkc (g7 e),fkc (g27 e),trivial⟩)
theorem g29 (e:En K mg):GG P w K mg base 3 "fields_kept" ["asking", "place"] zan_:=zJ_ e.m e.u29 (okW (N:=["asking", "place", "fields", "other_place", "work"]) (body:=zap_) (n:=2) (m:=3) (gok e.toEk) (fo e) ⟨fkc (g14 e),trivial⟩)
theorem g30 (e:En K mg):GG P w K mg base 1 "are_apart" ["one", "other"] zbu_:=zJ_ e.m e.u30 (okW (N:=["one", "other"]) (body:=zbx_) (n:=2) (m:=0) (gok e.toEk) (fo e) trivial)
theorem g31 (e:En K mg):GG P w K mg base 4 "check_works" Qn1 zaF_:=zJ_ e.m e.u31 (okW (N:=["asking", "place", "work", "field"]) (body:=zav_) (n:=1) (m:=3) (gok e.toEk) (fo e) ⟨fkc (g7 e),fkc (g29 e),fkc (g7 e),fkc (g30 e),trivial⟩)
theorem g32 (e:En K mg):GG P w K mg base 6 "check_asking" Qn1 zae_:=zJ_ e.m e.u32 (okW (N:=["asking", "field"]) (body:=z5_) (n:=1) (m:=1) (gok e.toEk) (fo e) ⟨fkc (g8 e),fkc (g10 e),fkc (g13 e),fkc (g15 e),fkc (g7 e),fkc (g17 e),fkc (g23 e),fkc (g24 e),fkc (g28 e),fkc (g31 e),trivial⟩)
theorem g33 (e:En K mg):GkD P w K mg base CX0 7 "Asking" (gA K "Asking") Qn0 ((flats [.non,(.int 0),.non,(.int 6),.non]).getD []) (CtG K zc_):=show GkD P w K mg base CX0 7 "Asking" (gA K "Asking") Qn0 ([.non,(.int 0),.non,(.int 6),.non].drop 0) (CtG K zc_)from zrd_ 0 e.m e.u48 e.u47 (λT f fd arr n oc od aq F lT hl=>bnd5 rfl F lT hl λd0 d1 d2 d3 d4 kV doc pm an ae ct u0 u1 u2 u3 u4 s ⟨o,ho,hd⟩=>BindsTo.of_defaults rfl ho hd rfl rfl) (okVD (k:=6) (ps:=Qn0) (st:=zaf_) (N:=Qn0) (body:=zg_) (n:=10) (m:=0) (gok e.toEk) (fo e) ⟨fkc (g6 e),fkc (g6 e),fkc (g6 e),fkc (g32 e),trivial⟩ (by decide +kernel) ⟨rfl,rfl,rfl,by decide +kernel,rfl,by decide +kernel,by decide +kernel⟩ rfl rfl)
theorem g34 (e:En K mg):GG P w K mg base 3 "check_trays" ["asking", "trays"] zaE_:=zJ_ e.m e.u33 (okW (N:=["asking", "trays", "name"]) (body:=zaj_) (n:=2) (m:=1) (gok e.toEk) (fo e) ⟨fkc (g11 e),trivial⟩)
theorem g35 (e:En K mg):GG P w K mg base 1 "part_of" ["card", "field"] zcs_:=zJ_ e.m e.u34 (okW (N:=["card", "field"]) (body:=zcQ_) (n:=2) (m:=0) (gok e.toEk) (fo e) trivial)
theorem g36 (e:En K mg):GG P w K mg base 2 "picked_deck" ["asking", "deck"] zax_:=zJ_ e.m e.u35 (okW (N:=["asking", "deck", "left", "pick"]) (body:=zaD_) (n:=2) (m:=2) (gok e.toEk) (fo e) ⟨fkc (g35 e),trivial⟩)
theorem g37 (e:En K mg):GG P w K mg base 1 "middle_deck" ["asking", "deck", "trays"] zak_:=zJ_ e.m e.u36 (okW (N:=["asking", "deck", "trays", "fields", "ordered", "parts"]) (body:=zaz_) (n:=3) (m:=3) (gok e.toEk) (fo e) trivial)
theorem g38 (e:En K mg):GG P w K mg base 1 "is_sign" ["text"] zeq_:=zJ_ e.m e.u37 (okW (N:=["text"]) (body:=zeF_) (n:=1) (m:=0) (gok e.toEk) (fo e) trivial)
theorem g39 (e:En K mg):GG P w K mg base 2 "rank_of" ["sign"] zet_:=zJ_ e.m e.u38 (okW (N:=["sign"]) (body:=zes_) (n:=1) (m:=0) (gok e.toEk) (fo e) ⟨fkc (g38 e),trivial⟩)
theorem g40 (e:En K mg):GG P w K mg base 1 "sign_at" ["card", "column"] zev_:=zJ_ e.m e.u39 (okW (N:=["card", "column"]) (body:=zew_) (n:=2) (m:=0) (gok e.toEk) (fo e) trivial)
theorem g41 (e:En K mg):GG P w K mg base 3 "ranks_at" ["card", "columns"] zal_:=zJ_ e.m e.u40 (okW (N:=["card", "columns"]) (body:=zbX_) (n:=2) (m:=0) (gok e.toEk) (fo e) ⟨fkc (g39 e),fkc (g40 e),trivial⟩)
theorem g42 (e:En K mg):GG P w K mg base 5 "put_in_order" ["deck", "columns"] zB_:=zoW_ (st:=zac_) (N:=["deck", "columns"]) (n:=2) (m:=0) (p:="card") (fr:=[("columns",1)]) (i:=0) e.m e.u41 e.u58 (gok e.toEk) (fo e) ⟨fkc (g41 e),trivial⟩
theorem g43 (e:En K mg):GG P w K mg base 2 "key_columns" Qn1 zau_:=zJ_ e.m e.u42 (okW (N:=["asking", "columns", "key"]) (body:=zaC_) (n:=1) (m:=2) (gok e.toEk) (fo e) ⟨fkc (g21 e),trivial⟩)
theorem g44 (e:En K mg):GG P w K mg base 1 "worked_card" ["asking", "card"] zas_:=zJ_ e.m e.u43 (okW (N:=["asking", "card", "worked", "work"]) (body:=zaA_) (n:=2) (m:=2) (gok e.toEk) (fo e) trivial)
theorem g45 (e:En K mg):GG P w K mg base 6 "chosen_deck" ["asking", "trays"] zu_:=zJ_ e.m e.u44 (okW (N:=["asking", "trays", "deck"]) (body:=zao_) (n:=2) (m:=1) (gok e.toEk) (fo e) ⟨fkc (g34 e),fkc (g36 e),fkc (g37 e),fkc (g42 e),fkc (g43 e),fkc (g44 e),trivial⟩)
theorem g46 (e:En K mg):GG P w K mg base 1 "_law_texts" ["_law_found", "_law_due"] za0_:=zJ_ e.m e.u45 (okW (N:=["_law_found", "_law_due", "_law_one"]) (body:=za3_) (n:=2) (m:=1) (gok e.toEk) (fo e) trivial)
theorem g47 (e:En K mg):OkF P w K mg base CX0 9 "law" "law" s_law ["_law_script"] (CtG K f_law):=okW (N:=["_law_script", "_law_base", "_law_signs_here", "_law_names_here", "_law_picks_here", "_law_deck", "_law_due", "_law_card_here", "_law_trays", "_law_asking", "_law_found"]) (body:=zpi_) (n:=1) (m:=10) (gok e.toEk) (fo e) ⟨fkc (g0 e),fkc (g1 e),fkc (g0 e),fkc (g2 e),fkc (g0 e),fkc (g4 e),fkc (g5 e),fkd (g33 e),fkc (g45 e),fkc (g46 e),fkc (g46 e),fkc (g45 e),fkc (g46 e),fkc (g45 e),fkc (g46 e),fkc (g45 e),fkd (g33 e),trivial⟩
end
theorem all_mk {l:t9}{w:mx}{K:Fgg}{h:Heap}{mg:Str->Option aV}{fa:lE}(X:K.In h)(G:h.Ns lU mg)(gQ:mg "law"=vj (.ref fa))(k:Ek K):
  ∃fd:mW,(∀(s:lu) (v:aV),BindsTo s fd ⟨[v],[]⟩ [("_law_script",v)])/\∀base:Heap,K.In base->base.Ns lU mg->FnOk l.prog w K mg base CX0 9 fa fd ["_law_script"] (spL K):=by
 have e:En K mg:=⟨k,_,X,G⟩;refine okLaw e.m e.u46 gQ (λ_ _ _ _ _ _ _ _=>rfl) λbase f fd F=>?_
 exact okLV (g47 (P:=l.prog) (w:=w) (base:=base) e f fd F).1 zkj_
theorem walk {l:t9}{q:l5}{loose:List Str}{XP:(Str->Option aV)->Heap->Prop}{YP:mx->Heap->Prop}{d:DefRec}{K:Params->Fgg}(hn:l.most=vj 63)(eY:d.params.defaults=[])(bZ:∀p,L2.lamOk q (K p)=vm)
  (hY:∀(w:mx) (h:Heap),YP w h->(K w.params).In h)
  (F:∀(w:mx) (mg:Str->Option aV) (fa:lE) (h:Heap),(K w.params).In h->h.Ns lU mg->mg d.name=vj (.ref fa) ->
   ∃fd:mW,(∀(s:lu) (u:aV),BindsTo s fd ⟨[u],[]⟩ [("_law_script",u)])/\∀base:Heap,(K w.params).In base->base.Ns lU mg->FnOk l.prog w (K w.params) mg base CX0 9 fa fd ["_law_script"] (spL (K w.params))):
  W.WalkO q loose XP YP l.row.toRowW d [] (λf vs=>tO f vs):=
 L2.zjy_ (n:=63) (k:=9) (x:="_law_script") (CX:=λ_=>CX0) (sp:=λw=>spL (K w.params)) hn (by decide) eY ⟨rfl,by decide,by decide⟩ bZ hY F (λ_ _ a ns hl hb _ hS=>⟨a,ns,rfl,hS,hl,hb,λ_=>rfl⟩) λ_ _ _ _ _ z=>z
end K48
open PySem PySem.W PyProof.Rows
set_option maxRecDepth 100000 in
set_option maxHeartbeats 0 in
theorem PySem.Challenge.cw_cardshop_k48_picked_holds : PySem.Challenge.rw_cardshop_k48_picked.Holds := by
 w_on;o_law;k_head;(case hw=>w_witness2)
 k_fill
 refine K48.walk (l:=PySem.Challenge.rw_cardshop_k48_picked) rfl rfl ?L (λw h Y=>W.km_in_of Y) ?F
 case L=>intro p;kernel_rfl!
 case F=>
  intro w mg fa h KX G eL;refine K48.all_mk KX G eL ?_;constructor
  all_goals first |(refine' L2.Fl.mk_ ?x0 ?x1 ?x2 ?x3 ?x4 ?x5 ?x6 ?x7 ?x8;(case x0=>k_is);(case x1=>k_is);(case x2=>rfl);(case x3=>k_is);(case x4=>rfl);(case x5=>rfl);(case x6=>rfl);(case x7=>rfl);(case x8=>rfl))|(refine' L2.FmD.mk_ ?x0 ?x1 ?x2 ?x3 ?x4 ?x5 ?x6 ?x7;(case x0=>k_is);(case x1=>k_is);(case x2=>k_is);(case x3=>k_is);(case x4=>k_is);(case x5=>k_is);(case x6=>k_is);(case x7=>(show _=_;kernel_rfl!)))|(refine' L2.Fg.mk_ ?x0 ?x1 ?x2 ?x3;(case x0=>k_is);(case x1=>k_is);(case x2=>k_is);(case x3=>k_is))|(refine' L2.Fm.mk_ ?x0 ?x1 ?x2 ?x3 ?x4 ?x5;(case x0=>k_is);(case x1=>k_is);(case x2=>k_is);(case x3=>k_is);(case x4=>k_is);(case x5=>k_is))|(refine' L2.Fc.mk_ ?x0 ?x1 ?x2 ?x3 ?x4 ?x5 ?x6;(case x0=>k_is);(case x1=>k_is);(case x2=>k_is);(case x3=>k_is);(case x4=>k_is);(case x5=>k_is);(case x6=>k_is))|(refine' L2.Fa.mk_ ?x0 ?x1;(case x0=>k_is);(case x1=>k_is))|(delta L2.Fb;k_is)|(refine' L2.Fv.mk_ ?x0 ?x1;(case x0=>k_is);(case x1=>first |exact⟨_,rfl⟩|rfl))|(refine' L2.Fk.mk_ ?x0;(case x0=>k_is))|(refine' L2.Fe1.mk_ ?x0 ?x1;(case x0=>k_is);(case x1=>(show _=_;kernel_rfl!)))|(refine' L2.FtT.mk_ ?x0 ?x1 ?x2 ?x3;(case x0=>k_is);(case x1=>k_is);(case x2=>(show _=_;kernel_rfl!));(case x3=>decide))
#print axioms PySem.Challenge.cw_cardshop_k48_picked_holds
