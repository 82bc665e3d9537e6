import PyProof.Rows.All
import Wide.All
import OpenK.AllK
import Wide.FinOn
import Lean
import PyProof.EqAt
import PyProof.EqKinds
import PyProof.TupleCall
import PyProof.StrLawsRepr
import PyProof.NeKinds
import KE.KTryMore
import PyProof.Rows.TupIter
import PyProof.InstStoreFacts
import PyProof.ExcInit
import KE.KEqDict
import KE.KDictOf
import KE.KPairComp
import PySem.Challenge.RW_cardshop_k50_put_in_order
set_option Elab.async false
set_option compiler.extract_closed false
set_option linter.all false
set_option maxRecDepth 100000
set_option maxHeartbeats 4000000
namespace PySem.W.Fast
def tw9293506001508276265:=()
def tw14665744998816491530:=()
def tw2926697196634092729:=()
def tw10723468196845159:=()
def tw14232647562887743162:=()
def tw11323651396726392180:=()
def tw1327383766410337005:=()
def tw14748378934833980717:=()
def tw10490824562088522607:=()
def tw4087902142808006830:=()
def tw2437298680051142659:=()
def tw16353386577041917855:=()
def tw12912229802016942018:=()
def tw74537106668179906:=()
def tw3226282375238256161:=()
def tw11389244410494900425:=()
def tw5804615552688801199:=()
def tw10046027367246702571:=()
def tw13091142430541809644:=()
def tw16890852076915412004:=()
def tw9412502253075817683:=()
def tw14264136657348780505:=()
def tw12347210831954084262:=()
def tw2449743641003383254:=()
def tw17958205304391407446:=()
def tw3615700362193571048:=()
def tw17022551368954845769:=()
def tw12129716670510617689:=()
def tw6963595336282982867:=()
def tw16855402249770122717:=()
def tw12441724850403785612:=()
def tw4923330740622712294:=()
def tw3253340810005935074:=()
def tw14471182930018111289:=()
def tw8604054222663360624:=()
def tw17049440536782795321:=()
def tw18378193444523394471:=()
def tw12394877906521564313:=()
def tw12046625649188454622:=()
def tw4234498530668687751:=()
def tw15680670672560993872:=()
def tw3363037373655721781:=()
def tw9958874522653267164:=()
def tw8775027909146223233:=()
def tw10188885968713220324:=()
def tw6921046399627542501:=()
def tw16452960127385256956:=()
def tw10849241681661995024:=()
def tw10603261763500012876:=()
def tw15269972404374045456:=()
def tw10385359312948795521:=()
def tw12327769586033263603:=()
def tw963594696166080108:=()
def tw5149057663561783729:=()
def tw14729733349510825322:=()
def tw3420528552913738367:=()
def tw16854173898595859304:=()
def tw16168057307813696091:=()
def tw6135063607427812883:=()
def tw7381425042044724884:=()
def tw5548115314249438730:=()
def tw5866055238465098896:=()
def tw15593123428251017899:=()
def tw6947673920241496442:=()
def tw17219520965269687167:=()
def tw10375402190303010907:=()
def tw6337641159308277085:=()
def tw6032440242780689185:=()
def tw6436930447309592183:=()
def tw16072482783930173549:=()
def tw17085392445370366509:=()
def tw16272139706195488259:=()
def tw14704609508970756073:=()
def tw4949242712022947846:=()
def tw418683057714968724:=()
def tw2972214973666805646:=()
def tw7942913660233151733:=()
def tw11678795392153336149:=()
def tw13133226531316084087:=()
def tw13852100486444667447:=()
def tw3337847987651149759:=()
def tw5897775322134271673:=()
def tw10952239664760433624:=()
def tw8836197112613890810:=()
def tw4165996501548648793:=()
def tw9835977015940528233:=()
def tw3386055555430504678:=()
def tw6716266545706599914:=()
def tw2713198833065683013:=()
def tw4465597887262674694:=()
def tw12127249937140924658:=()
def tw9854537805609839722:=()
def tw7043458942963891332:=()
def tw10125596010482290346:=()
def tw8227064744186478165:=()
def tw587142808604633770:=()
def tw15146510487254130924:=()
def tw12941963708768948066:=()
def tw4365427181940945301:=()
def tw15087788363696771258:=()
def tw15590659368506715485:=()
def tw13317456770898748178:=()
def tw10231091143889320206:=()
def tw14121278306531149358:=()
def tw13280478486744449227:=()
def tw13496940548781374223:=()
def tw688210464849587619:=()
def tw16644827012701162254:=()
def tw525399164574234389:=()
def tw47917786625084263:=()
def tw9645130725514104027:=()
def tw9937575531554406078:=()
def tw3297399975281252867:=()
def tw8489429180586282212:=()
def tw14859292034120433393:=()
def tw13428431543480594266:=()
def tw2439573261594055321:=()
def tw12626170024477147367:=()
def tw13937105537582346412:=()
def tw10575016760554722928:=()
def tw16595054536583543500:=()
def tw2275457713151515375:=()
def tw7158461906387979344:=()
def tw5024638793896505740:=()
def tw5640060062414954504:=()
def tw17860781716881805475:=()
def tw15866510099768322409:=()
def tw16926810921432094864:=()
def tw14349922957660751710:=()
def tw863083781434672521:=()
def tw4995183748153984761:=()
def tw18379325964892595486:=()
def tw13655805016557675289:=()
def tw17331918741921442459:=()
def tw10805902284716348890:=()
def tw13927796754099591216:=()
def tw13205790036607033030:=()
def tw4063592930330082064:=()
def tw17928292144505211478:=()
def tw1513409220748472265:=()
def tw904934531749993048:=()
def tw10438719149072916775:=()
def tw5006837215508006037:=()
def tw12181667266981521936:=()
def tw9746571716620371248:=()
def tw4051294248621567335:=()
def tw2657045907839880894:=()
def tw6454636273319665194:=()
def tw16420067808034493587:=()
def tw11339540789809050799:=()
def tw17433519952368708595:=()
def tw13803414238812084147:=()
def tw5183293411305666706:=()
def tw16542390745440543188:=()
def tw155125407190023969:=()
def tw11356907738661568307:=()
def tw11766690302204954889:=()
def tw3770674010227096046:=()
def tw14715076420084815338:=()
def tw18028675212374333962:=()
def tw6081921396650634886:=()
def tw4632393990180561604:=()
def tw14256802985179823205:=()
def tw14658881122971072025:=()
def tw14062991107043583940:=()
def tw18114377216735973531:=()
def tw13414638768707157303:=()
def tw6739987728845252117:=()
def tw9140179592521689996:=()
def tw14386622202976261957:=()
def tw12256197377060522244:=()
def tw16671782540375645312:=()
def tw1421831677243936633:=()
def tw16338456994773906179:=()
def tw2889159626382499260:=()
def tw6634554697524709982:=()
def tw9245042408447726271:=()
def tw16040403072577527778:=()
def tw10817150509078759401:=()
def tw10070370284909144140:=()
def tw12255475118418260095:=()
def tw3306878551380273781:=()
def tw2979091611212197093:=()
def tw9132257336455736833:=()
def tw3542012261729446724:=()
def tw16190591373662067256:=()
def tw14528353481360224932:=()
def tw1611184140035497530:=()
def tw3073113399137971298:=()
def tw5424851775234336556:=()
def tw1066551017698497128:=()
def tw3539609714498487634:=()
def tw6266266821161978785:=()
def tw14119657514352241167:=()
def tw2745707854567363801:=()
def tw13809503417383017937:=()
def tw5679986865798286058:=()
def tw10792075716978855701:=()
def tw15987986985477372968:=()
def tw1017859249065690575:=()
def tw5292950587070763984:=()
def tw8294064566546590167:=()
def tw9856500413484688710:=()
def tw4316296516976756838:=()
def tw2167491696607673169:=()
def tw650463959231460028:=()
def tw4710281805312866903:=()
def tw18003142453868465195:=()
def tw10999437997366779035:=()
def tw2811503842484402821:=()
def tw13418093015196042129:=()
def tw13696442355547566761:=()
def tw16077140552071628461:=()
def tw18349923525903101909:=()
def tw6659437475449165158:=()
def tw4867388832408570495:=()
def tw16460854492598473913:=()
def tw15463423070092601195:=()
def tw563763143471347143:=()
def tw12746124556450378294:=()
def tw7207170750874382546:=()
def tw10992072802775964116:=()
def tw10496212887000685509:=()
def tw18168419256947374582:=()
def tw1841356110794608892:=()
def tw3843919349889065747:=()
def tw4000587348809935800:=()
def tw14509525205876483216:=()
def tw13366083960047047080:=()
def tw8190698596421356143:=()
def tw17264893134645860943:=()
def tw1276858811876679099:=()
def tw712356041627691510:=()
def tw11755962439318486092:=()
def tw17054341863075795699:=()
def tw1991204550092029910:=()
def tw1585397825635099499:=()
def tw15017139433397953351:=()
def tw15315796213199921371:=()
def tw9649514160292496589:=()
def tw5106389747400462474:=()
def tw3843161528338728828:=()
def tw3975016879535685062:=()
def tw3491240944189320059:=()
def tw12170301526805533069:=()
def tw9947347307628474663:=()
def tw2281369951794575974:=()
def tw3715452397219476704:=()
def tw11057269833954686925:=()
def tw15038554713517188607:=()
end PySem.W.Fast
set_option genSizeOf false
set_option genSizeOfSpec false
set_option bootstrap.genMatcherCode false
noncomputable section
open PySem renaming Value→aU,Shared→kF,wpAny_bind→kJ,Addr→kR,sizeLine→lg,Expr→lq,mainGlobals→lD,wpAny_pure→lE,compareOp→lF,wpAny→lJ,Program→lN,starEach→lQ,wpAny_truthy_bool→lZ,World→l7,Stmt→l8,Around→l9,mem_of_lookup→mi,strIterType→mw,FuncData→mH,wpAny_mono→mM,assignEach→m9,binaryOp→nz,bootBuiltins→nE,wpAny_Call_Name_kw→nJ,NameKind→nL,backTo→oj,wpAny_passesOwn→pd,keywordEach→pL,Within→qr,backToKw→qP,Builtin→qY,wpAny_field→sy,call→sX,Obj→tF,Args→uH
open Bool renaming and_eq_true→ky,and_eq_true_iff→lX,false_ne_true→mq,eq_iff_iff→nY,or_eq_true→n5,not_eq_true'→px,false_eq_true→pZ,false_or→tm,and_true→tB,true→uO,false→uP
open List renaming getElem?_eq_getElem→kz,length_map→kE,size_toArray→kQ,map_cons→kX,getD_eq_getElem?_getD→kY,getElem?_map→kZ,mem_cons_self→lj,mem_cons_of_mem→ll,length_cons→lp,replicate→lu,mem_cons→lA,getElem?_eq_some_iff→lB,length_append→lC,range→lK,getElem?_set_ne→lL,mem_append_right→lM,zip_cons_cons→lV,isEmpty_iff→lW,map_map→lY,cons_append→l0,mem_range→l4,mem_singleton→l5,length_range→mf,exists_cons_of_length_eq_add_one→mh,length_eq_zero_iff→ml,all_eq_true→mm,all_cons→mr,mem_map→mz,length_zip→mB,length_take→mC,getElem?_append_right→mD,getElem?_append_left→mF,pairwise_iff_getElem→mG,length_drop→mJ,getElem_mem→mK,replicate_succ→mL,nil_append→mQ,length_set→mS,map_append→mT,mem_of_getElem?→mU,getElem?_set_self→mZ,length_eq_one_iff→m4,mem_filter→m5,find?_cons→m6,idxOf_lt_length_iff→nh,append_assoc→nr,getElem?_set→nu,getElem?_cons_succ→nv,mem_append→ny,map_congr_left→nC,find?_cons_of_neg→nH,getElem_idxOf→nO,length_singleton→nQ,getElem?_eq_none→nR,append_nil→nU,nodup_cons→nW,of_mem_zip→nX,map_nil→n6,flatten_cons→oe,flatMap_append→ou,getElem_map→oy,take_of_length_le→oE,set_cons_zero→oG,flatMap_singleton→oH,any_cons→oJ,length_filter_le→oM,mem_append_left→oP,mem_iff_getElem→oS,getElem?_zip_eq_some→oX,drop_eq_getElem_cons→oY,filter_sublist→o9,length_nil→pf,pairwise_cons→ph,set_cons_succ→pj,lookup→pv,ext_getElem?→pB,set_set→pC,lookup_cons→pH,getElem?_mapIdx→pN,foldl_cons→pO,filterMap_cons→pR,getElem_of_mem→pT,lt_irrefl→pX,getElem?_eq_none_iff→p4,not_lt→p8,nodup_append→p9,pairwise_map→qa,flatMap_cons→qb,drop_length→qj,le_antisymm→qk,map_snd_zip→qm,pairwise_singleton→qo,any_eq_true→qq,foldl→qy,drop_eq_nil_of_le→qB,map_id'→qF,length_replicate→qI,cons_lt_cons_iff→qK,singleton_append→qL,length→qO,drop_zero→qR,map_id→qT,mem_of_mem_drop→qU,mem_of_mem_take→qV,getElem?_range→qZ,filter_eq_self→q8,take_nil→rd,map_take→rf,mem_filterMap→rm,getElem_range→rB,filter_append→rG,any_eq_false→rH,toArray→rN,getElem_inj→rR,nodup_range→rY,not_mem_nil→se,map_reverse→sj,idxOf_cons→sM,filter_nil→sO,drop_nil→tq,le_trans→tu,set_comm→tw,map_drop→tD,lt_asymm→tE,all_map→t8
open PySem.Heap renaming get?_push_of_some→kH,lt_size→k8,get?_push_size→lG,SameBut→oT,get?_update_other→qx,size_push→qN,get?_push_cases→qQ,get?_push_ne→rP,size_update→r9
open Nat renaming le_refl→kP,lt_of_lt_of_le→lH,ne_of_lt→lI,zero_le→me,le_trans→mN,le_of_ble_eq_true→m7,le_succ→nj,min_self→og,lt_irrefl→oh,le_of_lt→oB,lt_succ_of_lt→oN,ne_of_gt→oU,pow_succ→pz,div_lt_iff_lt_mul→pD,lt_succ_self→pF,le_of_not_lt→pG,toDigits_of_lt_base→qi,le_of_eq→qv,toDigits→qz,lt_of_succ_lt_succ→qE,div_add_mod→qH,pow_pos→qS,digitChar→q9,lt_of_le_of_lt→rF,mul_comm→rJ,sub_self→rL,zero_add→rO,lt_trichotomy→rQ,mod_eq_of_lt→rX,le_add_right→si,le_antisymm→sJ,min_eq_left→sL,mod_lt→sV,lt_trans→tP,sub_zero→tQ
open Option renaming bind_eq_some_iff→k9,map_eq_some_iff→lh,isNone_iff_eq_none→nT,isSome_map→pA,isSome_iff_exists→qc,isSome_some→rD,getD_none→rW,none→uy,some→uM,none→uN
open PySem.Obj renaming mapSeq→lO
open Option.some renaming inj→lP
open PySem.W renaming Frag→lR,Frag→mj,nsIn→m8,findIn→nI,keepIn→ox,emptyDict→oz,kia_one→oI,instObj→pE,codeIn→pJ,kla_fn→pY,hasDictIn→p5,plainGet→qt,plainOver→qM,mg_of→rM,makesIn→rS,cellsFrom_some→rT,methodObj→sr,specialIn→sx,tabIn→sQ,kla_fn→sY,takerIn→tG,OpenLaw→tI,callWith_K→tN,isFn→tO,lookIn→uw,kitOne→ux
open False renaming elim→lU
open Int renaming emod_lt_of_pos→l6,emod_nonneg→mn,eq_ofNat_of_zero_le→mO,toNat_natCast→p7
open Array renaming getElem?_toList→mx,length_toList→my,getD_eq_getD_getElem?→mW,getElem?_eq_some_iff→nM,getElem?_eq_none_iff→oQ,toList→pU,perm_iff_toList_perm→pW,getD→rE
open PySem.Value renaming ref→mE,none→mY,bool→oA,type→oO,str→pq,int→qf,float→so,isStrOf→tj,isInt→uu,bytes→uv
open True renaming intro→mP
open Nat.succ renaming inj→mR
open PyProof.Rows renaming callWith_type1→mV,slot_tuple_getitem→ot,callWith_builtin1→rV,lt_int→uD
open PySem.Builtin.Str renaming strSliceIndices→mX,occurrences→nq,tooLong→pS,padded→rA,glued→uJ
open PySem.Str renaming length→ng,ofString→nG,empty→tH
open List.Nodup renaming idxOf_getElem→ni
open PySem.Builtin.Slice renaming slicePlaces→nS,sliceAdjust→oW,sliceApplied→pV,slicePartIndex→sD,sliceFields→sZ
open PySem.Builtin.Tuple renaming tupleExact→om,tupleItemsOf→sU
open PySem.Builtin.List renaming listTooLong→oq,listExtendWith→sS
open PySem.SeqAt renaming RcAt→oF,RcNeAt→oV,ne_of_list_tuple→qA,EqAt→rp
open PySem.Builtin.Int renaming intBits→o7
open PySem.Heap.SameBut renaming update→o8
open Ne renaming symm→pb
open PySem.Env renaming kindOf→pI
open PySem.F renaming slot_list_lt→pM,slot_dict_setdefault→pQ,args_tuple_add_2→qd,entry_tuple_add→qh,plain_list_iadd→ql,slot_list_index→qp,slot_tuple_add→qw,args_list_lt_2→qC,entry_list_lt→qJ,slot_int_rmul→sG
open PySem.Builtin renaming divisionGoesByPylong→pP
open PySem.StrLaws renaming subAt_one→p6
open List.cons renaming inj→qe
open PySem.Builtin.Range renaming rangeSize→qg
open PySem.SeqAt.EqAt renaming same→qG,int_str→rg,str_int→rj,int_int→rq
open Sum renaming inl→qW,inr→qX
open PySem.SeqAt.RcNeAt renaming lists_lengths→sW,tuple_none→tJ,tuple_bool→tK,none_tuple→tL,bool_tuple→tM,none_none→tR,none_bool→tS,bool_none→tT,bool_bool→tU,list_none→tV,list_bool→tW,none_list→tX,bool_list→tY,tuple_int→tZ,tuple_str→t5,int_tuple→t6,str_tuple→t7,none_int→t9,none_str→ue,bool_int→uf,bool_str→ug,int_none→uh,int_bool→ui,str_none→uj,str_bool→uk,list_int→um,list_str→uo,int_list→uq,str_list→ur,int_int→uz,int_str→uA,str_int→uB,str_str→uC,tuples→uE,lists→uG
open PySem.Heap.IsSliceOf renaming new→uF
open PySem.Within renaming cons→uI
open List.Pairwise renaming nil→uK
open PySem.Heap.DictOf renaming new→uL
namespace L2
open PySem PySem.Spec PyProof.Rows
theorem sN.{u}{α:Type u}(a:α):uM a≠uN:=Option.some_ne_none a
noncomputable abbrev Fgg:=lR
noncomputable abbrev Pnn:=List (kR×tF)
noncomputable abbrev Key:=Sum Int Str
def keyIs:Key->aU->Bool
 |.inl k,v=>uu k v
 |.inr x,v=>tj x v
def keyH (w:l7):Key->Int
 |.inl k=>hashInt k
 |.inr x=>hashStr w x
theorem zp_:∀{k:Key}{v:aU},keyIs k v=uO->(∃i t,k=qW i/\v=qf i t)\/(∃x t,k=qX x/\v=pq x t)
 |.inl i,v,h=>by
  obtain⟨t,e⟩:=Value.isInt_shape (k:=i) (v:=v) h;exact .inl ⟨i,t,rfl,e⟩
 |.inr x,v,h=>by
  obtain⟨t,e⟩:=Value.isStrOf_shape (x:=x) (v:=v) h;exact .inr ⟨x,t,rfl,e⟩
theorem zh9_ (i:Int)(t:Tok):keyIs (.inl i) (.int i t)=uO:=by simp[keyIs,uu]
theorem zir_ (x:Str)(t:Tok):keyIs (.inr x) (.str x t)=uO:=by simp[keyIs,tj]
theorem zoy_ (a b:Int):decide ((qW a:Key)=qW b)=(a == b):=by
 by_cases e:a=b
 ·subst e;simp
 ·have h:¬(qW a:Key)=qW b:=λq=>e (Sum.inl.inj q)
  rw[decide_eq_false h];exact(beq_eq_false_iff_ne.mpr e).symm
theorem zoN_ (a b:Str):decide ((qX a:Key)=qX b)=decide (a=b):=by
 by_cases e:a=b
 ·subst e;simp
 ·have h:¬(qX a:Key)=qX b:=λq=>e (Sum.inr.inj q)
  rw[decide_eq_false h,decide_eq_false e]
theorem zoV_ (a:Int)(b:Str):decide ((qW a:Key)=qX b)=uP:=decide_eq_false (λq=>nomatch q)
theorem zqm_ (a:Str)(b:Int):decide ((qX a:Key)=qW b)=uP:=decide_eq_false (λq=>nomatch q)
def mixKind (prog:lN)(w:l7):PySem.KeyKind prog w Key where
 is:=keyIs
 hash:=keyH w
 inj:=λv a b ha hb=>by
  rcases zp_ ha with⟨i,t,rfl,rfl⟩|⟨x,t,rfl,rfl⟩
  ·rcases zp_ hb with⟨j,u,rfl,e⟩|⟨y,u,rfl,e⟩
   ·injection e with e1 _;rw[e1]
   ·exact nomatch e
  ·rcases zp_ hb with⟨j,u,rfl,e⟩|⟨y,u,rfl,e⟩
   ·exact nomatch e
   ·injection e with e1 _;rw[e1]
 byValue:=λk v h=>by
  rcases zp_ h with⟨i,t,rfl,rfl⟩|⟨x,t,rfl,rfl⟩<;>rfl
 pyHash:=λhv h=>by
  rcases zp_ hv with⟨i,t,rfl,rfl⟩|⟨x,t,rfl,rfl⟩
  ·exact wpAny_pyHash_int h
  ·exact wpAny_pyHash_str h
 eqBool:=λhu hv h=>by
  rcases zp_ hu with⟨i,t,rfl,rfl⟩|⟨x,t,rfl,rfl⟩
  ·rcases zp_ hv with⟨j,u,rfl,rfl⟩|⟨y,u,rfl,rfl⟩
   ·rw[zoy_]at h;exact wpAny_eqBool_int h
   ·rw[zoV_]at h;exact rg i t y u _ _ _ _ h
  ·rcases zp_ hv with⟨j,u,rfl,rfl⟩|⟨y,u,rfl,rfl⟩
   ·rw[zqm_]at h;exact rj x t j u _ _ _ _ h
   ·rw[zoN_]at h;exact wpAny_eqBool_str h
 «strs»:=λk x t v h=>by
  rcases zp_ h with⟨i,u,rfl,e⟩|⟨y,u,rfl,e⟩
  ·exact nomatch e
  ·injection e with e1 _
   subst e1;cases v<;>rfl
theorem zgt_ (prog:lN)(w:l7)(k:Key)(v:aU):(mixKind prog w).is k v=keyIs k v:=rfl
theorem zfh_ (prog:lN)(w:l7)(i:Int)(t:Tok):(mixKind prog w).is (.inl i) (.int i t)=uO:=zh9_ i t
theorem ze7_ (prog:lN)(w:l7)(x:Str)(t:Tok):(mixKind prog w).is (.inr x) (.str x t)=uO:=zir_ x t
inductive V where
 |non |bl (b:Bool)|int (i:Int)|str (x:Str)|byt (b:Array UInt8)|flt (b:UInt64)|ref (a:kR)|ty (n:String)
 deriving DecidableEq
noncomputable def RelV:V->aU->Prop
 |.non,u=>u=mY
 |.bl b,u=>u=oA b
 |.int i,u=>∃t,u=qf i t
 |.str x,u=>∃t,u=pq x t
 |.byt b,u=>∃t,u=uv b t
 |.flt b,u=>∃t,u=so b t
 |.ref a,u=>u=mE a
 |.ty n,u=>u=oO n
abbrev Vals:List V->List aU->Prop:=Paired RelV
theorem Vals.length {xs:List V}{us:List aU}(r:Vals xs us):xs.length=us.length:=Paired.length r
theorem Vals.get:∀{xs:List V}{us:List aU}{i:Nat}{x:V},Vals xs us->xs[i]?=uM x->∃u,us[i]?=uM u/\RelV x u
 |_,_,_,_,.nil,e=>by simp at e
 |_,_,0,_,.cons r _,e=>by simp at e;subst e;exact⟨_,rfl,r⟩
 |_,_,i+1,x,.cons _ t,e=>by
  obtain⟨u,h1,h2⟩:=Vals.get (i:=i) (x:=x) t (by simpa using e)
  exact⟨u,by simpa using h1,h2⟩
theorem Vals.set {x:V}{u:aU}(r:RelV x u):∀{xs:List V}{us:List aU}(i:Nat),Vals xs us->Vals (xs.set i x) (us.set i u)
 |_,_,_,.nil=>.nil
 |_,_,0,.cons _ t=>.cons r t
 |_,_,i+1,.cons q t=>.cons q (Vals.set r i t)
theorem Vals.append:∀{xs ys:List V}{us ws:List aU},Vals xs us->Vals ys ws->Vals (xs++ys) (us++ws)
 |_,_,_,_,.nil,s=>s
 |_,_,_,_,.cons r t,s=>.cons r (Vals.append t s)
theorem Vals.take:∀{xs:List V}{us:List aU}(n:Nat),Vals xs us->Vals (xs.take n) (us.take n)
 |_,_,0,_=>.nil
 |_,_,_+1,.nil=>.nil
 |_,_,n+1,.cons r t=>.cons r (Vals.take n t)
theorem Vals.drop:∀{xs:List V}{us:List aU}(n:Nat),Vals xs us->Vals (xs.drop n) (us.drop n)
 |_,_,0,r=>r
 |_,_,_+1,.nil=>.nil
 |_,_,n+1,.cons _ t=>Vals.drop n t
def RelO:Option V->Option aU->Prop
 |some v,uM u=>RelV v u
 |none,uN=>True
 |_,_=>False
def KV {κ:Type}:List (κ×V)->List (κ×aU)->Prop:=Paired λ(p:κ×V) (q:κ×aU)=>p.1=q.1/\RelV p.2 q.2
def kV:Key->V
 |.inl i=>.int i
 |.inr x=>.str x
inductive HO where
 |lst (xs:List V)
 |tup (xs:List V)
 |dK (kvs:List (Key×V))|dT (kvs:List (List Key×V))
 |set (S:Int->Bool) (n:Nat)
 |ins (C dx:kR) (fs:List (Str×V))
 |own (x:kR)
 |xd (fs:List (Str×V))
 |met (f x:kR)
 |rng (lo hi:Int)
 |frz (o:tF) (u:HO)
 |tbl (pos:Pos) (qual:Str)
 |ext (φ:Heap->Prop)
noncomputable abbrev Hp:=kR->Option HO
def upd (H:Hp)(a:kR)(o:HO):Hp:=λb=>if b=a then uM o else H b
theorem ze_ {H:Hp}{a:kR}{o:HO}:upd H a o a=uM o:=by unfold upd;rw[if_pos rfl]
theorem zc_ {H:Hp}{a b:kR}{o:HO}(h:b≠a):upd H a o b=H b:=by unfold upd;rw[if_neg h]
theorem ne_of {H:Hp}{a b:kR}{o u:HO}(h:H a=uM o)(h':H b=uM u)(d:o≠u):a≠b:=by
 intro e;subst e;rw[h]at h';exact d (lP h')
theorem zd_ {H:Hp}{a b:kR}{o:HO}(h:H a=uM o)(h':H b=uN):a≠b:=by
 intro e;subst e;rw[h]at h';cases h'
section
variable (P:lN)(w:l7)
def ObjOk (H:Hp)(h:Heap)(a:kR):HO->Prop
 |.lst xs=>xs.length<=lg/\∃(aa:List aU) (n:Nat),Vals xs aa/\h.get? a=uM {cls:=.type "list",data:=.seq aa.toArray n}
 |.tup xs=>xs.length<=lg/\∃aa:List aU,Vals xs aa/\IsTup h a aa.toArray
 |.dK kvs=>kvs.length<=lg/\(a == sysModules)=uP/\∃vs,KV kvs vs/\h.DictOf (mixKind P w) a vs
 | .dT kvs=>kvs.length<=lg/\(a == sysModules)=uP/\∃xs:List (List Key×kR×aU),
   Paired (λ(p:List Key×V) (q:List Key×kR×aU)=>p.1=q.1/\H q.2.1=uM (.tup (p.1.map kV))/\RelV p.2 q.2.2) kvs xs /\
   ∃o es ep,h.get? a=uM o/\o.ExactDict/\o.data=.dict es ep/\es.toList=xs.map (entryOfKey (tupleKind (mixKind P w)))/\(xs.map (·.1)).Nodup
 |.set S n=>h.SetOf (intKind P w) a S n
 | .ins C dx fs=>H dx=uM (.own a)/\fs.length<=1000/\dx≠a/\h.get? a=uM (pE C dx) /\
   ∃mA,h.Ns1 dx mA/\(∀f,RelO (fs.lookup f) (mA f))/\qr mA (fs.map (·.1))
 |.own _=>∃o,h.get? a=uM o
 |.xd fs=>∃mA,h.Ns1 a mA/\∀f,RelO (fs.lookup f) (mA f)
 |.rng lo hi=>∃t u v,h.get? a=uM {cls:=.type "range",data:=.fields #[.int lo t,.int hi u,.int 1 v]}
 |.frz o u=>h.get? a=uM o/\ObjOk H h a u
 |.tbl pos qual=>∃ps:Array aU,h.get? a=uM {cls:=.none,data:=.fields ps}/\TriplesOk ps.toList/\∀cv,codeAmong pos ps.toList=uM cv->∃c o vs t,cv=.ref c/\H c=uM (.frz o (.own a))/\o.data=.fields vs/\vs[1]?=uM (.str qual t)
 |.met f x=>h.get? a=uM (sr (.ref f) (.ref x))
 |.ext φ=>φ h/\(∃o,h.get? a=uM o)/\∀h1 h2:Heap,φ h1->(∀o,h1.get? a=uM o->h2.get? a=uM o)->φ h2
def HOk (H:Hp)(h:Heap):Prop:=∀a o,H a=uM o->ObjOk P w H h a o
end
section
variable {P:lN}{w:l7}{H H':Hp}{h h':Heap}{a:kR}{o:HO}
theorem ObjOk.lt (x:ObjOk P w H h a o):a<h.objs.size:=by
 cases o with
 |lst xs=>obtain⟨_,_,_,_,e⟩:=x;exact k8 e
 |tup xs=>obtain⟨_,_,_,p⟩:=x;exact p.lt
 |dK kvs=>obtain⟨_,_,_,_,o,_,_,e,_⟩:=x;exact k8 e
 |dT kvs=>obtain⟨_,_,_,_,o,_,_,e,_⟩:=x;exact k8 e
 |set S n=>obtain⟨o,_,_,_,e,_⟩:=x;exact k8 e
 |ins C dx fs=>obtain⟨_,_,_,e,_⟩:=x;exact k8 e
 |own y=>obtain⟨_,e⟩:=x;exact k8 e
 |xd fs=>obtain⟨_,⟨_,_,_,e,_⟩,_⟩:=x;exact k8 e
 |rng lo hi=>obtain⟨_,_,_,e⟩:=x;exact k8 e
 |frz ob u=>obtain⟨e,_⟩:=x;exact k8 e
 |tbl pos qual=>obtain⟨_,e,_⟩:=x;exact k8 e
 |met f y=>exact k8 (show h.get? a=uM _ from x)
 |ext φ=>obtain⟨_,⟨_,e⟩,_⟩:=x;exact k8 e
theorem Paired.mapP {α β:Type}{F G:α->β->Prop}:∀{dW:List α}{dU:List β},Paired F dW dU->(∀a b,F a b->G a b)->Paired G dW dU
 |_,_,.nil,_=>.nil
 |_,_,.cons r t,f=>.cons (f _ _ r) (Paired.mapP t f)
theorem ObjOk.stay (x:ObjOk P w H h a o)(k:∀b u,(b=a\/H b=uM (.own a))->h.get? b=uM u->h'.get? b=uM u)
  (ho:∀b,H b=uM (.own a)->H' b=uM (.own a)) (ht:∀b xs,H b=uM (.tup xs)->H' b=uM (.tup xs)) (hf:∀b ob,H b=uM (.frz ob (.own a))->H' b=uM (.frz ob (.own a)):=by exact λ_ _ q=>q):ObjOk P w H' h' a o:=by
 induction o with
 |lst xs=>obtain⟨z,aa,n,r,e⟩:=x;exact⟨z,aa,n,r,k _ _ (.inl rfl) e⟩
 |tup xs=>obtain⟨z,aa,r,ob,e,c⟩:=x;exact⟨z,aa,r,ob,k _ _ (.inl rfl) e,c⟩
 |dK kvs=>obtain⟨z,y,vs,r,ob,es,ep,e,c⟩:=x;exact⟨z,y,vs,r,ob,es,ep,k _ _ (.inl rfl) e,c⟩
 |dT kvs=>
  obtain⟨z,y,xs,r,ob,es,ep,e,c⟩:=x;exact⟨z,y,xs,Paired.mapP r λp q z=>⟨z.1,ht _ _ z.2.1,z.2.2⟩,ob,es,ep,k _ _ (.inl rfl) e,c⟩
 |set S n=>obtain⟨ob,es,ep,t,e,c⟩:=x;exact⟨ob,es,ep,t,k _ _ (.inl rfl) e,c⟩
 |ins C dx fs=>
  obtain⟨d,z,ne,e,mA,⟨od,es,ep,e2,c⟩,r⟩:=x;exact⟨ho _ d,z,ne,k _ _ (.inl rfl) e,mA,⟨od,es,ep,k _ _ (.inr d) e2,c⟩,r⟩
 |own y=>obtain⟨ob,e⟩:=x;exact⟨ob,k _ _ (.inl rfl) e⟩
 |xd fs=>obtain⟨mA,⟨od,es,ep,e,c⟩,r⟩:=x;exact⟨mA,⟨od,es,ep,k _ _ (.inl rfl) e,c⟩,r⟩
 |rng lo hi=>obtain⟨t,u,v,e⟩:=x;exact⟨t,u,v,k _ _ (.inl rfl) e⟩
 |frz ob u ih=>obtain⟨e,q⟩:=x;exact⟨k _ _ (.inl rfl) e,ih q⟩
 |tbl pos qual=>
  obtain⟨ps,e,t,f⟩:=x;exact⟨ps,k a _ (.inl rfl) e,t,λcv q=>let⟨c,ob,vs,t,q1,q2,q3⟩:=f cv q;⟨c,ob,vs,t,q1,hf _ _ q2,q3⟩⟩
 |met f y=>
  have e:h.get? a=uM (sr (.ref f) (.ref y)):=x;show h'.get? a=uM (sr (.ref f) (.ref y))
  exact k a _ (.inl rfl) e
 |ext φ=>obtain⟨p,⟨o,e⟩,st⟩:=x;exact⟨st _ _ p λo q=>k _ _ (.inl rfl) q,⟨o,k _ _ (.inl rfl) e⟩,st⟩
theorem HOk.lt (x:HOk P w H h)(e:H a=uM o):a<h.objs.size:=(x a o e).lt
theorem HOk.fresh (x:HOk P w H h)(e:h.objs.size<=a):H a=uN:=by
 cases q:H a with
 |none=>rfl
 |some u=>exact absurd (lH (x.lt q) e) (oh _)
theorem HOk.kept (x:HOk P w H h)(k:∀b u,h.get? b=uM u->h'.get? b=uM u):HOk P w H h':=λa o e=>
 (x a o e).stay (λb u _ q=>k b u q) (λ_ q=>q) λ_ _ q=>q
theorem HOk.laid (x:HOk P w H h)(k:∀b u,h.get? b=uM u->h'.get? b=uM u)(hp:h.objs.size<=a)(new:ObjOk P w (upd H a o) h' a o):HOk P w (upd H a o) h':=λb u e=>by
 have hn:=x.fresh hp;by_cases hb:b=a
 ·subst hb;rw[ze_]at e;cases e;exact new
 ·rw[zc_ hb]at e
  exact(x b u e).stay (λc v _ q=>k c v q) (λc q=>by rw[zc_ (zd_ q hn)];exact q) (λc xs q=>by rw[zc_ (zd_ q hn)];exact q) λc ob q=>by rw[zc_ (zd_ q hn)];exact q
end
def Rd (H:Hp)(a:kR)(u:HO):Prop:=H a=uM u\/∃o,H a=uM (.frz o u)
theorem Rd.ok {P:lN}{w:l7}{H:Hp}{h:Heap}{a:kR}{u:HO}(r:Rd H a u)(x:HOk P w H h):ObjOk P w H h a u:=by
 rcases r with r |⟨o,r⟩
 ·exact x a u r
 ·obtain⟨_,q⟩:=x a _ r
  exact q
noncomputable def Mut:Option HO->Prop
 |some (.lst _)=>True
 |some (.dK _)=>True
 |some (.dT _)=>True
 |some (.set _ _)=>True
 |some (.ins _ _ _)=>True
 |some (.ext _)=>True
 |_=>False
section
variable {P:lN}{w:l7}{H:Hp}{h h':Heap}{x e:kR}{o':HO}
theorem HOk.write (ok:HOk P w H h)(mu:Mut (H x))(he:e=x\/H e=uM (.own x))(k:∀b u,b≠e->h.get? b=uM u->h'.get? b=uM u)(bG:∃u,h'.get? e=uM u)
  (new:ObjOk P w (upd H x o') h' x o'):HOk P w (upd H x o') h':=λb u q=>by
 have dQ:∀c y,H c=uM (.own y)->c≠x:=λc y r z=>by subst z;rw[r]at mu;exact mu
 have fX:∀c xs,H c=uM (.tup xs)->c≠x:=λc xs r z=>by subst z;rw[r]at mu;exact mu
 by_cases hb:b=x
 ·subst hb;rw[ze_]at q;cases q;exact new
 ·rw[zc_ hb]at q
  by_cases hbe:b=e
  ·have q':H b=uM (.own x):=by
    rcases he with z |z
    ·exact absurd (hbe.trans z) hb
    ·rw[hbe];exact z
   rw[q]at q';cases q';obtain⟨v,hv⟩:=bG;exact⟨v,by rw[hbe];exact hv⟩
  ·refine(ok b u q).stay (λc v hc r=>k c v ?_ r) (λc r=>by rw[zc_ (dQ c b r)];exact r) (λc xs r=>by rw[zc_ (fX c xs r)];exact r) λc ob r=>by rw[zc_ (λz=>by subst z;rw[r]at mu;exact mu)];exact r
   rcases hc with rfl |hc
   ·exact hbe
   ·rintro rfl
    rcases he with z |z
    ·exact dQ c b hc z
    ·rw[hc]at z;cases z;exact hb rfl
end
structure Un (fs ex:List kR)(H H':Hp)(h h':Heap):Prop where
 keep:∀b o,h.get? b=uM o->H b=uN->b∉fs->b∉ex->h'.get? b=uM o
 slot:∀b o,h.get? b=uM o->H b=uN->b∈fs->b∉ex->∃sl,h'.get? b=uM {o with slots:=sl}
 free:∀b o,h.get? b=uM o->H b=uN->b∉ex->H' b=uN
 there:∀b o,h.get? b=uM o->b∉ex->∃o',h'.get? b=uM o'
 tups:∀b xs,H b=uM (.tup xs)->H' b=uM (.tup xs)
 frzs:∀b o u,H b=uM (.frz o u)->H' b=uM (.frz o u)
 tbls:∀b p q,H b=uM (.tbl p q)->H' b=uM (.tbl p q)
section
variable {fs ex:List kR}{H H1 H2:Hp}{h h1 h2 h':Heap}{a x e:kR}{o:HO}
theorem Un.any (u:Un fs ex H H1 h h1){b:kR}{ob:tF}(q:h.get? b=uM ob)(n:H b=uN)(hx:b∉ex):∃sl,h1.get? b=uM {ob with slots:=sl}:=by
 by_cases hb:b∈fs
 ·exact u.slot b ob q n hb hx
 ·exact⟨ob.slots,u.keep b ob q n hb hx⟩
theorem Un.trans (a:Un fs ex H H1 h h1)(b:Un fs ex H1 H2 h1 h2):Un fs ex H H2 h h2 where
 keep:=λc ob q n hc hx=>b.keep c ob (a.keep c ob q n hc hx) (a.free c ob q n hx) hc hx
 slot:=λc ob q n hc hx=>by
  obtain⟨sl,e1⟩:=a.slot c ob q n hc hx;obtain⟨fT,e2⟩:=b.slot c _ e1 (a.free c ob q n hx) hc hx;exact⟨fT,e2⟩
 free:=λc ob q n hx=>by
  obtain⟨o',e1⟩:=a.there c ob q hx;exact b.free c o' e1 (a.free c ob q n hx) hx
 there:=λc ob q hx=>by
  obtain⟨o',e1⟩:=a.there c ob q hx;exact b.there c o' e1 hx
 tups:=λc xs q=>b.tups c xs (a.tups c xs q)
 frzs:=λc ob xs q=>b.frzs c ob xs (a.frzs c ob xs q)
 tbls:=λc p' q' q=>b.tbls c p' q' (a.tbls c p' q' q)
theorem Un.kept (k:∀b u,h.get? b=uM u->h'.get? b=uM u):Un fs ex H H h h':=
 ⟨λb ob q _ _ _=>k b ob q,λb ob q _ _ _=>⟨ob.slots,k b ob q⟩,λ_ _ _ n _=>n,λb ob q _=>⟨ob,k b ob q⟩,λ_ _ q=>q,λ_ _ _ q=>q,λ_ _ _ q=>q⟩
theorem Un.refl:Un fs ex H H h h:=Un.kept λ_ _ q=>q
theorem Un.laid (k:∀b u,h.get? b=uM u->h'.get? b=uM u)(hp:h.objs.size<=a)(hn:H a=uN):Un fs ex H (upd H a o) h h' where
 keep:=λb u q _ _ _=>k b u q
 slot:=λb u q _ _ _=>⟨u.slots,k b u q⟩
 free:=λb u q n _=>by rw[zc_ (lI (lH (k8 q) hp))];exact n
 there:=λb u q _=>⟨u,k b u q⟩
 tups:=λb xs q=>by rw[zc_ (zd_ q hn)];exact q
 frzs:=λb u xs q=>by rw[zc_ (zd_ q hn)];exact q
 tbls:=λb p' q' q=>by rw[zc_ (zd_ q hn)];exact q
theorem Un.write (mu:Mut (H x))(he:e=x\/H e=uM (.own x))(k:∀b u,b≠e->h.get? b=uM u->h'.get? b=uM u)(bG:∃u,h'.get? e=uM u):Un fs ex H (upd H x o) h h':=by
 have hx:∀b,H b=uN->b≠x:=λb n z=>by subst z;rw[n]at mu;exact mu
 have hb:∀b,H b=uN->b≠e:=λb n z=>by
  subst z;rcases he with r |r
  ·exact hx b n r
  ·rw[n]at r;cases r
 have hm:∀b u,H b=uM u->¬Mut (uM u)->b≠x:=λb u q nm z=>by subst z;rw[q]at mu;exact nm mu
 refine⟨λb u q n _ _=>k b u (hb b n) q,λb u q n _ _=>⟨u.slots,k b u (hb b n) q⟩,λb u q n _=>by rw[zc_ (hx b n)];exact n,λb u q _=>?_,
  λb xs q=>by rw[zc_ (hm b _ q λz=>z)];exact q,λb u xs q=>by rw[zc_ (hm b _ q λz=>z)];exact q,λb p' q' q=>by rw[zc_ (hm b _ q λz=>z)];exact q⟩
 by_cases hbe:b=e
 ·subst hbe;exact bG
 ·exact⟨u,k b u hbe q⟩
end
def trk (h:Heap)(H:Hp):List kR:=(lK h.objs.size).filter λa=>(H a).isSome
def hidT (h:Heap)(H:Hp):Heap:=W.hideAll h (trk h H)
theorem zib_ (h:Heap)(H:Hp):(hidT h H).objs.size=h.objs.size:=W.hideAll_size _ _
theorem zkZ_ {h:Heap}{H:Hp}{b:kR}{o:tF}(e:h.get? b=uM o)(n:H b=uN):(hidT h H).get? b=uM o:=
 W.hideAll_get _ e λhm=>by
  have q:(H b).isSome=uO:=(m5.mp hm).2;rw[n]at q;simp at q
theorem znP_ {h:Heap}{H:Hp}{b:kR}{o:tF}(e:(hidT h H).get? b=uM o):h.get? b=uM o/\H b=uN:=by
 have e':h.get? b=uM o:=W.of_hideAll (trk h H) e;refine⟨e',?_⟩;cases q:H b with
 |none=>rfl
 |some x=>
  have hm:b∈trk h H:=m5.mpr ⟨l4.mpr (k8 e'),by simp[q]⟩
  have z:(hidT h H).get? b=uN:=W.hideAll_none (trk h H) hm;rw[z]at e;cases e
def lamK (K:Fgg):Option (kR×Pos×Str):=match m8 K lD "put_in_order" with
 |some (uM (.ref f))=>(match K.lookup f with
  |some ⟨_,_,.func fd,_⟩=>(match fd.body,sQ K "put_in_order" with
   |.stmts [.Return (uM (.Call _ _ [⟨_,.Lambda _ _ _ pos,_⟩] _)) _],uM (_,P)=>uM (P,pos,fd.qualname ++ ".<locals>." ++ "<lambda>")
   |_,_=>uN)
  |_=>uN)
 |_=>uN
def Tb (K:Fgg)(H:Hp):Prop:=∀P pos q,lamK K=uM (P,pos,q)->H P=uM (.tbl pos q)
structure Mod (K:Fgg)(mg:Str->Option aU)(base:Heap):Prop where
 kin:K.In base
 glob:base.Ns lD mg
 blt:∃mb,base.Ns builtinsNs mb/\∀x:Str,x ≠ "__name__" -> mb x=nE x
 nolimit:base.NoLimit
 bm:∃bm ob,mg "__builtins__"=uM (.ref bm)/\bm≠builtinsNs/\base.get? bm=uM ob/\ob.cls=.type "module" /\ ob.dict=uM builtinsNs/\ob.data=.plain
structure Cx where
 prog:lN
 w:l7
 K:Fgg
 mg:Str->Option aU
 base:Heap
 A:l9
 N:List Str
 s₀:kF
 H₀:Hp
 env:Env
 outer:List Env
 stack:List Env
 ex:List kR
 fn:Str->Bool
 calm:Bool
 pn:Pnn
 xe:aU->kF->Prop
noncomputable def frs (l:List Env):List kR:=l.filterMap (·.frame)
abbrev Cx.fs (X:Cx):List kR:=frs X.outer
def Vis (sc:Scope)(x:Str):Prop:=sc.names.lookup x=uM .local\/sc.names.lookup x=uM .cell\/sc.names.lookup x=uM .free
def Loc (sc:Scope)(x:Str):Prop:=sc.names.lookup x=uM .local\/sc.names.lookup x=uM .cell
def Look (env:Env)(h:Heap)(m:Str->Option aU)(x:Str)(u:aU):Prop:=
 (env.kindOf x=uM .local/\m x=uM u)\/((env.kindOf x=uM .cell\/env.kindOf x=uM .free)/\∃c,env.cells.lookup x=uM c/\h.IsCell c (uM u))
structure Cx.Ok (X:Cx):Prop where
 mod:Mod X.K X.mg X.base
 kind:X.env.scope.kind=.function
 glob:X.env.globals=lD
 blt:X.env.builtins=builtinsNs
 above:X.s₀.heap.objs.size<=X.env.locals
 inj:∀x y c,X.env.cells.lookup x=uM c->X.env.cells.lookup y=uM c->x=y
 has:∀x,(X.env.kindOf x=uM .cell\/X.env.kindOf x=uM .free)->∃c,X.env.cells.lookup x=uM c
 cab:∀x c,X.fn x=uO->X.env.cells.lookup x=uM c->X.s₀.heap.objs.size<=c
 hd:X.calm=uO->X.A.handled=uN
 frames:X.A.frames=uM X.stack
 stk:X.stack=X.outer\/(X.stack=X.env::X.outer/\X.env.frame=uM X.env.locals)
 exf:∀b∈X.ex,b≠X.env.locals/\∀x c,X.env.cells.lookup x=uM c->c≠b
 bs:∀b o,X.base.get? b=uM o->X.s₀.heap.get? b=uM o/\X.H₀ b=uN
 bsz:X.base.objs.size<=X.s₀.heap.objs.size
 noex:∀b o,X.base.get? b=uM o->b∉X.ex
 exfs:∀b∈X.ex,b∉X.fs
 funs:X.s₀.heap.FunFrames X.base X.outer
 frf:∀b∈X.fs,X.H₀ b=uN
 tb:Tb X.K X.H₀
structure Inv (X:Cx)(pins:Pnn)(σ:List (Option V))(H:Hp)(s:kF):Prop where
 ok:X.Ok
 os:s.os=X.s₀.os
 bare:AllBare s.gens
 base:Un X.fs X.ex X.H₀ H X.s₀.heap s.heap
 loc:∃m,s.heap.Ns X.env.locals m/\∀(i:Nat) (x:Str) (v:V),X.N[i]?=uM x->σ[i]?=uM (uM v)->Vis X.env.scope x->∃u,RelV v u/\Look X.env s.heap m x u
 cell:∀x c,X.env.cells.lookup x=uM c->∃v,s.heap.IsCell c v
 free:H X.env.locals=uN
 freeC:∀x c,X.env.cells.lookup x=uM c->H c=uN
 pin:∀p∈X.pn++pins,s.heap.get? p.1=uM p.2/\H p.1=uN/\p.1≠X.env.locals/\p.1∉X.fs/\∀v,p.2.data≠.cell v
 hok:HOk X.prog X.w H s.heap
 len:σ.length=X.N.length
section
variable {X:Cx}{pins:Pnn}{σ:List (Option V)}{H H':Hp}{s:kF}{h':Heap}
theorem Cx.Ok.nofr (ok:X.Ok){b:kR}{o:tF}(e:X.base.get? b=uM o):b∉X.fs:=λhb=>by
 have:=(ok.funs.mem hb).1;rw[e]at this;cases this
theorem Inv.bs (I:Inv X pins σ H s):∀b o,X.base.get? b=uM o->s.heap.get? b=uM o/\H b=uN:=λb o e=>
 ⟨I.base.keep b o (I.ok.bs b o e).1 (I.ok.bs b o e).2 (I.ok.nofr e) (I.ok.noex b o e),I.base.free b o (I.ok.bs b o e).1 (I.ok.bs b o e).2 (I.ok.noex b o e)⟩
theorem Inv.tb (I:Inv X pins σ H s):Tb X.K H:=λP p q e=>I.base.tbls _ _ _ (I.ok.tb P p q e)
theorem Inv.bk (I:Inv X pins σ H s):∀b o,X.base.get? b=uM o->s.heap.get? b=uM o:=λb o e=>(I.bs b o e).1
theorem Inv.mod (I:Inv X pins σ H s):Mod X.K X.mg X.base:=I.ok.mod
theorem Inv.kIn (I:Inv X pins σ H s):X.K.In s.heap:=I.ok.mod.kin.keeps I.bk
theorem Inv.nolimit (I:Inv X pins σ H s):s.heap.NoLimit:=I.ok.mod.nolimit.keeps I.bk
theorem Inv.lt (I:Inv X pins σ H s):X.env.locals<s.heap.objs.size:=let⟨_,hn,_⟩:=I.loc;hn.lt
theorem Inv.sz (I:Inv X pins σ H s):X.s₀.heap.objs.size<=s.heap.objs.size:=mN I.ok.above (oB I.lt)
theorem Inv.nofs (I:Inv X pins σ H s){a:kR}(h:s.heap.objs.size<=a):a∉X.fs:=λhb=>by
 obtain⟨_,o,ho,_⟩:=I.ok.funs.mem hb;exact absurd (lH (k8 ho) (mN I.sz h)) (oh _)
theorem Inv.cne (I:Inv X pins σ H s):∀x c,X.env.cells.lookup x=uM c->c≠X.env.locals:=λx c e z=>by
 obtain⟨v,o,ho,hd⟩:=I.cell x c e;obtain⟨m,⟨o',es,ep,aJ,hd',_⟩,_⟩:=I.loc;rw[z,aJ]at ho;cases ho;rw[hd']at hd;cases hd
theorem Inv.funs (I:Inv X pins σ H s):s.heap.FunFrames X.base X.outer:=by
 have all:∀(l:List Env),(∀b∈frs l,b∈X.fs)->X.s₀.heap.FunFrames X.base l->s.heap.FunFrames X.base l:=by
  intro l;induction l with
  |nil=>intro _ _;trivial
  |cons env r ih=>
   intro hs hl;obtain⟨hk,⟨L,o,hf,hn,ho,hd⟩,hr⟩:=hl;have hL:L∈X.fs:=hs L (by unfold frs;rw[pR,hf];exact lj)
   obtain⟨sl,e⟩:=I.base.slot L o ho (I.ok.frf L hL) hL λz=>I.ok.exfs L z hL
   exact⟨hk,⟨L,_,hf,hn,e,hd⟩,ih (λb hb=>hs b (by unfold frs;rw[pR,hf];exact ll _ hb)) hr⟩
 exact all X.outer (λ_ hb=>hb) I.ok.funs
theorem Inv.stack (I:Inv X pins σ H s):s.heap.FunFrames X.base X.stack:=by
 rcases I.ok.stk with e |⟨e,hf⟩
 ·rw[e];exact I.funs
 ·rw[e]
  obtain⟨m,hn,_⟩:=I.loc;refine .cons (by rw[I.ok.kind];decide) hf hn ?_ I.funs
  exact Heap.get?_none_of_le (mN I.ok.bsz I.ok.above)
theorem Inv.stkSub (I:Inv X pins σ H s):∀b∈frs X.stack,b∈X.env.locals::X.fs:=λb hb=>by
 rcases I.ok.stk with e |⟨e,hf⟩
 ·rw[e]at hb;exact ll _ hb
 ·rw[e]at hb
  unfold frs at hb;rw[pR,hf]at hb;exact hb
theorem Inv.stkFree (I:Inv X pins σ H s):∀b∈frs X.stack,H b=uN:=λb hb=>by
 rcases lA.mp (I.stkSub b hb)with e |hb
 ·rw[e];exact I.free
 ·obtain⟨_,o,ho,_⟩:=I.ok.funs.mem hb
  exact I.base.free b o ho (I.ok.frf b hb) λz=>I.ok.exfs b z hb
theorem Inv.step {g':Array GenState}{t':Nat}{d':Drawn}{ch:List kR}(I:Inv X pins σ H s)
  (b9:∀b∈ch,(b∈X.ex\/X.s₀.heap.objs.size<=b)/\b≠X.env.locals/\(∀x c,X.env.cells.lookup x=uM c->c≠b)/\∀p∈X.pn++pins,p.1≠b)
  (keep:∀b o,b≠X.env.locals->b∉X.fs->b∉ch->s.heap.get? b=uM o->H b=uN->h'.get? b=uM o)
  (slot:∀b o,b≠X.env.locals->b∈X.fs->b∉ch->s.heap.get? b=uM o->H b=uN->∃sl,h'.get? b=uM {o with slots:=sl}) (free:∀b o,b∉ch->s.heap.get? b=uM o->H b=uN->H' b=uN)
  (there:∀b o,b∉ch->s.heap.get? b=uM o->∃o',h'.get? b=uM o')
  (tups:∀b xs,H b=uM (.tup xs)->H' b=uM (.tup xs)) (frzs:∀b o u,H b=uM (.frz o u)->H' b=uM (.frz o u)) (tbls:∀b p q,H b=uM (.tbl p q)->H' b=uM (.tbl p q))
  (ns:∀m,s.heap.Ns X.env.locals m->h'.Ns X.env.locals m) (hok:HOk X.prog X.w H' h') (hg:AllBare g'):
  Inv X pins σ H' {s with heap:=h',gens:=g',drawn:=d',toks:=t'}:=by
 have il:∀b o,X.s₀.heap.get? b=uM o->b≠X.env.locals:=λb o e=>lI (lH (k8 e) I.ok.above)
 have fB:∀b o,X.s₀.heap.get? b=uM o->b∉X.ex->b∉ch:=λb o e hx hb=>by
  rcases(b9 b hb).1 with z |z
  ·exact hx z
  ·exact absurd (lH (k8 e) z) (oh _)
 have cellK:∀x c,X.env.cells.lookup x=uM c->∀v,s.heap.IsCell c v->h'.IsCell c v:=λx c e v ⟨o,ho,hd⟩=>by
  have dS:c∉ch:=λz=>(b9 c z).2.2.1 x c e rfl
  by_cases hc:c∈X.fs
  ·obtain⟨sl,q⟩:=slot c o (I.cne x c e) hc dS ho (I.freeC x c e)
   exact⟨_,q,hd⟩
  ·exact⟨o,keep c o (I.cne x c e) hc dS ho (I.freeC x c e),hd⟩
 refine⟨I.ok,I.os,hg,⟨λb o e n hb hx=>?_,λb o e n hb hx=>?_,λb o e n hx=>?_,λb o e hx=>?_,λb xs e=>tups b xs (I.base.tups b xs e),λb o xs e=>frzs b o xs (I.base.frzs b o xs e),λb p q e=>tbls b p q (I.base.tbls b p q e)⟩,?_,λx c e=>?_,?_,λx c e=>?_,λp hp=>?_,hok,I.len⟩
 ·exact keep b o (il b o e) hb (fB b o e hx) (I.base.keep b o e n hb hx) (I.base.free b o e n hx)
 ·obtain⟨sl,e1⟩:=I.base.slot b o e n hb hx
  obtain⟨fT,e2⟩:=slot b _ (il b o e) hb (fB b o e hx) e1 (I.base.free b o e n hx);exact⟨fT,e2⟩
 ·obtain⟨o',e1⟩:=I.base.there b o e hx
  exact free b o' (fB b o e hx) e1 (I.base.free b o e n hx)
 ·obtain⟨o',e1⟩:=I.base.there b o e hx
  exact there b o' (fB b o e hx) e1
 ·obtain⟨m,hn,hl⟩:=I.loc
  refine⟨m,ns m hn,λi x v e1 e2 e3=>?_⟩
  obtain⟨u,r,l⟩:=hl i x v e1 e2 e3;refine⟨u,r,?_⟩;rcases l with l |⟨k,c,e,z⟩
  ·exact .inl l
  ·exact .inr ⟨k,c,e,cellK x c e _ z⟩
 ·obtain⟨v,z⟩:=I.cell x c e
  exact⟨v,cellK x c e v z⟩
 ·obtain⟨m,⟨o,_,_,ho,_⟩,_⟩:=I.loc
  exact free _ o (λz=>(b9 _ z).2.1 rfl) ho I.free
 ·obtain⟨v,o,ho,hd⟩:=I.cell x c e
  exact free c o (λz=>(b9 c z).2.2.1 x c e rfl) ho (I.freeC x c e)
 ·obtain⟨e,n,ne,nf,d⟩:=I.pin p hp
  have dS:p.1∉ch:=λz=>(b9 p.1 z).2.2.2 p hp rfl
  exact⟨keep p.1 p.2 ne nf dS e n,free p.1 p.2 dS e n,ne,nf,d⟩
theorem Inv.un {t':Nat}(I:Inv X pins σ H s)(u:Un X.fs [] H H' s.heap h')(hok:HOk X.prog X.w H' h'):Inv X pins σ H' {s with heap:=h',toks:=t'}:=by
 obtain⟨m,⟨o,es,ep,ho,r⟩,_⟩:=id I.loc;obtain⟨sl,hL⟩:=u.any ho I.free (by simp)
 exact I.step (g':=s.gens) (d':=s.drawn) (ch:=[]) (λ_ z=>nomatch z) (λb o _ hb _ e n=>u.keep b o e n hb (by simp)) (λb o _ hb _ e n=>u.slot b o e n hb (by simp)) (λb o _ e n=>u.free b o e n (by simp)) (λb o _ e=>u.there b o e (by simp)) u.tups u.frzs u.tbls (λm' hm=>by
  obtain⟨o',es',ep',aJ,r'⟩:=hm;rw[ho]at aJ;cases aJ;exact⟨_,es',ep',hL,r'⟩) hok I.bare
theorem Inv.call {g':Array GenState}{t':Nat}{d':Drawn}{ch:List kR}(I:Inv X pins σ H s)(u:Un (frs X.stack) ch H H' s.heap h')(hok:HOk X.prog X.w H' h')(hg:AllBare g')
  (b9:∀b∈ch,(b∈X.ex\/X.s₀.heap.objs.size<=b)/\b≠X.env.locals/\(∀x c,X.env.cells.lookup x=uM c->c≠b)/\∀p∈X.pn++pins,p.1≠b):
  Inv X pins σ H' {s with heap:=h',gens:=g',drawn:=d',toks:=t'}:=by
 obtain⟨m,⟨o,es,ep,ho,r⟩,_⟩:=id I.loc;obtain⟨sl,hL⟩:=u.any ho I.free λz=>(b9 _ z).2.1 rfl
 exact I.step (ch:=ch) b9 (λb o hL hb hc e n=>u.keep b o e n (λz=>(lA.mp (I.stkSub b z)).elim hL hb) hc) (λb o _ _ hc e n=>u.any e n hc) (λb o hc e n=>u.free b o e n hc) (λb o hc e=>u.there b o e hc) u.tups u.frzs u.tbls (λm' hm=>by
  obtain⟨o',es',ep',aJ,r'⟩:=hm;rw[ho]at aJ;cases aJ;exact⟨_,es',ep',hL,r'⟩) hok hg
theorem Inv.turned {t':Nat}{it:kR}(I:Inv X pins σ H s)(k:∀b o,b≠it->s.heap.get? b=uM o->h'.get? b=uM o)(hn:H it=uN)(hL:it≠X.env.locals)
  (h1:it∈X.ex\/X.s₀.heap.objs.size<=it) (h2:∀x c,X.env.cells.lookup x=uM c->c≠it) (h3:∀p∈X.pn++pins,p.1≠it):Inv X pins σ H {s with heap:=h',toks:=t'}:=by
 have dR:∀b u,H b=uM u->b≠it:=λb u e z=>by rw[z,hn]at e;cases e
 refine I.step (g':=s.gens) (d':=s.drawn) (ch:=[it]) (λb hb=>?_) (λb o _ _ hc e _=>k b o (λz=>hc (by simp[z])) e) (λb o _ _ hc e _=>⟨o.slots,k b o (λz=>hc (by simp[z])) e⟩) (λ_ _ _ _ n=>n)
  (λb o hc e=>⟨o,k b o (λz=>hc (by simp[z])) e⟩) (λ_ _ e=>e) (λ_ _ _ e=>e) (λ_ _ _ e=>e) (λm hm=>?_) (λb u e=>?_) I.bare
 ·have e:b=it:=by simpa using hb
  subst e;exact⟨h1,hL,h2,h3⟩
 ·obtain⟨o,es,ep,ho,r⟩:=hm
  exact⟨o,es,ep,k _ o (pb hL) ho,r⟩
 ·refine(I.hok b u e).stay (λc v hc q=>k c v ?_ q) (λ_ q=>q) λ_ _ q=>q
  rcases hc with z |z
  ·rw[z];exact dR b u e
  ·exact dR c _ z
theorem Inv.tok (I:Inv X pins σ H s)(t:Nat):Inv X pins σ H {s with toks:=t}:=I.un (h':=s.heap) (t':=t) Un.refl I.hok
theorem Inv.kept {t':Nat}(I:Inv X pins σ H s)(k:∀b u,s.heap.get? b=uM u->h'.get? b=uM u):Inv X pins σ H {s with heap:=h',toks:=t'}:=I.un (Un.kept k) (I.hok.kept k)
theorem Inv.laid {a:kR}{o:HO}{t':Nat}(I:Inv X pins σ H s)(k:∀b u,s.heap.get? b=uM u->h'.get? b=uM u)(hp:s.heap.objs.size<=a)(new:ObjOk X.prog X.w (upd H a o) h' a o):
  Inv X pins σ (upd H a o) {s with heap:=h',toks:=t'}:=I.un (Un.laid k hp (I.hok.fresh hp)) (I.hok.laid k hp new)
theorem Inv.write {x e:kR}{o:HO}{t':Nat}(I:Inv X pins σ H s)(mu:Mut (H x))(he:e=x\/H e=uM (.own x))(k:∀b u,b≠e->s.heap.get? b=uM u->h'.get? b=uM u)(bG:∃u,h'.get? e=uM u)
  (new:ObjOk X.prog X.w (upd H x o) h' x o):Inv X pins σ (upd H x o) {s with heap:=h',toks:=t'}:=I.un (Un.write mu he k bG) (I.hok.write mu he k bG new)
theorem Inv.pins_of {cI:Pnn}(I:Inv X pins σ H s)(h:∀p∈cI,s.heap.get? p.1=uM p.2/\H p.1=uN/\p.1≠X.env.locals/\p.1∉X.fs/\∀v,p.2.data≠.cell v):Inv X cI σ H s:=
 ⟨I.ok,I.os,I.bare,I.base,I.loc,I.cell,I.free,I.freeC,λp hp=>(ny.mp hp).elim (λz=>I.pin p (oP _ z)) (h p),I.hok,I.len⟩
theorem zhd_ {N:List Str}(hN:N.Nodup){i j:Nat}{x:Str}(a:N[i]?=uM x)(b:N[j]?=uM x):i=j:=by
 obtain⟨h1,e1⟩:=lB.mp a;obtain⟨h2,e2⟩:=lB.mp b;exact(rR hN).mp (e1.trans e2.symm)
theorem zin_ {M:Model}{A:l9}{E:aU->kF->Prop}{i:Nat}{x:Str}{v:V}{u:aU}{Q:Unit->kF->Prop}(I:Inv X pins σ H s)(hN:X.N.Nodup)(hi:X.N[i]?=uM x)(hx:Loc X.env.scope x)(r:RelV v u)
  (h:∀s',Inv X pins (σ.set i (uM v)) H s'->(∃a,oT a s.heap s'.heap/\(a=X.env.locals\/X.env.cells.lookup x=uM a))->Q () s') (hf:X.fn x=uO\/X.env.scope.names.lookup x=uM .local:=by first |exact .inl rfl |exact .inr rfl |assumption):lJ M A (storeName X.env x u) Q E s:=by
 obtain⟨m,hn,hl⟩:=id I.loc;have gP:(X.env.scope.kind == .class ||(X.env.scope.kind == .module && X.env.locals != X.env.globals))=uP:=by rw[I.ok.kind];rfl
 have eE:i<σ.length:=by rw[I.len];exact(lB.mp hi).1
 have cne:=I.cne;have tracked:∀{a:kR}{h':Heap},(∃o,s.heap.get? a=uM o/\H a=uN)->oT a s.heap h'->HOk X.prog X.w H h':=λ{a h'} ha hs b ob e=>by
  obtain⟨_,_,hfree⟩:=ha;refine(I.hok b ob e).stay (λc w' hc q=>(hs.2 c ?_).trans q) (λ_ q=>q) λ_ _ q=>q
  rintro rfl;rcases hc with rfl |hc
  ·rw[hfree]at e;cases e
  ·rw[hfree]at hc;cases hc
 rcases hx with hk |hk
 ·refine wpAny_storeName_local hk hn (λh' gB hs=>?_) gP
  obtain⟨oL,_,_,cK,_⟩:=id hn;refine h _ ⟨I.ok,I.os,I.bare,⟨λb o e n hb hx=>?_,λb o e n hb hx=>?_,I.base.free,λb o e hx=>?_,I.base.tups,I.base.frzs,I.base.tbls⟩,⟨_,gB,λj y v' e1 e2 e3=>?_⟩,λy c e=>?_,I.free,I.freeC,λp hp=>?_,tracked ⟨oL,cK,I.free⟩ hs,by simpa using I.len⟩ ⟨_,hs,.inl rfl⟩
  ·exact(hs.2 b (lI (lH (k8 e) I.ok.above))).trans (I.base.keep b o e n hb hx)
  ·obtain⟨sl,e1⟩:=I.base.slot b o e n hb hx
   exact⟨sl,(hs.2 b (lI (lH (k8 e) I.ok.above))).trans e1⟩
  ·obtain⟨o',e1⟩:=I.base.there b o e hx
   exact⟨o',(hs.2 b (lI (lH (k8 e) I.ok.above))).trans e1⟩
  ·by_cases hj:j=i
   ·subst hj
    rw[hi]at e1;cases e1;rw[mZ eE]at e2;cases e2;exact⟨u,r,.inl ⟨hk,by simp⟩⟩
   ·rw[lL (pb hj)]at e2
    obtain⟨u',r',q⟩:=hl j y v' e1 e2 e3;refine⟨u',r',?_⟩;rcases q with⟨k,e⟩|⟨k,c,e,z⟩
    ·refine .inl ⟨k,?_⟩
     have:y≠x:=λe=>hj (zhd_ hN e1 (e ▸ hi))
     simp[this,e]
    ·exact .inr ⟨k,c,e,z.sameBut hs (cne y c e)⟩
  ·obtain⟨w',z⟩:=I.cell y c e
   exact⟨w',z.sameBut hs (cne y c e)⟩
  ·obtain⟨e,n,ne,nf,d⟩:=I.pin p hp
   exact⟨(hs.2 p.1 ne).trans e,n,ne,nf,d⟩
 ·have di:X.fn x=uO:=by
   rcases hf with z |z
   ·exact z
   ·rw[z]at hk;cases hk
  obtain⟨c,hc⟩:=I.ok.has x (.inl hk);obtain⟨w',z⟩:=I.cell x c hc;refine wpAny_storeName_cell I.ok.kind hk hc z (λh' aB hs=>?_)
  obtain⟨oc,hoc,hocd⟩:=id z;refine h {s with heap:=h'} ⟨I.ok,I.os,I.bare,⟨λb o e n hb hx=>?_,λb o e n hb hx=>?_,I.base.free,λb o e hx=>?_,I.base.tups,I.base.frzs,I.base.tbls⟩,⟨m,hn.sameBut hs (pb (cne x c hc)),λj y v' e1 e2 e3=>?_⟩,λy c' e=>?_,I.free,I.freeC,λp hp=>?_,tracked ⟨oc,hoc,I.freeC x c hc⟩ hs,by simpa using I.len⟩ ⟨c,hs,.inr hc⟩
  ·exact(hs.2 b (lI (lH (k8 e) (I.ok.cab x c di hc)))).trans (I.base.keep b o e n hb hx)
  ·obtain⟨sl,e1⟩:=I.base.slot b o e n hb hx
   exact⟨sl,(hs.2 b (lI (lH (k8 e) (I.ok.cab x c di hc)))).trans e1⟩
  ·obtain⟨o',e1⟩:=I.base.there b o e hx
   exact⟨o',(hs.2 b (lI (lH (k8 e) (I.ok.cab x c di hc)))).trans e1⟩
  ·by_cases hj:j=i
   ·subst hj
    rw[hi]at e1;cases e1;rw[mZ eE]at e2;cases e2;exact⟨u,r,.inr ⟨.inl hk,c,hc,aB⟩⟩
   ·rw[lL (pb hj)]at e2
    obtain⟨u',r',q⟩:=hl j y v' e1 e2 e3;refine⟨u',r',?_⟩;rcases q with q |⟨k,c',e,z'⟩
    ·exact .inl q
    ·refine .inr ⟨k,c',e,z'.sameBut hs ?_⟩
     rintro rfl;exact hj (zhd_ hN e1 (I.ok.inj _ _ _ e hc ▸ hi))
  ·by_cases hcc:c'=c
   ·subst hcc;exact⟨_,aB⟩
   ·obtain⟨w2,z2⟩:=I.cell y c' e
    exact⟨w2,z2.sameBut hs hcc⟩
  ·obtain⟨e,n,ne,nf,d⟩:=I.pin p hp
   refine⟨(hs.2 p.1 ?_).trans e,n,ne,nf,d⟩;intro q;rw[q,hoc]at e;have q':oc=p.2:=lP e;exact d w' (by rw[<- q'];exact hocd)
theorem zgd_ {M:Model}{A:l9}{E:aU->kF->Prop}{i:Nat}{x:Str}{v:V}{u:aU}{Q:Unit->kF->Prop}(I:Inv X pins σ H s)(hN:X.N.Nodup)(hi:X.N[i]?=uM x)(hx:Loc X.env.scope x)(r:RelV v u)
  (h:∀s',Inv X pins (σ.set i (uM v)) H s'->Q () s') (hf:X.fn x=uO\/X.env.scope.names.lookup x=uM .local:=by first |exact .inl rfl |exact .inr rfl |assumption):lJ M A (storeName X.env x u) Q E s:=
 zin_ I hN hi hx r (λs' I' _=>h s' I') hf
theorem Inv.call' {s':kF}{ch:List kR}(I:Inv X pins σ H s)(ho:s'.os=s.os)(u:Un (frs X.stack) ch H H' s.heap s'.heap)(hok:HOk X.prog X.w H' s'.heap)(hg:AllBare s'.gens)
  (b9:∀b∈ch,(b∈X.ex\/X.s₀.heap.objs.size<=b)/\b≠X.env.locals/\(∀x c,X.env.cells.lookup x=uM c->c≠b)/\∀p∈X.pn++pins,p.1≠b):Inv X pins σ H' s':=by
 obtain⟨h',g',d',t',o'⟩:=s';have e:o'=s.os:=ho;subst e;exact I.call (g':=g') (t':=t') (d':=d') u hok hg b9
end
abbrev XK:=aU->Option kR->Hp->Prop
noncomputable abbrev St:=List (Option V)
abbrev VK:=V->Hp->Prop
abbrev TE:=St->Hp->VK->Prop
abbrev TT:=St->Hp->(Bool->Hp->Prop)->Prop
abbrev TA:=St->Hp->(List V->Hp->Prop)->Prop
structure Ends where
 nx:St->Hp->Prop
 rt:VK
 bk:St->Hp->Prop:=λ_ _=>False
 ct:St->Hp->Prop:=λ_ _=>False
abbrev TS:=Ends->St->Hp->Prop
def EP (X:Cx)(pins:Pnn)(σ:St)(Q:VK)(u:aU)(s':kF):Prop:=∃v H',Inv X pins σ H' s'/\RelV v u/\Q v H'
def TP (X:Cx)(pins:Pnn)(σ:St)(Q:Bool->Hp->Prop)(b:Bool)(s':kF):Prop:=∃H',Inv X pins σ H' s'/\Q b H'
def AP (X:Cx)(pins:Pnn)(σ:St)(Q:List V->Hp->Prop)(us:List aU)(s':kF):Prop:=∃vs H',Inv X pins σ H' s'/\Vals vs us/\Q vs H'
def SP (X:Cx)(pins:Pnn)(D:Ends)(f:Flow)(s':kF):Prop:=
 match f with
 |.next=>∃ai H',Inv X pins ai H' s'/\D.nx ai H'
 |.brk=>∃ai H',Inv X pins ai H' s'/\D.bk ai H'
 |.cont=>∃ai H',Inv X pins ai H' s'/\D.ct ai H'
 |.ret u=>∃v ai H',Inv X pins ai H' s'/\RelV v u/\D.rt v H'
def PE (X:Cx)(e:lq)(t:TE):Prop:=
 ∀(pins:Pnn) (s:kF) (σ:St) (H:Hp) (Q:VK),Inv X pins σ H s->t σ H Q->lJ (model X.prog X.w) X.A (eval e X.env) (EP X pins σ Q) X.xe s
def PT (X:Cx)(e:lq)(t:TT):Prop:=
 ∀(pins:Pnn) (s:kF) (σ:St) (H:Hp) (Q:Bool->Hp->Prop),Inv X pins σ H s->t σ H Q->lJ (model X.prog X.w) X.A (isTrue e X.env (eval e X.env)) (TP X pins σ Q) X.xe s
def PW (X:Cx)(e:lq)(t:TT):Prop:=
 ∀(whole:Sem aU) (pins:Pnn) (s:kF) (σ:St) (H:Hp) (Q:Bool->Hp->Prop),Inv X pins σ H s->t σ H Q->lJ (model X.prog X.w) X.A (isTrue e X.env whole) (TP X pins σ Q) X.xe s
theorem PW.pt {X:Cx}{e:lq}{t:TT}(h:PW X e t):PT X e t:=h _
def PA (X:Cx)(es:List lq)(t:TA):Prop:=
 ∀(pos:Pos) (pins:Pnn) (s:kF) (σ:St) (H:Hp) (Q:List V->Hp->Prop),Inv X pins σ H s->t σ H Q->lJ (model X.prog X.w) X.A (spliced (oj pos (lQ es X.env))) (AP X pins σ Q) X.xe s
def PS (X:Cx)(st:l8)(t:TS):Prop:=
 ∀(pins:Pnn) (s:kF) (σ:St) (H:Hp) (D:Ends),Inv X pins σ H s->t D σ H->lJ (model X.prog X.w) X.A (exec st X.env) (SP X pins D) X.xe s
def PSs (X:Cx)(st:List l8)(t:TS):Prop:=
 ∀(pins:Pnn) (s:kF) (σ:St) (H:Hp) (D:Ends),Inv X pins σ H s->t D σ H->lJ (model X.prog X.w) X.A (execs st X.env) (SP X pins D) X.xe s
theorem thn {α:Type}{t:Sem α}{Q Q':α->kF->Prop}{M:Model}{A:l9}{E:aU->kF->Prop}{s:kF}(h:lJ M A t Q E s)(hQ:∀a s,Q a s->Q' a s):lJ M A t Q' E s:=mM h hQ λ_ _ x=>x
section
variable {X:Cx}
def tVar (i:Nat):TE:=λσ H Q=>∃v,σ[i]?=uM (uM v)/\Q v H
def tC (v:V):TE:=λ_ H Q=>Q v H
theorem zqi_ {i:Nat}{x:Str}{pos:Pos}(hN:X.N[i]?=uM x)(hv:Vis X.env.scope x)(hd:(x==("__debug__":Str))=uP:=by decide)(au:(x==("__classdict__":Str))=uP:=by decide):PE X (.Name x pos) (tVar i):=by
 intro pins s σ H Q I h;obtain⟨v,e,h⟩:=h;obtain⟨m,hn,hl⟩:=I.loc;obtain⟨u,r,l⟩:=hl i x v hN e hv;have fin:EP X pins σ Q u s:=⟨v,H,I,r,h⟩;rcases l with⟨hk,hm⟩|⟨hk,c,hc,bu⟩
 ·exact wpAny_Name (wpAny_loadName_local I.ok.kind hk hn hm fin) hd
 ·rcases hk with hk |hk
  ·exact wpAny_Name (wpAny_loadName_cell I.ok.kind hk hc bu fin) hd
  ·exact wpAny_Name (wpAny_loadName_free I.ok.kind hk hc bu fin au) hd
theorem zre_ {i j pos}:PE X (.Constant (.int i) j pos) (tC (.int i)):=λ_ _ _ H _ I h=>wpAny_Constant_int ⟨.int i,H,I.tok _,⟨_,rfl⟩,h⟩
theorem pe_bl {b j pos}:PE X (.Constant (.bool b) j pos) (tC (.bl b)):=λ_ _ _ H _ I h=>Constant_bool ⟨.bl b,H,I,rfl,h⟩
theorem zqk_ {j pos}:PE X (.Constant .none j pos) (tC .non):=λ_ _ _ H _ I h=>Constant_none ⟨.non,H,I,rfl,h⟩
theorem zpb_ {x j pos}:PE X (.Constant (.str x) j pos) (tC (.str x)):=λ_ _ _ H _ I h=>Calls.Constant_str ⟨.str x,H,I.tok _,⟨_,rfl⟩,h⟩
def Gl (X:Cx)(x:Str):Prop:=X.env.kindOf x=uM .globalImplicit
theorem zex_ {E:aU->kF->Prop}{pins:Pnn}{s:kF}{σ:St}{H:Hp}{x:Str}{u:aU}{pos:Pos}{Q:aU->kF->Prop}(I:Inv X pins σ H s)(hg:Gl X x)(hm:X.mg x=uM u)(h:Q u s)
  (hd:(x==("__debug__":Str))=uP:=by decide):lJ (model X.prog X.w) X.A (eval (.Name x pos) X.env) Q E s:=
 Calls.Name_function_global I.ok.kind hg (Calls.loadGlobal_global (by rw[I.ok.glob];exact I.mod.glob.keeps I.bk) hm h) hd
theorem zdq_ {E:aU->kF->Prop}{pins:Pnn}{s:kF}{σ:St}{H:Hp}{x:Str}{u:aU}{pos:Pos}{Q:aU->kF->Prop}(I:Inv X pins σ H s)(hg:Gl X x)(hm:X.mg x=uN)(hv:nE x=uM u)(h:Q u s)
  (hn:x ≠ "__name__":=by decide) (hd:(x==("__debug__":Str))=uP:=by decide):lJ (model X.prog X.w) X.A (eval (.Name x pos) X.env) Q E s:=by
 obtain⟨mb,h1,h2⟩:=I.mod.blt;exact Calls.Name_function_global I.ok.kind hg (Calls.loadGlobal_builtin (by rw[I.ok.glob];exact I.mod.glob.keeps I.bk) hm (by rw[I.ok.blt];exact h1.keeps I.bk) ((h2 x hn).trans hv) h) hd
theorem zlY_ {x:Str}{v:V}{u:aU}{pos:Pos}(hg:Gl X x)(hm:X.mg x=uM u)(r:RelV v u)(hd:(x==("__debug__":Str))=uP:=by decide):PE X (.Name x pos) (tC v):=
 λ_ _ _ H _ I h=>zex_ I hg hm ⟨v,H,I,r,h⟩ hd
theorem zn1_ {x:Str}{v:V}{u:aU}{pos:Pos}(hg:Gl X x)(hm:X.mg x=uN)(hv:nE x=uM u)(r:RelV v u)(hn:x ≠ "__name__":=by decide)(hd:(x==("__debug__":Str))=uP:=by decide):PE X (.Name x pos) (tC v):=
 λ_ _ _ H _ I h=>zdq_ I hg hm hv ⟨v,H,I,r,h⟩ hn hd
variable {a:lq}{pos:Pos}
variable {tA:TT}
def tNot (t:TT):TT:=λσ H Q=>t σ H λc H1=>Q (!c) H1
theorem zll_ (ha:PT X a tA):PW X (.BoolOp .And [a] pos) tA:=by
 intro wh pins s σ H Q I h;refine isTrue_and (thn (ha pins s σ H Q I h) λc s1 e=>?_)
 cases c with
 |true=>exact isTrue_and_nil e
 |false=>exact e
theorem zrd_ (ha:PT X a tA):PW X (.BoolOp .Or [a] pos) tA:=by
 intro wh pins s σ H Q I h;refine isTrue_or (thn (ha pins s σ H Q I h) λc s1 e=>?_)
 cases c with
 |false=>exact isTrue_or_nil e
 |true=>exact e
theorem zqh_ (ha:PT X a tA):PT X (.UnaryOp .Not a pos) (tNot tA):=by
 intro pins s σ H Q I h;exact isTrue_not (ha pins s σ H (λc H1=>Q (!c) H1) I h)
theorem zlV_ {op}{t:TE}(h:PE X a t):PE X (.BoolOp op [a] pos) t:=λpins s σ H Q I hw=>BoolOp_one (h pins s σ H Q I hw)
end
def SqL (K:Fgg)(H:Hp)(a:kR)(xs:List V):Prop:=
 Rd H a (.lst xs) \/
  ∃(o:tF) (aa:Array aU) (n:Nat),K.lookup a=uM o/\o.cls=.type "list" /\ o.dict=uN/\o.data=.seq aa n/\aa.size<=lg/\Vals xs aa.toList
def SqT (K:Fgg)(H:Hp)(a:kR)(xs:List V):Prop:=
 Rd H a (.tup xs) \/
  ∃(o:tF) (aa:Array aU) (n:Nat),K.lookup a=uM o/\o.cls=.type "tuple" /\ o.data=.seq aa n/\aa.size<=lg/\Vals xs aa.toList
noncomputable def absV:aU->Option V
 |.none=>uM .non
 |.bool b=>uM (.bl b)
 |.int i _=>uM (.int i)
 |.str x _=>uM (.str x)
 |.bytes b _=>uM (.byt b)
 |.float b _=>uM (.flt b)
 |.ref a=>uM (.ref a)
 |.type n=>uM (.ty n)
 |_=>uN
theorem RelV.abs {x:V}{u:aU}(r:RelV x u):absV u=uM x:=by
 cases x with
 |non=>cases r;rfl
 |bl _=>cases r;rfl
 |int _=>obtain⟨t,rfl⟩:=r;rfl
 |str _=>obtain⟨t,rfl⟩:=r;rfl
 |byt _=>obtain⟨t,rfl⟩:=r;rfl
 |flt _=>obtain⟨t,rfl⟩:=r;rfl
 |ref _=>cases r;rfl
 |ty _=>cases r;rfl
theorem RelV.inj {x y:V}{u:aU}(r:RelV x u)(q:RelV y u):x=y:=lP (r.abs.symm.trans q.abs)
theorem Vals.inj:∀{xs ys:List V}{us:List aU},Vals xs us->Vals ys us->xs=ys
 |_,_,_,.nil,.nil=>rfl
 |_,_,_,.cons r t,.cons r' t'=>by rw[r.inj r',Vals.inj t t']
section
variable {X:Cx}{pins:Pnn}{σ:St}{H:Hp}{s:kF}{a:kR}{xs ys:List V}
theorem SqL.of {K:Fgg}(h:H a=uM (.lst xs)):SqL K H a xs:=.inl (.inl h)
theorem SqT.of {K:Fgg}(h:H a=uM (.tup xs)):SqT K H a xs:=.inl (.inl h)
theorem Inv.list (I:Inv X pins σ H s)(h:SqL X.K H a xs):∃aa:List aU,Vals xs aa/\PlainL s.heap a aa.toArray/\xs.length<=lg:=by
 rcases h with h |⟨o,aa,n,hk,hc,hd,hs,hz,r⟩
 ·obtain⟨z,aa,n,r,e⟩:=h.ok I.hok
  exact⟨aa,r,⟨_,n,e,rfl,rfl,rfl⟩,z⟩
 ·refine⟨aa.toList,r,⟨o,n,I.kIn a o hk,hc,hd,by simpa using hs⟩,?_⟩
  have e:=r.length;simp only[my]at e;lia
theorem Inv.tuple (I:Inv X pins σ H s)(h:SqT X.K H a xs):∃aa:List aU,Vals xs aa/\IsTup s.heap a aa.toArray/\xs.length<=lg:=by
 rcases h with h |⟨o,aa,n,hk,hc,hs,hz,r⟩
 ·obtain⟨z,aa,r,p⟩:=h.ok I.hok
  exact⟨aa,r,p,z⟩
 ·refine⟨aa.toList,r,⟨o,I.kIn a o hk,hc,n,by simpa using hs⟩,?_⟩
  have e:=r.length;simp only[my]at e;lia
theorem Inv.list_inj (I:Inv X pins σ H s)(h:SqL X.K H a xs)(h':SqL X.K H a ys):xs=ys:=by
 obtain⟨aa,r,⟨o,n,e,_,_,d⟩,_⟩:=I.list h;obtain⟨its',r',⟨o',n',e',_,_,d'⟩,_⟩:=I.list h';rw[e]at e';cases e';rw[d]at d';injection d' with d1 _;have:aa=its':=by simpa using congrArg pU d1
 subst this;exact r.inj r'
theorem Inv.tuple_inj (I:Inv X pins σ H s)(h:SqT X.K H a xs)(h':SqT X.K H a ys):xs=ys:=by
 obtain⟨aa,r,⟨o,e,_,n,d⟩,_⟩:=I.tuple h;obtain⟨its',r',⟨o',e',_,n',d'⟩,_⟩:=I.tuple h';rw[e]at e';cases e';rw[d]at d';injection d' with d1 _;have:aa=its':=by simpa using congrArg pU d1
 subst this;exact r.inj r'
end
noncomputable abbrev Cx.wish (X:Cx)(E:aU->kF->Prop):Cx:={X with xe:=E}
abbrev Cx.nox (X:Cx):Cx:=X.wish λ_ _=>False
theorem Cx.Ok.wish {X:Cx}(ok:X.Ok)(E:aU->kF->Prop):(X.wish E).Ok:=
 ⟨ok.mod,ok.kind,ok.glob,ok.blt,ok.above,ok.inj,ok.has,ok.cab,ok.hd,ok.frames,ok.stk,ok.exf,ok.bs,ok.bsz,ok.noex,ok.exfs,ok.funs,ok.frf,ok.tb⟩
theorem Cx.Ok.unwish {X:Cx}{E:aU->kF->Prop}(ok:(X.wish E).Ok):X.Ok:=
 ⟨ok.mod,ok.kind,ok.glob,ok.blt,ok.above,ok.inj,ok.has,ok.cab,ok.hd,ok.frames,ok.stk,ok.exf,ok.bs,ok.bsz,ok.noex,ok.exfs,ok.funs,ok.frf,ok.tb⟩
section
variable {X:Cx}{pins:Pnn}{σ:St}{H:Hp}{s:kF}{E:aU->kF->Prop}
theorem Inv.wish (I:Inv X pins σ H s)(E:aU->kF->Prop):Inv (X.wish E) pins σ H s:=⟨I.ok.wish E,I.os,I.bare,I.base,I.loc,I.cell,I.free,I.freeC,I.pin,I.hok,I.len⟩
theorem Inv.unwish (I:Inv (X.wish E) pins σ H s):Inv X pins σ H s:=⟨I.ok.unwish,I.os,I.bare,I.base,I.loc,I.cell,I.free,I.freeC,I.pin,I.hok,I.len⟩
theorem SP.unwish {D:Ends}{f:Flow}{s':kF}(h:SP (X.wish E) pins D f s'):SP X pins D f s':=by
 cases f with
 |next=>obtain⟨ai,H',I,q⟩:=h;exact⟨ai,H',I.unwish,q⟩
 |brk=>obtain⟨ai,H',I,q⟩:=h;exact⟨ai,H',I.unwish,q⟩
 |cont=>obtain⟨ai,H',I,q⟩:=h;exact⟨ai,H',I.unwish,q⟩
 |ret u=>obtain⟨v,ai,H',I,r,q⟩:=h;exact⟨v,ai,H',I.unwish,r,q⟩
end
section
variable {X:Cx}{st:l8}{rest:List l8}{t u:TS}{e:lq}{te:TE}{pos:Pos}
def tNext:TS:=λD σ H=>D.nx σ H
def tSeq (t u:TS):TS:=λD σ H=>t {D with nx:=u D} σ H
theorem zjp_:PSs X [] tNext:=λ_ _ σ H _ I h=>wpAny_execs_nil ⟨σ,H,I,h⟩
theorem zgL_ (h1:PS X st t)(h2:PSs X rest u):PSs X (st::rest) (tSeq t u):=by
 intro pins s σ H D I h;refine wpAny_execs_cons (thn (h1 pins s σ H {D with nx:=u D} I h) λf s1 q=>?_)
 cases f with
 |next=>
  obtain⟨ai,H',I',q⟩:=q;exact h2 pins s1 ai H' D I' q
 |ret v=>exact q
 |brk=>exact q
 |cont=>exact q
def tCont:TS:=λD σ H=>D.ct σ H
theorem znw_:PS X (.Pass pos) tNext:=λ_ _ σ H _ I h=>wpAny_Pass ⟨σ,H,I,h⟩
theorem zfi_:PS X (.Continue pos) tCont:=λ_ _ σ H _ I h=>wpAny_Continue ⟨σ,H,I,h⟩
theorem Inv.quiet {pins:Pnn}{σ:St}{H:Hp}{s:kF}(I:Inv X pins σ H s):interactive X.env=uP:=by simp[interactive,I.ok.kind]
theorem zpZ_ {x j pos pos'}:PS X (.Expr (.Constant (.str x) j pos) pos') tNext:=λ_ s σ H _ I h=>wpAny_Expr (Calls.Constant_str (show SP X _ _ .next {s with toks:=s.toks+1}from⟨σ,H,I.tok _,h⟩)) I.quiet
def tDrop (te:TE):TS:=λD σ H=>te σ H λ_ H1=>D.nx σ H1
theorem zna_ (he:PE X e te)(hs:swapsWith e uN pos.line X.env=pure uP:=by rfl):PS X (.Expr e pos) (tDrop te):=by
 intro pins s σ H D I h;exact wpAny_Expr_any (thn (he pins s σ H _ I h) λv s1 ⟨x,H1,I1,r1,q1⟩=>⟨σ,H1,I1,q1⟩) I.quiet hs
def tRet (te:TE):TS:=λD σ H=>te σ H D.rt
theorem zmF_ (he:PE X e te):PS X (.Return (uM e) pos) (tRet te):=by
 intro pins s σ H D I h;exact wpAny_Return_some (thn (he pins s σ H _ I h) λv s1 ⟨x,H1,I1,r1,q1⟩=>⟨x,σ,H1,I1,r1,q1⟩)
def tRetN:TS:=λD _ H=>D.rt .non H
theorem zlm_:PS X (.Return uN pos) tRetN:=λ_ _ σ H _ I h=>wpAny_Return_none ⟨.non,σ,H,I,rfl,h⟩
def tNever:TS:=λ_ _ _=>False
theorem zkb_:PS X st tNever:=λ_ _ _ _ _ _ h=>h.elim
end
abbrev TG:=V->St->Hp->(St->Hp->Prop)->Prop
abbrev TGs:=List V->St->Hp->(St->Hp->Prop)->Prop
def PG (X:Cx)(target:lq)(t:TG):Prop:=
 ∀(pins:Pnn) (s:kF) (σ:St) (H:Hp) (v:V) (u:aU) (Q:St->Hp->Prop),Inv X pins σ H s->RelV v u->t v σ H Q ->
  lJ (model X.prog X.w) X.A (assign target X.env u) (λ_ s'=>∃ai H',Inv X pins ai H' s'/\Q ai H') X.xe s
def PGs (X:Cx)(ts:List lq)(t:TGs):Prop:=
 ∀(pins:Pnn) (s:kF) (σ:St) (H:Hp) (vs:List V) (us:List aU) (Q:St->Hp->Prop),Inv X pins σ H s->Vals vs us->t vs σ H Q ->
  lJ (model X.prog X.w) X.A (assignInOrder ((m9 ts X.env).map (·.2)) us) (λ_ s'=>∃ai H',Inv X pins ai H' s'/\Q ai H') X.xe s
abbrev TSet:=V->V->V->Hp->(Hp->Prop)->Prop
def PSet (X:Cx)(t:TSet):Prop:=
 ∀(pins:Pnn) (s:kF) (σ:St) (H:Hp) (o i v:V) (ov iv u:aU) (Q:Hp->Prop),Inv X pins σ H s->RelV o ov->RelV i iv->RelV v u->t o i v H Q ->
  lJ (model X.prog X.w) X.A (setItem ov iv u) (λ_ s'=>∃H',Inv X pins σ H' s'/\Q H') X.xe s
section
variable {X:Cx}{pos:Pos}
def gName (i:Nat):TG:=λv σ H Q=>Q (σ.set i (uM v)) H
theorem znv_ {i:Nat}{x:Str}(hN:X.N.Nodup)(hi:X.N[i]?=uM x)(hx:Loc X.env.scope x)(hf:X.fn x=uO\/X.env.scope.names.lookup x=uM .local:=by first |exact .inl rfl |exact .inr rfl |assumption):PG X (.Name x pos) (gName i):=by
 intro pins s σ H v u Q I r h;exact wpAny_assign_Name (zgd_ I hN hi hx r (λs' I'=>⟨_,H,I',h⟩) hf)
def gNil:TGs:=λvs σ H Q=>vs=[]/\Q σ H
def gCons (t:TG)(u:TGs):TGs:=λvs σ H Q=>∃v r,vs=v::r/\t v σ H λai H'=>u r ai H' Q
theorem zlg_:PGs X [] gNil:=by
 intro pins s σ H vs us Q I r h;obtain⟨e,h⟩:=h;subst e;cases r;exact assignInOrder_nil ⟨σ,H,I,h⟩
theorem zkT_ {e:lq}{es:List lq}{t:TG}{u:TGs}(h1:PG X e t)(h2:PGs X es u)
  (hs:(m9 (e::es) X.env).map (·.2)=assign e X.env::(m9 es X.env).map (·.2):=by rfl):PGs X (e::es) (gCons t u):=by
 intro pins s σ H vs us Q I r h;obtain⟨v,vr,e1,h⟩:=h;subst e1;cases r with
 |cons r rr=>
  rw[hs];refine assignInOrder_cons (thn (h1 pins s σ H _ _ _ I r h) λ_ s1 af=>?_)
  obtain⟨iS,H1,I1,q1⟩:=af;exact h2 pins s1 iS H1 _ _ Q I1 rr q1
def gTup (K:Fgg)(n:Nat)(t:TGs):TG:=λv σ H Q=>∃a xs,v=.ref a/\SqT K H a xs/\xs.length=n/\t xs σ H Q
theorem zqr_ {es:List lq}{k:Nat}{t:TGs}{n:Nat}(hc:X.calm=uO)(h:PGs X es t)
  (hn:(m9 es X.env).length=n:=by rfl) (gu:(m9 es X.env).findIdx? (·.1)=uN:=by rfl):PG X (.Tuple es k pos) (gTup X.K n t):=by
 intro pins s σ H v u Q I r hw;obtain⟨a,xs,e1,hq,hl,hw⟩:=hw;subst e1;cases r;obtain⟨aa,rv,ht,hz⟩:=I.tuple hq;refine assign_Tuple_tuple (I.ok.hd hc) ht (by simp[hn,<- hl,rv.length]) gu λh' hx=>?_
 have I1:Inv X pins σ H {s with heap:=h'}:=I.kept (t':=s.toks) λb o e=>hx b o (lI (k8 e)) e
 exact h pins _ σ H xs _ Q I1 (by simpa using rv) hw
def gSub (to ti:TE)(t:TSet):TG:=λv σ H Q=>to σ H λo H1=>ti σ H1 λi H2=>t o i v H2 λH3=>Q σ H3
theorem zps_ {o i:lq}{to ti:TE}{t:TSet}(ho:PE X o to)(hi:PE X i ti)(hs:PSet X t)
  (ha:∀v,assign (.Subscript o i pos) X.env v=(do
   let ov <- holding [v] (eval o X.env)
   let iv <- holding [v,ov] (eval i X.env)
   standAt pos
   holding [v,ov,iv] (setItem ov iv v)
   release [v,ov,iv] []):=by intro _;rfl):PG X (.Subscript o i pos) (gSub to ti t):=by
 intro pins s σ H v u Q I r h;rw[ha];refine kJ (wpAny_holding (thn (ho pins s σ H _ I h) λov s1 af=>?_))
 obtain⟨x,H1,I1,r1,q1⟩:=af;refine kJ (wpAny_holding (thn (hi pins s1 σ H1 _ I1 q1) λiv s2 af=>?_))
 obtain⟨y,H2,I2,r2,q2⟩:=af;refine kJ (wpAny_standAt (kJ (wpAny_holding (thn (hs pins s2 σ H2 x y v ov iv u _ I2 r1 r2 r q2) λ_ s3 af=>?_))))
 obtain⟨H3,I3,q3⟩:=af;exact wpAny_release ⟨σ,H3,I3,q3⟩
def tAsg (te:TE)(g:TG):TS:=λD σ H=>te σ H λx H1=>g x σ H1 D.nx
theorem zpY_ {tg e:lq}{te:TE}{g:TG}(he:PE X e te)(hg:PG X tg g)(hs:swapsWithSole [tg] e pos.line X.env=pure uP:=by rfl)(hw:swappedStores [tg] e X.env=pure uN:=by rfl)
  (h1:(m9 [tg] X.env).map (·.2)=[assign tg X.env]:=by rfl):PS X (.Assign [tg] e pos) (tAsg te g):=by
 intro pins s σ H D I h;refine wpAny_Assign_stores (thn (he pins s σ H _ I h) λv s1 af=>?_) hs hw
 obtain⟨x,H1,I1,r1,q1⟩:=af;rw[h1];exact thn (hg pins s1 σ H1 x v _ I1 r1 q1) λ_ s2 q=>q
theorem zok_ {i:Nat}{x:Str}{e:lq}{te:TE}{pos':Pos}(hN:X.N.Nodup)(hi:X.N[i]?=uM x)(hx:Loc X.env.scope x)(he:PE X e te)(hs:swapsWith e (uM (.Name x pos')) pos.line X.env=pure uP:=by rfl)(hf:X.fn x=uO\/X.env.scope.names.lookup x=uM .local:=by first |exact .inl rfl |exact .inr rfl |assumption):
  PS X (.Assign [.Name x pos'] e pos) (tAsg te (gName i)):=by
 intro pins s σ H D I h;refine wpAny_Assign_Name (thn (he pins s σ H _ I h) λv s1 af=>?_) hs
 obtain⟨y,H1,I1,r1,q1⟩:=af;exact zgd_ I1 hN hi hx r1 (λs2 I2=>⟨_,H1,I2,q1⟩) hf
end
structure It where
 go:Nat->Hp->Prop
 yld:Nat->Hp->V->Hp->Prop
 stop:Nat->Hp->Prop
def FpOk (X:Cx)(pins:Pnn)(H:Hp)(b:kR):Prop:=
 H b=uN/\b≠X.env.locals/\b∉X.fs/\(b∈X.ex\/X.s₀.heap.objs.size<=b)/\(∀x c,X.env.cells.lookup x=uM c->c≠b)/\∀p∈X.pn++pins,p.1≠b
theorem Inv.fpOk {X:Cx}{pins:Pnn}{σ:St}{H H':Hp}{s:kF}{b:kR}(I:Inv X pins σ H s)(hb:s.heap.objs.size<=b)(hn:H' b=uN):FpOk X pins H' b:=by
 refine⟨hn,oU (lH I.lt hb),I.nofs hb,.inr (mN I.sz hb),λx c e z=>?_,λp hp z=>?_⟩
 ·obtain⟨v,q⟩:=I.cell x c e
  exact absurd (lH q.lt (by rw[z];exact hb)) (oh _)
 ·exact absurd (lH (k8 (I.pin p hp).1) (by rw[z];exact hb)) (oh _)
structure Turn (P:lN)(w:l7)(K:Fgg)(tg:lq)(J:It)(fp:List kR)(it:kR)(tn:Nat->Heap->Prop):Prop where
 mem:it∈fp
 obj:∀i h,tn i h->∀b∈fp,∃o,h.get? b=uM o/\∀v,o.data≠.cell v
 keep:∀i h h',tn i h->(∀b∈fp,∀o,h.get? b=uM o->h'.get? b=uM o)->tn i h'
 item:∀(X:Cx),X.prog=P->X.w=w->X.K=K->X.calm=uO->∀(i:Nat) (pins:Pnn) (s:kF) (σ:St) (H:Hp) (E:aU->kF->Prop),Inv X pins σ H s->(∀b∈fp,FpOk X pins H b)->tn i s.heap->J.go i H ->
  lJ (model P w) X.A (pyNext (.ref it)) (λr s1=>∃u,r=uM u /\
   lJ (model P w) X.A (letOwnedTupleGo tg (.ref it) u) (λ_ s2=>∃x H',Inv X pins σ H' s2/\RelV x u/\J.yld i H x H'/\tn (i+1) s2.heap/\∀b∈fp,H' b=uN) E s1) E s
 done:∀(X:Cx),X.prog=P->X.w=w->X.K=K->X.calm=uO->∀(i:Nat) (pins:Pnn) (s:kF) (σ:St) (H:Hp) (E:aU->kF->Prop),Inv X pins σ H s->(∀b∈fp,FpOk X pins H b)->tn i s.heap->J.stop i H ->
  lJ (model P w) X.A (pyNext (.ref it)) (λr s1=>r=uN/\Inv X pins σ H s1) E s
 self:∀(A:l9) (i:Nat) (s:kF) (Q:aU->kF->Prop) (E:aU->kF->Prop),tn i s.heap->Q (.ref it) s->lJ (model P w) A (pyIter (.ref it)) Q E s
abbrev TI:=St->Hp->(It->Hp->Prop)->Prop
def PIE (X:Cx)(pins:Pnn)(σ:St)(tg:lq)(R:It->Hp->Prop)(fF:aU)(s2:kF):Prop:=
 ∃(it:kR) (fp:List kR) (tn:Nat->Heap->Prop) (J:It) (H':Hp),fF=.ref it/\Inv X pins σ H' s2/\Turn X.prog X.w X.K tg J fp it tn/\tn 0 s2.heap/\(∀b∈fp,FpOk X pins H' b)/\R J H'
def PI (X:Cx)(tg iter:lq)(wi:TI):Prop:=
 ∀(pins:Pnn) (s:kF) (σ:St) (H:Hp) (R:It->Hp->Prop),Inv X pins σ H s->wi σ H R ->
  lJ (model X.prog X.w) X.A (eval iter X.env) (λv s1=>lJ (model X.prog X.w) X.A (pyIter v) (PIE X pins σ tg R) X.xe s1) X.xe s
theorem zou_ {M:Model}{A:l9}{E:aU->kF->Prop}{s:kF}{tg:lq}{it:kR}{u:aU}{o:tF}{n:String}{vs:Array aU}{Q:Unit->kF->Prop}(ho:s.heap.get? it=uM o)(hc:o.cls=.type n)(hd:o.data=.fields vs)
  (hn:["enumerate", "zip", "dict_itemiterator", "dict_reverseitemiterator", "odict_iterator", "itertools.zip_longest", "itertools.pairwise"].contains n=uP) (hQ:Q () s):lJ M A (letOwnedTupleGo tg (.ref it) u) Q E s:=by
 unfold letOwnedTupleGo
 cases tg<;>first
  |exact lE hQ
  | (cases u<;>first
    |exact lE hQ
    | (refine kJ (wpAny_load ho ?_)
       rw[hc,hd];show lJ M A (if(["enumerate", "zip", "dict_itemiterator", "dict_reverseitemiterator", "odict_iterator", "itertools.zip_longest", "itertools.pairwise"].contains n && vs[0]?==uM (rawInt _))=uO then _ else _) Q E s
       rw[if_neg (by intro h;rw[hn,Bool.false_and]at h;cases h)]
       exact lE hQ))
def Itl (K:Fgg)(a:kR):It:=
 ⟨λi H=>∃xs x,SqL K H a xs/\xs[i]?=uM x,λi H x H'=>H'=H/\∀xs,SqL K H a xs->xs[i]?=uM x,λi H=>∃xs,SqL K H a xs/\xs.length<=i⟩
def Itt (K:Fgg)(a:kR):It:=
 ⟨λi H=>∃xs x,SqT K H a xs/\xs[i]?=uM x,λi H x H'=>H'=H/\∀xs,SqT K H a xs->xs[i]?=uM x,λi H=>∃xs,SqT K H a xs/\xs.length<=i⟩
noncomputable def Itr (lo:Int)(n:Nat):It:=⟨λi _=>i<n,λi H x H'=>H'=H/\x=.int (lo+i),λi _=>n<=i⟩
theorem zhz_ {P:lN}{w:l7}{K:Fgg}{tg:lq}(a it:kR):Turn P w K tg (Itl K a) [it] it (λi h=>h.IsListIter it a i) where
 mem:=by simp
 obj:=λi h st b hb=>by
  have e:b=it:=by simpa using hb
  subst e;obtain⟨o,e,c,d⟩:=st;exact⟨o,e,λv z=>by rw[d]at z;cases z⟩
 keep:=λi h h' st k=>st.at λo e=>k it (by simp) o e
 item:=by
  intro X hP hw hK hc i pins s σ H E I hf st hg;subst hP hw hK;obtain⟨xs,x,hq,hx⟩:=hg;obtain⟨aa,rv,p,hz⟩:=I.list hq;obtain⟨u,hu,ru⟩:=rv.get hx;obtain⟨f0,f1,f2,f3,f4,f5⟩:=hf it (by simp)
  refine wpAny_pyNext_list_item st p.isList (x:=u) (by simpa using hu) λh' st' sb=>?_
  have I1:Inv X pins σ H {s with heap:=h'}:=I.turned (t':=s.toks) (λb o hb e=>(sb.2 b hb).trans e) f0 f1 f3 f4 f5
  obtain⟨o,e,c,d⟩:=id st';exact⟨u,rfl,zou_ (s:={s with heap:=h'}) e c d (by decide) ⟨x,H,I1,ru,⟨rfl,λys hy=>by rw[I.list_inj hy hq];exact hx⟩,st',λb hb=>(hf b hb).1⟩⟩
 done:=by
  intro X hP hw hK hc i pins s σ H E I hf st hg;subst hP hw hK;obtain⟨xs,hq,hx⟩:=hg;obtain⟨aa,rv,p,hz⟩:=I.list hq;obtain⟨f0,f1,f2,f3,f4,f5⟩:=hf it (by simp)
  have hl:=rv.length;exact wpAny_pyNext_list_end (I.ok.hd hc) st p.isList (by simp;lia) λh' eb=>⟨rfl,I.turned (t':=s.toks) (λb o hb e=>eb b o hb e) f0 f1 f3 f4 f5⟩
 self:=λ_ _ _ _ _ st h=>wpAny_pyIter_listiter st h
theorem zhb_ {P:lN}{w:l7}{K:Fgg}{tg:lq}(a it:kR):Turn P w K tg (Itt K a) [it] it (λi h=>h.IsTupleIter it a i) where
 mem:=by simp
 obj:=λi h st b hb=>by
  have e:b=it:=by simpa using hb
  subst e;obtain⟨o,e,c,d⟩:=st;exact⟨o,e,λv z=>by rw[d]at z;cases z⟩
 keep:=λi h h' st k=>st.at λo e=>k it (by simp) o e
 item:=by
  intro X hP hw hK hc i pins s σ H E I hf st hg;subst hP hw hK;obtain⟨xs,x,hq,hx⟩:=hg;obtain⟨aa,rv,p,hz⟩:=I.tuple hq;obtain⟨u,hu,ru⟩:=rv.get hx;obtain⟨f0,f1,f2,f3,f4,f5⟩:=hf it (by simp)
  refine wpAny_pyNext_tuple_item st (show s.heap.IsTuple a aa.toArray from p) (x:=u) (by simpa using hu) λh' st' sb=>?_
  have I1:Inv X pins σ H {s with heap:=h'}:=I.turned (t':=s.toks) (λb o hb e=>(sb.2 b hb).trans e) f0 f1 f3 f4 f5
  obtain⟨o,e,c,d⟩:=id st';exact⟨u,rfl,zou_ (s:={s with heap:=h'}) e c d (by decide) ⟨x,H,I1,ru,⟨rfl,λys hy=>by rw[I.tuple_inj hy hq];exact hx⟩,st',λb hb=>(hf b hb).1⟩⟩
 done:=by
  intro X hP hw hK hc i pins s σ H E I hf st hg;subst hP hw hK;obtain⟨xs,hq,hx⟩:=hg;obtain⟨aa,rv,p,hz⟩:=I.tuple hq;obtain⟨f0,f1,f2,f3,f4,f5⟩:=hf it (by simp)
  have hl:=rv.length;exact wpAny_pyNext_tuple_end (I.ok.hd hc) st (show s.heap.IsTuple a aa.toArray from p) (by simp;lia) λh' eb=>⟨rfl,I.turned (t':=s.toks) (λb o hb e=>eb b o hb e) f0 f1 f3 f4 f5⟩
 self:=λ_ _ _ _ _ st h=>wpAny_pyIter_tupleiter st h
theorem zhc_ {P:lN}{w:l7}{K:Fgg}{tg:lq}(it:kR)(lo:Int)(n:Nat):Turn P w K tg (Itr lo n) [it] it (λi h=>IsRangeIter h it (lo+(i:Nat)*1) ((n:Int)-(i:Nat)) 1) where
 mem:=by simp
 obj:=λi h st b hb=>by
  have e:b=it:=by simpa using hb
  subst e;exact⟨_,st,λv z=>by
   have z':Data.fields _=Data.cell v:=z;cases z'⟩
 keep:=λi h h' st k=>k it (by simp) _ st
 item:=by
  intro X hP hw hK hc i pins s σ H E I hf st hg;subst hP hw hK;obtain⟨f0,f1,f2,f3,f4,f5⟩:=hf it (by simp)
  have W:=Walks.range (prog:=X.prog) (w:=X.w) (I.ok.hd hc) it lo 1 n;refine W.item i s _ _ hg st λv h' tk hv st' kk=>?_
  obtain⟨t,rfl⟩:=hv;have I1:Inv X pins σ H {s with heap:=h',toks:=tk}:=I.turned (λb o hb e=>kk b o (by simpa using hb) e) f0 f1 f3 f4 f5
  refine⟨_,rfl,zou_ (s:={s with heap:=h',toks:=tk}) (n:="range_iterator") st' rfl rfl (by decide) ⟨.int (lo+i),H,I1,⟨t,?_⟩,⟨rfl,rfl⟩,st',λb hb=>(hf b hb).1⟩⟩
  rw[Int.mul_one]
 done:=by
  intro X hP hw hK hc i pins s σ H E I hf st hg;subst hP hw hK;obtain⟨f0,f1,f2,f3,f4,f5⟩:=hf it (by simp)
  exact wpAny_pyNext_range_end (I.ok.hd hc) st (by have:n<=i:=hg;lia) λh' eb=>⟨rfl,I.turned (t':=s.toks) (λb o hb e=>eb b o hb e) f0 f1 f3 f4 f5⟩
 self:=λ_ _ _ _ _ st h=>wpAny_pyIter_rangeiter st h
section
variable {X:Cx}{tg:lq}
theorem zg6_ {pins:Pnn}{σ:St}{H:Hp}{s:kF}{R:It->Hp->Prop}{E:aU->kF->Prop}{lo hi:Int}{t u v:Tok}{tk:Nat}(I:Inv X pins σ H s)(h1 : -(2 ^ 62)<=lo)(h2:lo<2 ^ 62)(h3 : -(2 ^ 62)<=hi)(h4:hi<2 ^ 62)
  (q:R (Itr lo (hi-lo).toNat) H):lJ (model X.prog X.w) X.A (pyIter (.ref s.heap.objs.size)) (PIE X pins σ tg R) E {s with heap:=s.heap.push {cls:=.type "range",data:=.fields #[.int lo t,.int hi u,.int 1 v]},toks:=tk}:=by
 refine wpAny_pyIter_range (IsRange.new ..) (small_one h1 h2 h3 h4) ?_;have I1:Inv X pins σ H {s with heap:=s.heap.push {cls:=.type "range",data:=.fields #[.int lo t,.int hi u,.int 1 v]},toks:=tk}:=I.kept λb o e=>kH _ e
 refine⟨(s.heap.push {cls:=.type "range",data:=.fields #[.int lo t,.int hi u,.int 1 v]}).objs.size,[(s.heap.push {cls:=.type "range",data:=.fields #[.int lo t,.int hi u,.int 1 v]}).objs.size],_,_,H,rfl,
  I1.kept (t':=tk) λb o e=>kH _ e,zhc_ _ lo (hi-lo).toNat,?_,λb hb=>?_,q⟩
 ·have e1:lo+((0:Nat):Int)*1=lo:=by simp
  have e2:(((hi-lo).toNat:Nat):Int)-((0:Nat):Int)=qg lo hi 1:=by rw[rangeSize_one];split<;>omega
  show IsRangeIter _ _ (lo+((0:Nat):Int)*1) ((((hi-lo).toNat:Nat):Int)-((0:Nat):Int)) 1
  rw[e1,e2];exact lG _ rfl
 ·have e:b=(s.heap.push {cls:=.type "range",data:=.fields #[.int lo t,.int hi u,.int 1 v]}).objs.size:=by simpa using hb
  subst e;exact I1.fpOk (kP _) (I1.hok.fresh (kP _))
def tFor (wi:TI)(g:TG)(tb:TS):TS:=λD σ H=>wi σ H λJ H1=>∃W:Nat->Nat->St->Hp->Prop,(∃m,W 0 m σ H1)/\∀i m σ H,W i m σ H ->
 (J.stop i H/\D.nx σ H)\/(J.go i H/\∃N:St->Hp->Prop,(∀ai H',N ai H'->∃m',m'<m/\W (i+1) m' ai H')/\∀x H',J.yld i H x H'->g x σ H' λdz H2=>tb {D with nx:=N,ct:=N,bk:=D.nx} dz H2)
def pinsAt (fp:List kR)(h:Heap):Pnn:=fp.filterMap λb=>(h.get? b).map λo=>(b,o)
theorem za2_ {fp:List kR}{h:Heap}{b:kR}{o:tF}(hb:b∈fp)(e:h.get? b=uM o):(b,o)∈pinsAt fp h:=rm.mpr ⟨b,hb,by rw[e];rfl⟩
theorem zh2_ {fp:List kR}{h:Heap}{p:kR×tF}(hp:p∈pinsAt fp h):p.1∈fp/\h.get? p.1=uM p.2:=by
 obtain⟨b,hb,e⟩:=rm.mp hp;cases q:h.get? b with
 |none=>rw[q]at e;cases e
 |some o=>
  rw[q]at e;have e':(b,o)=p:=lP e;subst e';exact⟨hb,q⟩
theorem Inv.pinned {pins:Pnn}{σ:St}{H:Hp}{s:kF}{fp:List kR}(I:Inv X pins σ H s)(hf:∀b∈fp,FpOk X pins H b)(ho:∀b∈fp,∃o,s.heap.get? b=uM o/\∀v,o.data≠.cell v):Inv X (pins++pinsAt fp s.heap) σ H s:=
 I.pins_of λp hp=>(ny.mp hp).elim (λz=>I.pin p (lM _ z)) λz=>by
  obtain⟨hb,e⟩:=zh2_ z;obtain⟨f0,f1,f2,_⟩:=hf p.1 hb;obtain⟨o,e',d⟩:=ho p.1 hb;rw[e]at e';cases e';exact⟨e,f0,f1,f2,d⟩
theorem Inv.unpinned {pins pl:Pnn}{σ:St}{H:Hp}{s:kF}(I:Inv X (pins++pl) σ H s):Inv X pins σ H s:=I.pins_of λp hp=>I.pin p (lM _ (oP _ hp))
theorem zpO_ {iter:lq}{body:List l8}{wi:TI}{g:TG}{tb:TS}{pos:Pos}(hp:PassesOwn (model X.prog X.w) X.A X.env X.xe)(hc:X.calm=uO)(hi:PI X tg iter wi)(hg:PG X tg g)(hb:PSs X body tb)
  (hs:∀x,foldedSetIterable iter X.env x=pure x:=by intro _;rfl):PS X (.For tg iter body [] pos) (tFor wi g tb):=by
 intro pins s σ H D I h;refine wpAny_For (thn (hi pins s σ H _ I h) λv s1 h1=>thn h1 λfF s2 h2=>?_) hs
 obtain⟨it,fp,tn,J,H2,e,I2,T,st2,f2,W,⟨m0,w0⟩,turn⟩:=h2;subst e;have aW:∀{H':Hp},(∀b∈fp,H' b=uN)->∀b∈fp,FpOk X pins H' b:=λhn b hb=>⟨hn b hb,(f2 b hb).2⟩
 refine codeAny_forLoop_any (λn s'=>∃i ai H',Inv X pins ai H' s'/\tn i s'.heap/\(∀b∈fp,H' b=uN)/\W i n ai H') ?_ m0 ⟨0,σ,H2,I2,st2,λb hb=>(f2 b hb).1,w0⟩
 rintro n s3 ⟨i,bE,H3,I3,st3,fr3,w3⟩;rcases turn i n bE H3 w3 with⟨stop,qn⟩|⟨go,N,hN,step⟩
 ·refine pd hp (thn (T.done X rfl rfl rfl hc i pins s3 bE H3 X.xe I3 (aW fr3) st3 stop) λr s4 af=>?_)
  obtain⟨hr,I4⟩:=af;subst hr;exact wpAny_execs_nil ⟨bE,H3,I4,qn⟩
 ·refine pd hp (thn (T.item X rfl rfl rfl hc i pins s3 bE H3 X.xe I3 (aW fr3) st3 go) λr s4 af=>?_)
  obtain⟨u,hr,h4⟩:=af;subst hr;refine pd hp (thn h4 λ_ s5 af=>?_)
  obtain⟨x,H5,I5,r5,y5,st5,fr5⟩:=af;have hJ:=I5.pinned (aW fr5) (T.obj _ _ st5);refine pd hp (thn (hg _ s5 bE H5 x u _ hJ r5 (step x H5 y5)) λ_ s6 af=>?_)
  obtain⟨bZ,H6,I6,q6⟩:=af;refine pd hp (thn (hb _ s6 bZ H6 _ I6 q6) λf s7 q7=>?_)
  have again:∀{bH:St}{H7:Hp},Inv X (pins++pinsAt fp s5.heap) bH H7 s7->N bH H7->∃m,m<n/\∃i ai H',Inv X pins ai H' s7/\tn i s7.heap/\(∀b∈fp,H' b=uN)/\W i m ai H':=λ{bH H7} I7 n7=>by
   obtain⟨m',hm,w7⟩:=hN bH H7 n7;refine⟨m',hm,i+1,bH,H7,I7.unpinned,T.keep _ _ _ st5 λb hb o e=>(I7.pin (b,o) (lM _ (lM _ (za2_ hb e)))).1,λb hb=>?_,w7⟩
   obtain⟨o,e,d⟩:=T.obj _ _ st5 b hb;exact(I7.pin (b,o) (lM _ (lM _ (za2_ hb e)))).2.1
  cases f with
  |next=>obtain⟨bH,H7,I7,n7⟩:=q7;exact again I7 n7
  |cont=>obtain⟨bH,H7,I7,n7⟩:=q7;exact again I7 n7
  |brk=>obtain⟨bH,H7,I7,q7⟩:=q7;exact⟨bH,H7,I7.unpinned,q7⟩
  |ret v=>obtain⟨x7,bH,H7,I7,r7,q7⟩:=q7;exact⟨x7,bH,H7,I7.unpinned,r7,q7⟩
end
abbrev R2:=V->V->Hp->VK->Prop
def OpR (X:Cx)(f:aU->aU->Sem aU)(r:R2):Prop:=
 ∀(pins:Pnn) (s:kF) (σ:St) (H:Hp) (x y:V) (v u:aU) (Q:VK),Inv X pins σ H s->RelV x v->RelV y u->r x y H Q ->
  lJ (model X.prog X.w) X.A (f v u) (EP X pins σ Q) X.xe s
def UnR (X:Cx)(f:aU->Sem aU)(r:V->Hp->VK->Prop):Prop:=
 ∀(pins:Pnn) (s:kF) (σ:St) (H:Hp) (x:V) (v:aU) (Q:VK),Inv X pins σ H s->RelV x v->r x H Q ->
  lJ (model X.prog X.w) X.A (f v) (EP X pins σ Q) X.xe s
def CallR (X:Cx)(f:aU)(r:List V->Hp->VK->Prop):Prop:=
 ∀(pins:Pnn) (s:kF) (σ:St) (H:Hp) (xs:List V) (us:List aU) (Q:VK),Inv X pins σ H s->Vals xs us->r xs H Q ->
  lJ (model X.prog X.w) X.A (call f us) (EP X pins σ Q) X.xe s
def tOp (r:R2)(ta tb:TE):TE:=λσ H Q=>ta σ H λx H1=>tb σ H1 λy H2=>r x y H2 Q
def rI (C:Int->Int->Prop)(g:Int->Int->V):R2:=λx y H Q=>∃i j,x=.int i/\y=.int j/\C i j/\Q (g i j) H
def rI0 (g:Int->Int->V):R2:=λx y H Q=>∃i j,x=.int i/\y=.int j/\Q (g i j) H
def rU (g:Int->V):V->Hp->VK->Prop:=λx H Q=>∃i,x=.int i/\Q (g i) H
section
variable {X:Cx}{a b:lq}{ta tb:TE}{pos:Pos}
theorem binT (ha:PE X a ta)(hb:PE X b tb){pins:Pnn}{s:kF}{σ:St}{H:Hp}{R:V->V->Hp->Prop}(I:Inv X pins σ H s)
  (h:ta σ H λx H1=>tb σ H1 λy H2=>R x y H2) {Q:aU->kF->Prop}{f:aU->aU->Sem aU}
  (hf:∀v u s2 x y H2,Inv X pins σ H2 s2->RelV x v->RelV y u->R x y H2->lJ (model X.prog X.w) X.A (f v u) Q X.xe s2):
  lJ (model X.prog X.w) X.A (eval a X.env) (λv ab=>lJ (model X.prog X.w) X.A (eval b X.env) (λu aO=>lJ (model X.prog X.w) X.A (f v u) Q X.xe aO) X.xe ab) X.xe s:=by
 refine thn (ha pins s σ H _ I h) λv s1 af=>?_
 obtain⟨x,H1,I1,r1,q1⟩:=af;refine thn (hb pins s1 σ H1 _ I1 q1) λu s2 af=>?_
 obtain⟨y,H2,I2,r2,q2⟩:=af;exact hf v u s2 x y H2 I2 r1 r2 q2
theorem pe_op {op:Operator}{r:R2}(ho:OpR X (nz op) r)(ha:PE X a ta)(hb:PE X b tb):PE X (.BinOp a op b pos) (tOp r ta tb):=by
 intro pins s σ H Q I h;exact wpAny_BinOp (binT ha hb I h λv u s2 x y H2 I2 rx ry q=>ho pins s2 σ H2 x y v u Q I2 rx ry q)
theorem opI {f:aU->aU->Sem aU}{C:Int->Int->Prop}{g:Int->Int->Int}
  (rule:∀(i j:Int) (t u:Tok) (s:kF) (Q:aU->kF->Prop) (E:aU->kF->Prop),C i j->Q (.int (g i j) s.toks) {s with toks:=s.toks+1}->lJ (model X.prog X.w) X.A (f (.int i t) (.int j u)) Q E s):
  OpR X f (rI C λi j=>.int (g i j)):=by
 intro pins s σ H x y v u Q I rx ry h;obtain⟨i,j,rfl,rfl,hc,q⟩:=h;obtain⟨t,rfl⟩:=rx;obtain⟨t',rfl⟩:=ry;exact rule i j t t' s _ _ hc ⟨.int (g i j),H,I.tok _,⟨_,rfl⟩,q⟩
theorem opI0 {f:aU->aU->Sem aU}{g:Int->Int->Int}
  (rule:∀(i j:Int) (t u:Tok) (s:kF) (Q:aU->kF->Prop) (E:aU->kF->Prop),Q (.int (g i j) s.toks) {s with toks:=s.toks+1}->lJ (model X.prog X.w) X.A (f (.int i t) (.int j u)) Q E s):
  OpR X f (rI0 λi j=>.int (g i j)):=by
 intro pins s σ H x y v u Q I rx ry h;obtain⟨i,j,rfl,rfl,q⟩:=h;obtain⟨t,rfl⟩:=rx;obtain⟨t',rfl⟩:=ry;exact rule i j t t' s _ _ ⟨.int (g i j),H,I.tok _,⟨_,rfl⟩,q⟩
theorem opB0 {f:aU->aU->Sem aU}{g:Int->Int->Bool}
  (rule:∀(i j:Int) (t u:Tok) (s:kF) (Q:aU->kF->Prop) (E:aU->kF->Prop),Q (.bool (g i j)) s->lJ (model X.prog X.w) X.A (f (.int i t) (.int j u)) Q E s):
  OpR X f (rI0 λi j=>.bl (g i j)):=by
 intro pins s σ H x y v u Q I rx ry h;obtain⟨i,j,rfl,rfl,q⟩:=h;obtain⟨t,rfl⟩:=rx;obtain⟨t',rfl⟩:=ry;exact rule i j t t' s _ _ ⟨.bl (g i j),H,I,rfl,q⟩
def CDiv (i j:Int):Prop:=0<j/\j<1073741824
def CPow (i j:Int):Prop:=0<=j/\j<=1000000/\i.natAbs<2 ^ 64
def CMul (i j:Int):Prop:=(-(2 ^ 64)<i/\i<2 ^ 64)\/(-(2 ^ 64)<j/\j<2 ^ 64)
theorem CMul.ok {i j:Int}(h:CMul i j):IntMulOk i j:=by
 rcases h with⟨h1,h2⟩|⟨h1,h2⟩
 ·exact .of_left (intBits_le_64 h1 h2)
 ·exact .of_right (intBits_le_64 h1 h2)
theorem zpB_:OpR X (nz .Add) (rI0 λi j=>.int (i+j)):=opI0 λ_ _ _ _ _ _ _ q=>add_int q
theorem zrn_:OpR X (nz .Sub) (rI0 λi j=>.int (i-j)):=opI0 λ_ _ _ _ _ _ _ q=>sub_int q
theorem zoP_:OpR X (nz .Mod) (rI (λ_ j=>0<j) λi j=>.int (i % j)):=opI λi j _ _ _ _ _ hc q=>by
 have h1:(0:Int)<j:=hc;exact mod_int' (by lia) (by rw[Int.fmod_eq_emod_of_nonneg i (by lia)];exact q)
theorem unI {f:aU->Sem aU}{g:Int->Int}
  (rule:∀(i:Int) (t:Tok) (s:kF) (Q:aU->kF->Prop) (E:aU->kF->Prop),Q (.int (g i) s.toks) {s with toks:=s.toks+1}->lJ (model X.prog X.w) X.A (f (.int i t)) Q E s):
  UnR X f (rU λi=>.int (g i)):=by
 intro pins s σ H x v Q I rx h;obtain⟨i,rfl,q⟩:=h;obtain⟨t,rfl⟩:=rx;exact rule i t s _ _ ⟨.int (g i),H,I.tok _,⟨_,rfl⟩,q⟩
theorem zqw_:UnR X (unaryOp .USub) (rU λi=>.int (-i)):=unI λ_ _ _ _ _ q=>neg_int q
theorem zfc_ {pins:Pnn}{σ:St}{H:Hp}{s:kF}{Q:VK}{k k':Bool}(I:Inv X pins σ H s)(q:Q (.bl k) H)(e:k=k'):EP X pins σ Q (.bool k') s:=by
 subst e;exact⟨.bl k,H,I,rfl,q⟩
theorem op_lt:OpR X (lF .Lt) (rI0 λi j=>.bl (decide (i<j))):=opB0 λ_ _ _ _ _ _ _ q=>lt_int q
theorem op_le:OpR X (lF .LtE) (rI0 λi j=>.bl (decide (i<=j))):=opB0 λ_ _ _ _ _ _ _ q=>le_int q
theorem op_gt:OpR X (lF .Gt) (rI0 λi j=>.bl (decide (j<i))):=opB0 λ_ _ _ _ _ _ _ q=>gt_int q
theorem op_ge:OpR X (lF .GtE) (rI0 λi j=>.bl (decide (j<=i))):=opB0 λ_ _ _ _ _ _ _ q=>ge_int q
theorem zeR_:OpR X (lF .Lt) (λx y H Q=>∃i j,x=.str i/\y=.str j/\Q (.bl (decide (i.cps.toList<j.cps.toList))) H):=by
 intro pins s σ H x y v u Q I rx ry h;obtain⟨i,j,rfl,rfl,q⟩:=h;obtain⟨t,rfl⟩:=rx;obtain⟨t',rfl⟩:=ry;exact lt_str (zfc_ I q rfl)
theorem zhs_:OpR X (lF .In) (λx y H Q=>∃i j,x=.str i/\y=.str j/\Q (.bl (!(nq j i 0 j.length 1).isEmpty)) H):=by
 intro pins s σ H x y v u Q I rx ry h;obtain⟨i,j,rfl,rfl,q⟩:=h;obtain⟨t,rfl⟩:=rx;obtain⟨t',rfl⟩:=ry;exact in_str (zfc_ I q rfl)
theorem zpG_:OpR X (lF .Is) (λx y H Q=>y=.non/\Q (.bl (decide (x=.non))) H):=by
 intro pins s σ H x y v u Q I rx ry h;obtain⟨rfl,q⟩:=h;cases ry;refine is_none_gen (zfc_ I q ?_)
 cases x<;>first
  |(cases rx;rfl)
  |(obtain⟨t,rfl⟩:=rx;rfl)
theorem zmz_:OpR X (lF .IsNot) (λx y H Q=>y=.non/\Q (.bl (!decide (x=.non))) H):=by
 intro pins s σ H x y v u Q I rx ry h;obtain⟨rfl,q⟩:=h;cases ry;refine isnot_none_gen (zfc_ I q ?_)
 cases x<;>first
  |(cases rx;rfl)
  |(obtain⟨t,rfl⟩:=rx;rfl)
theorem zdR_:OpR X (lF .NotIn) (λx y H Q=>∃i j,x=.str i/\y=.str j/\Q (.bl (!(!(nq j i 0 j.length 1).isEmpty))) H):=by
 intro pins s σ H x y v u Q I rx ry h;obtain⟨i,j,rfl,rfl,q⟩:=h;obtain⟨t,rfl⟩:=rx;obtain⟨t',rfl⟩:=ry;exact notIn_str (zfc_ I q rfl)
theorem znE_ {op:CmpOp}{r:R2}(ho:OpR X (lF op) r)(ha:PE X a ta)(hb:PE X b tb)(hm:behindInMarks op b=uP):PE X (.Compare a [op] [b] pos) (tOp r ta tb):=by
 intro pins s σ H Q I h;exact wpAny_Compare1 (binT ha hb I h λv u s2 x y H2 I2 rx ry q=>ho pins s2 σ H2 x y v u Q I2 rx ry q) hm
theorem line63:(lg:Nat)<2 ^ 63:=by rw[sizeLine_eq];decide
theorem zf6_:OpR X (nz .Add) (λx y H Q=>∃i j,x=.str i/\y=.str j/\i.length+j.length<=lg/\Q (.str (i++j)) H):=by
 intro pins s σ H x y v u Q I rx ry h;obtain⟨i,j,rfl,rfl,hz,q⟩:=h;obtain⟨t,rfl⟩:=rx;obtain⟨t',rfl⟩:=ry;exact add_str (λt' tk=>⟨.str (i++j),H,I.tok _,⟨_,rfl⟩,q⟩) hz
theorem vals1 {x:V}{us:List aU}(r:Vals [x] us):∃u,us=[u]/\RelV x u:=by
 cases r with
 |cons r1 r2=>cases r2;exact⟨_,rfl,r1⟩
theorem vals2 {x y:V}{us:List aU}(r:Vals [x,y] us):∃u w',us=[u,w']/\RelV x u/\RelV y w':=by
 cases r with
 |cons r1 r2=>
  cases r2 with
  |cons r3 r4=>cases r4;exact⟨_,_,rfl,r1,r3⟩
theorem zh4_ (hc:X.calm=uO):CallR X (.builtin "min") (λxs H Q=>∃i j,xs=[.int i,.int j]/\Q (.int (if j<i then j else i)) H):=by
 intro pins s σ H xs us Q I r h;obtain⟨i,j,rfl,q⟩:=h;obtain⟨u,w',rfl,⟨t,rfl⟩,⟨t',rfl⟩⟩:=vals2 r;refine min_two_ints (I.ok.hd hc) λh' tk k=>⟨_,H,I.kept k,?_,q⟩
 by_cases hj:j<i
 ·rw[if_pos hj,if_pos hj];exact⟨_,rfl⟩
 ·rw[if_neg hj,if_neg hj];exact⟨_,rfl⟩
theorem zd6_:CallR X (.type "str") (λxs H Q=>∃i,xs=[.int i]/\i.natAbs.log2<1920/\Q (.str (toString i)) H):=by
 intro pins s σ H xs us Q I r h;obtain⟨i,rfl,hz,q⟩:=h;obtain⟨u,rfl,t,rfl⟩:=vals1 r;exact PySem.P.str_of_int hz ⟨.str _,H,I.tok _,⟨_,rfl⟩,q⟩
end
structure ObjM (h:Heap)(x dx C:kR)(mA:Str->Option aU):Prop where
 obj:h.get? x=uM (pE C dx)
 ns:h.Ns1 dx mA
 ne:dx≠x
theorem zhK_ {h:Heap}{dx:kR}{mA:Str->Option aU}(n:h.Ns1 dx mA):∃od,h.get? dx=uM od/\∀name,uw name od=uM (mA name):=by
 obtain⟨o,es,ep,ho,hd,hk,_,hm⟩:=n;refine⟨o,ho,λname=>?_⟩
 have e:=hm name;unfold nsFind findBy at e;rw[<- Array.find?_toList]at e;unfold uw;rw[hd];dsimp only;split
 ·rename_i y q
  rw[q]at e;exact congrArg uM e
 ·rename_i q
  rw[q]at e;have a:es.toList.any (·.refKey)=uP:=by
   rw[rH];intro y hy;obtain⟨z,t,hkey⟩:=hk y (Array.mem_toList_iff.mp hy);simp[DictEntry.refKey,hkey]
  have a':¬es.toList.any (·.refKey)=uO:=by rw[a];exact mq
  rw[if_neg a'];exact congrArg uM e
theorem ObjM.look {h:Heap}{x dx C:kR}{mA:Str->Option aU}(I:ObjM h x dx C mA):∃od,W.InstAt h x (pE C dx) C (uM od)/\∀name,uw name od=uM (mA name):=
 let⟨od,ho,hl⟩:=zhK_ I.ns
 ⟨od,⟨I.obj,rfl,rfl,ho⟩,hl⟩
section
variable {prog:lN}{w:l7}{A:l9}{E:aU->kF->Prop}{s:kF}{K:Fgg}{x dx C f:kR}{mA:Str->Option aU}{name:Str}{v:aU}
theorem zn5_ {expr:Bool}{Q:aU->kF->Prop}(X:K.In s.heap)(I:ObjM s.heap x dx C mA)(hg:qt K C name=uO)(hh:p5 K C=uO)
  (ha:nI K (.ref C) name=uM uN) (hv:mA name=uM v) (gq:W.handedIn v=uO) (h:Q v {s with toks:=s.toks+1}):
  lJ (model prog w) A (getAttr (.ref x) name expr) Q E s:=by
 obtain⟨od,J,hl⟩:=I.look;exact W.get_value X J (W.plainGet_of hg).1 (W.findObj_own hh ha rfl (by rw[hl,hv])) gq h
theorem zmG_ {ns:List Str}{Q:Unit->kF->Prop}(X:K.In s.heap)(I:ObjM s.heap x dx C mA)
  (hs:nI K (.ref C) "__setattr__"=uM (uM (.builtin "object.__setattr__"))) (hp:qM K C=uO) (ht:tG K C name=uM uN) (hh:p5 K C=uO)
  (hw:qr mA ns) (hsz:ns.length<=lg)
  (h:∀h',ObjM h' x dx C (λy=>if y=name then uM v else mA y)->oT dx s.heap h'->Q () {s with heap:=h',toks:=s.toks+2}):
  lJ (model prog w) A (setAttr (.ref x) name v) Q E s:=by
 obtain⟨od,J,hl⟩:=I.look;refine W.set_plain X J hs (W.osa_open (s:={s with toks:=s.toks+1}) (r:=uN) X J hp ht λb=>?_)
 obtain⟨cd,hc,hd'⟩:=W.any_some hh;have hx:s.heap.get? x=uM ⟨.ref C,uM dx,.plain,#[]⟩:=I.obj;refine kJ (lE (kJ (kJ (wpAny_loadPart hx (kJ (W.Looks.here (s:={s with toks:=s.toks+1}) (W.looks_clsIn X hc) ?_))))));rw[hd'];refine lE (a:=uM dx) (kJ (lE (kJ ?_)));refine wpAny_nsSet1 (s:={s with toks:=s.toks+1}) I.ns λh' fG aQ=>?_
 obtain⟨oD,esD,epD,hoD,hdD,hcD⟩:=fG.count (uI name v hw);refine kJ (wpAny_lookBehind hoD (by rw[hdD];exact pastItsLine_dict (mN hcD (by rw[lp];lia))) ?_)
 exact lE (h _ ⟨(aQ.2 _ (pb I.ne)).trans I.obj,fG,I.ne⟩ aQ)
theorem zj7_ {R:Result->kF->Prop}{vs:List aU}{kw:List (Str×aU)}(X:K.In s.heap)(hm:rS K C=uO)
  (hi:nI K (.ref C) "__init__"=uM (uM (.ref f))) (hf:W.typeIn K (.ref f)=uM (.type "function"))
  (h:codeAny (model prog w) (A.under (.builtin "type.__call__" ⟨.ref C::vs,kw⟩)) (.call (.ref f) ⟨.ref (s.heap.objs.size+1)::vs,kw⟩) (W.InitBack (s.heap.objs.size+1) R)
   {s with heap:=(s.heap.push oz).push (pE C s.heap.objs.size)}):
  codeAny (model prog w) A (.call (.ref C) ⟨vs,kw⟩) R s:=by
 obtain⟨hh,g,d,t,os⟩:=s;exact W.make_core (W.makes_of X hm) (W.looks_findIn X hi) (λself=>W.bind_fn X self hf) (.inl rfl) h
end
noncomputable def putF (f:Str)(v:V):List (Str×V)->List (Str×V)
 |[]=>[(f,v)]
 |(g,x)::r=>if g=f then(g,v)::r else(g,x)::putF f v r
theorem zcl_ (f g:Str)(v:V):∀fs:List (Str×V),(putF f v fs).lookup g=if g=f then uM v else fs.lookup g
 |[]=>by
  show pv g [(f,v)]=_
  by_cases h:g=f
  ·have hb:(g == f)=uO:=beq_iff_eq.mpr h
   simp only[pv,hb,if_pos h]
  ·have hb:(g == f)=uP:=beq_eq_false_iff_ne.mpr h
   simp only[pv,hb,if_neg h]
 |(k,x)::r=>by
  have ih:=zcl_ f g v r;rw[show putF f v ((k,x)::r)=(if k=f then(k,v)::r else(k,x)::putF f v r)from rfl]
  by_cases hk:k=f
  ·rw[if_pos hk]
   by_cases h:g=k
   ·have hb:(g == k)=uO:=beq_iff_eq.mpr h
    simp only[pv,hb,if_pos (h.trans hk)]
   ·have hb:(g == k)=uP:=beq_eq_false_iff_ne.mpr h
    simp only[pv,hb,if_neg (λe:g=f=>h (e.trans hk.symm))]
  ·rw[if_neg hk]
   by_cases h:g=k
   ·have hb:(g == k)=uO:=beq_iff_eq.mpr h
    simp only[pv,hb,if_neg (λe:g=f=>hk (h.symm.trans e))]
   ·have hb:(g == k)=uP:=beq_eq_false_iff_ne.mpr h
    simp only[pv,hb];exact ih
theorem zcZ_ (f:Str)(v:V):∀fs:List (Str×V),f∈(putF f v fs).map (·.1)/\∀g,g∈fs.map (·.1)->g∈(putF f v fs).map (·.1)
 |[]=>⟨by simp[putF],λg h=>by simp at h⟩
 |(k,x)::r=>by
  obtain⟨i1,i2⟩:=zcZ_ f v r;rw[show putF f v ((k,x)::r)=(if k=f then(k,v)::r else(k,x)::putF f v r)from rfl]
  by_cases hk:k=f
  ·rw[if_pos hk]
   subst hk;exact⟨by simp,λg h=>by simpa using h⟩
  ·rw[if_neg hk]
   refine⟨?_,λg h=>?_⟩
   ·rw[kX]
    exact ll _ i1
   ·rw[kX]at h ⊢
    rcases lA.mp h with e |e
    ·exact lA.mpr (.inl e)
    ·exact ll _ (i2 g e)
theorem zce_ (f:Str)(v:V):∀fs:List (Str×V),(putF f v fs).length<=fs.length+1
 |[]=>by simp[putF]
 |(k,x)::r=>by
  have ih:=zce_ f v r;rw[show putF f v ((k,x)::r)=(if k=f then(k,v)::r else(k,x)::putF f v r)from rfl]
  by_cases hk:k=f
  ·rw[if_pos hk,lp,lp];lia
  ·rw[if_neg hk,lp,lp];lia
theorem RelO.some_of {v:V}{o:Option aU}(r:RelO (uM v) o):∃u,o=uM u/\RelV v u:=by
 cases o with
 |none=>exact(show False from r).elim
 |some u=>exact⟨u,rfl,r⟩
theorem zih_ {v:V}{u:aU}(r:RelV v u):W.handedIn u=uO:=by
 cases v with
 |non=>cases(show u=mY from r);rfl
 |bl b=>cases(show u=oA b from r);rfl
 |int i=>obtain⟨t,e⟩:=(show∃t,u=qf i t from r);cases e;rfl
 |str x=>obtain⟨t,e⟩:=(show∃t,u=pq x t from r);cases e;rfl
 |byt b=>obtain⟨t,e⟩:=(show∃t,u=uv b t from r);cases e;rfl
 |flt b=>obtain⟨t,e⟩:=(show∃t,u=so b t from r);cases e;rfl
 |ref a=>cases(show u=mE a from r);rfl
 |ty n=>cases(show u=oO n from r);rfl
section
variable {P:lN}{w:l7}{H:Hp}{h:Heap}{a C dx:kR}{fs:List (Str×V)}
theorem zgN_ (hok:HOk P w H h)(e:H a=uM (.ins C dx fs)):∃mA,ObjM h a dx C mA/\(∀f,RelO (fs.lookup f) (mA f))/\qr mA (fs.map (·.1))/\fs.length<=1000/\H dx=uM (.own a):=by
 obtain⟨d,z,ne,ob,mA,n,r,q⟩:=(show ObjOk P w H h a (.ins C dx fs)from hok a _ e)
 exact⟨mA,⟨ob,n,ne⟩,r,q,z,d⟩
end
structure Cls (K:Fgg)(C:kR):Prop where
 pg:qt K C tH=uO
 hd:p5 K C=uO
 po:qM K C=uO
 sa:nI K (.ref C) "__setattr__"=uM (uM (.builtin "object.__setattr__"))
theorem Cls.get {K:Fgg}{C:kR}(c:Cls K C)(f:Str):qt K C f=uO:=c.pg
def NoAttr (K:Fgg)(C:kR)(f:Str):Prop:=nI K (.ref C) f=uM uN
theorem NoAttr.taker {K:Fgg}{C:kR}{f:Str}(n:NoAttr K C f):tG K C f=uM uN:=by
 unfold tG;rw[show nI K (.ref C) f=uM uN from n]
 rfl
section
variable {X:Cx}{pins:Pnn}{σ:St}{H:Hp}{s:kF}{a C dx:kR}{fs:List (Str×V)}{f:Str}{v:V}{A:l9}{E:aU->kF->Prop}
theorem zfr_ {b:Bool}{Q:aU->kF->Prop}(I:Inv X pins σ H s)(e:H a=uM (.ins C dx fs))(c:Cls X.K C)(n:NoAttr X.K C f)(l:fs.lookup f=uM v)
  (h:∀u s',Inv X pins σ H s'->RelV v u->Q u s'):lJ (model X.prog X.w) A (getAttr (.ref a) f b) Q E s:=by
 obtain⟨mA,O,r,_,_,_⟩:=zgN_ I.hok e;obtain⟨u,hu,ru⟩:=RelO.some_of (v:=v) (o:=mA f) (by rw[<- l];exact r f)
 exact zn5_ I.kIn O (c.get f) c.hd n hu (zih_ ru) (h u _ (I.tok _) ru)
theorem zgw_ {y:V}{u:aU}{Q:Unit->kF->Prop}(I:Inv X pins σ H s)(e:H a=uM (.ins C dx fs))(c:Cls X.K C)(n:NoAttr X.K C f)(hl:fs.length<1000)(ry:RelV y u)
  (h:∀s',Inv X pins σ (upd H a (.ins C dx (putF f y fs))) s'->Q () s'):lJ (model X.prog X.w) A (setAttr (.ref a) f u) Q E s:=by
 obtain⟨mA,O,r,wi,_,ho⟩:=zgN_ I.hok e;have hz:(fs.map (·.1)).length<=lg:=by rw[kE,sizeLine_eq];lia
 refine zmG_ I.kIn O c.sa c.po n.taker c.hd wi hz λh' O' sb=>h _ ?_
 have hd:∃o,h'.get? dx=uM o:=let⟨o,_,_,e',_⟩:=O'.ns;⟨o,e'⟩
 refine I.write (x:=a) (e:=dx) (by rw[e];exact mP) (.inr ho) (λb q hb z=>(sb.2 b hb).trans z) hd ?_
 refine⟨by rw[zc_ O.ne];exact ho,?_,O.ne,O'.obj,_,O'.ns,λg=>?_,λg hg=>?_⟩
 ·have:=zce_ f y fs;lia
 ·show RelO ((putF f y fs).lookup g) (if g=f then uM u else mA g)
  rw[zcl_];by_cases q:g=f
  ·rw[if_pos q,if_pos q];exact ry
  ·rw[if_neg q,if_neg q];exact r g
 ·by_cases q:g=f
  ·rw[q];exact(zcZ_ f y fs).1
  ·refine(zcZ_ f y fs).2 g (wi g λz=>hg ?_)
   show(if g=f then uM u else mA g)=uN
   rw[if_neg q];exact z
theorem Inv.made (I:Inv X pins σ H s):Inv X pins σ (upd (upd H s.heap.objs.size (.own (s.heap.objs.size+1))) (s.heap.objs.size+1) (.ins C s.heap.objs.size []))
  {s with heap:=(s.heap.push oz).push (pE C s.heap.objs.size)}:=by
 have e1:(s.heap.push oz).get? s.heap.objs.size=uM oz:=lG s.heap rfl;have e2:((s.heap.push oz).push (pE C s.heap.objs.size)).get? (s.heap.objs.size+1)=uM (pE C s.heap.objs.size):=by
  have:=lG (s.heap.push oz) (o:=pE C s.heap.objs.size) rfl;rwa[qN]at this
 have e3:(s.heap.push oz).Ns s.heap.objs.size (λ_=>uN):=⟨oz,#[],_,e1,rfl,(λe he=>absurd he (by simp)),λ_=>rfl⟩
 have I1:=I.laid (a:=s.heap.objs.size) (o:=.own (s.heap.objs.size+1)) (h':=s.heap.push oz) (t':=s.toks) (λb u q=>kH _ q) (kP _) ⟨_,e1⟩
 refine I1.laid (a:=s.heap.objs.size+1) (o:=.ins C s.heap.objs.size []) (t':=s.toks) (λb u q=>kH _ q) (qv (qN _ _)) ?_
 have ne:s.heap.objs.size≠s.heap.objs.size+1:=lI (pF _);refine⟨by rw[zc_ ne,ze_],me _,ne,e2,λ_=>uN,(Heap.Ns1.of_empty e3).at λo q=>kH _ q,λ_=>mP,λy hy=>absurd rfl hy⟩
theorem zmv_ {prog:lN}{w:l7}{env:Env}{e:lq}{f:Str}{pos:Pos}{s:kF}{Q:aU->kF->Prop}(hb:attributeBase e f env (eval e env)=eval e env)
  (h:lJ (model prog w) A (eval e env) (λo ab=>lJ (model prog w) A (getAttr o f uO) Q E ab) E s):lJ (model prog w) A (eval (.Attribute e f pos) env) Q E s:=
 Attribute_any_ h (by rw[arm_eval_Attribute,hb])
end
section
variable {X:Cx}{pins:Pnn}{σ:St}{H:Hp}{s:kF}{A:l9}{E Q:aU->kF->Prop}{c:aU}{b:Bool}
inductive TyOf (K:Fgg) (H:Hp):V->aU->Prop where
 |non:TyOf K H .non (.type "NoneType")
 |bl (x:Bool):TyOf K H (.bl x) (.type "bool")
 |int (i:Int):TyOf K H (.int i) (.type "int")
 |str (x:Str):TyOf K H (.str x) (.type "str")
 |flt (x:UInt64):TyOf K H (.flt x) (.type "float")
 |lst {a:kR}{xs:List V}(e:H a=uM (.lst xs)):TyOf K H (.ref a) (.type "list")
 |frz {a:kR}{o:tF}{xs:List V}(e:H a=uM (.frz o (.lst xs))):TyOf K H (.ref a) (.type "list")
 |tup {a:kR}{xs:List V}(e:H a=uM (.tup xs)):TyOf K H (.ref a) (.type "tuple")
 |dK {a:kR}{kvs:List (Key×V)}(e:H a=uM (.dK kvs)):TyOf K H (.ref a) (.type "dict")
 |dT {a:kR}{kvs:List (List Key×V)}(e:H a=uM (.dT kvs)):TyOf K H (.ref a) (.type "dict")
 | ins {a C dx:kR}{fs:List (Str×V)}(e:H a=uM (.ins C dx fs)) (cl:Cls K C) (ha:nI K (.ref C) "__class__"=uM (uM (.builtin "object.__class__")))
   (hn:sx K (.builtin "object.__class__") "__get__"=uM (uM (.builtin "getset_descriptor.__get__"))) (iz:W.takesIn K (.builtin "object.__class__")=uM uO)
   (hm:W.mroIn K C (.type "object")=uM uO):TyOf K H (.ref a) (.ref C)
theorem ziq_ {x:V}{u t:aU}(I:Inv X pins σ H s)(rx:RelV x u)(ty:TyOf X.K H x t)(e:ux X.K t c=uM b)(h:∀tk,Q (.bool b) {s with toks:=tk}):
  lJ (model X.prog X.w) A (call (.builtin "isinstance") [u,c]) Q E s:=by
 cases ty with
 |non=>cases(show u=mY from rx);exact oI W.kitx_none I.kIn mP e (λz=>nomatch z) h
 |bl y=>cases(show u=oA y from rx);exact oI W.kitx_bool I.kIn mP e (λz=>nomatch z) h
 |int i=>obtain⟨t,q⟩:=(show∃t,u=qf i t from rx);cases q;exact oI W.kitx_int I.kIn mP e (λz=>nomatch z) h
 |str y=>obtain⟨t,q⟩:=(show∃t,u=pq y t from rx);cases q;exact oI W.kitx_str I.kIn mP e (λz=>nomatch z) h
 |flt y=>obtain⟨t,q⟩:=(show∃t,u=so y t from rx);cases q;exact oI W.kitx_float I.kIn mP e (λz=>nomatch z) h
 | @lst a xs ea=>
  cases(show u=mE a from rx)
  obtain⟨_,_,n,_,h1⟩:=(show ObjOk X.prog X.w H s.heap a (.lst xs)from I.hok a _ ea)
  exact oI W.kitx_list I.kIn ⟨_,h1,rfl⟩ e (λz=>nomatch z) h
 | @frz a ob xs ea=>
  cases(show u=mE a from rx)
  obtain⟨_,_,_,n,_,h1⟩:=(show ObjOk X.prog X.w H s.heap a (.frz ob (.lst xs))from I.hok a _ ea)
  exact oI W.kitx_list I.kIn ⟨_,h1,rfl⟩ e (λz=>nomatch z) h
 | @tup a xs ea=>
  cases(show u=mE a from rx)
  obtain⟨_,_,_,p⟩:=(show ObjOk X.prog X.w H s.heap a (.tup xs)from I.hok a _ ea)
  obtain⟨o,h1,h2,_⟩:=p;exact oI W.kitx_tuple I.kIn ⟨o,h1,h2⟩ e (λz=>nomatch z) h
 | @dK a kvs ea=>
  cases(show u=mE a from rx)
  obtain⟨_,_,vs,_,p⟩:=(show ObjOk X.prog X.w H s.heap a (.dK kvs)from I.hok a _ ea)
  obtain⟨o,es,ep,h1,h2,_⟩:=p;exact oI W.kitx_dict I.kIn ⟨o,h1,h2.1⟩ e (λz=>nomatch z) h
 | @dT a kvs ea=>
  cases(show u=mE a from rx)
  obtain⟨_,_,xs,_,o,es,ep,h1,h2,_⟩:=(show ObjOk X.prog X.w H s.heap a (.dT kvs)from I.hok a _ ea)
  exact oI W.kitx_dict I.kIn ⟨o,h1,h2.1⟩ e (λz=>nomatch z) h
 | @ins a C dx fs ea cl ha hn iz hm=>
  cases(show u=mE a from rx)
  obtain⟨mA,O,_⟩:=zgN_ I.hok ea;obtain⟨od,J,_⟩:=O.look;exact oI (W.kitx_own (cl.get _) cl.hd ha hn iz hm) I.kIn J e (λz=>nomatch z) h
end
structure Room (k:Nat)(A:l9):Prop where
 hd:A.handled=uN
 dp:A.depth+3*k+5<recursionLimit
 un:A.units+16*k+200<cLine
theorem Room.mono {j k:Nat}{A:l9}(r:Room k A)(h:j<=k):Room j A:=⟨r.hd,by have:=r.dp;lia,by have:=r.un;lia⟩
theorem Room.deeper {k:Nat}{A:l9}(r:Room (k+1) A)(env:Env):Room k (A.deeper env):=
 ⟨r.hd,by have:=r.dp;show A.depth+1+3*k+5<_;lia,by have:=r.un;show A.units+3+16*k+200<_;lia⟩
theorem zgH_ {A:l9}{C:kR}{us:List aU}{kw:List (Str×aU)}:(A.under (.builtin "type.__call__" ⟨.ref C::us,kw⟩)).depth=A.depth+1:=by
 first |rfl |simp[Around.under,Code.weight,Code.isCreation,Code.isGuard,Code.isCaller,Code.frames,Code.isFrame,guardIds]
theorem zgh_ {A:l9}{C:kR}{us:List aU}{kw:List (Str×aU)}:(A.under (.builtin "type.__call__" ⟨.ref C::us,kw⟩)).units=A.units+1:=by
 first |rfl |simp[Around.under,Code.cUnits,Code.frames,Code.isFrame]
theorem Room.make {k:Nat}{A:l9}(r:Room (k+1) A)(C:kR)(us:List aU)(kw:List (Str×aU)):Room k (A.under (.builtin "type.__call__" ⟨.ref C::us,kw⟩)):=
 ⟨r.hd,by have:=r.dp;rw[zgH_];lia,by have:=r.un;rw[zgh_];lia⟩
theorem Room.depth {k:Nat}{A:l9}(r:Room k A):A.depth<recursionLimit:=by have:=r.dp;lia
def tNil:TA:=λ_ H Q=>Q [] H
def tCons (ta:TE)(tr:TA):TA:=λσ H Q=>ta σ H λx H1=>tr σ H1 λxs H2=>Q (x::xs) H2
section
variable {X:Cx}{e:lq}{es:List lq}{te:TE}{t:TA}{pos:Pos}
theorem ze4_:PA X [] tNil:=λ_ _ _ _ H Q I h=>Calls.spliced_nil ⟨[],H,I,.nil,h⟩
theorem zbv_ (ha:PE X e te)(hr:PA X es t)(hs:lQ (e::es) X.env=(uP,eval e X.env)::lQ es X.env:=by rfl):PA X (e::es) (tCons te t):=by
 intro pos pins s σ H Q I h;rw[hs];show lJ _ _ (spliced ((uP,eval e X.env)::oj pos (lQ es X.env))) _ _ s
 refine Calls.spliced_cons (thn (ha pins s σ H _ I h) λu s1 af=>?_)
 obtain⟨x,H1,I1,r1,q1⟩:=af;exact thn (hr pos pins s1 σ H1 _ I1 q1) λus s2 ⟨xs,H2,I2,r2,q2⟩=>⟨x::xs,H2,I2,.cons r1 r2,q2⟩
def tTup (t:TA):TE:=λσ H Q=>t σ H λxs H1=>xs.length<=lg/\∀p,H1 p=uN->Q (.ref p) (upd H1 p (.tup xs))
def tLst (t:TA):TE:=λσ H Q=>t σ H λxs H1=>xs.length<=lg/\∀p,H1 p=uN->Q (.ref p) (upd H1 p (.lst xs))
theorem zpD_ {x1}(h:PA X es t):PE X (.Tuple es x1 pos) (tTup t):=by
 intro pins s σ H Q I hq;refine wpAny_Tuple_spliced (thn (h pos pins s σ H _ I hq) λus s1 ⟨xs,H1,I1,r,z,q⟩=>⟨by rw[<- r.length];exact z,?_⟩)
 have hf:H1 s1.heap.objs.size=uN:=I1.hok.fresh (kP _);refine⟨.ref s1.heap.objs.size,upd H1 s1.heap.objs.size (.tup xs),I1.laid (t':=s1.toks) (λb u e=>kH _ e) (kP _) ?_,rfl,q _ hf⟩
 exact⟨z,us,r,⟨_,lG _ rfl,rfl,_,rfl⟩⟩
theorem zrh_ (h:PA X es t):PE X (.List es pos) (tLst t):=by
 intro pins s σ H Q I hq;refine wpAny_List_spliced (thn (h pos pins s σ H _ I hq) λus s1 ⟨xs,H1,I1,r,z,q⟩=>⟨by rw[<- r.length];exact z,?_⟩)
 have hf:H1 s1.heap.objs.size=uN:=I1.hok.fresh (kP _);refine⟨.ref s1.heap.objs.size,upd H1 s1.heap.objs.size (.lst xs),I1.laid (t':=s1.toks) (λb u e=>kH _ e) (kP _) ?_,rfl,q _ hf⟩
 exact⟨z,us,0,r,lG _ rfl⟩
end
abbrev Sp:=List V->Hp->VK->XK->Prop
abbrev CXT:=List Env->Hp->kF->XK->aU->kF->Prop
structure Env0 (P:lN)(w:l7)(K:Fgg)(mg:Str->Option aU)(base:Heap)(A:l9)(outer:List Env)(s:kF)(H:Hp):Prop where
 frames:A.frames=uM outer
 mod:Mod K mg base
 bs:∀b o,base.get? b=uM o->s.heap.get? b=uM o/\H b=uN
 bsz:base.objs.size<=s.heap.objs.size
 funs:s.heap.FunFrames base outer
 frf:∀b∈frs outer,H b=uN
 hok:HOk P w H s.heap
 bare:AllBare s.gens
 tb:Tb K H
def CE (outer:List Env)(P:lN)(w:l7)(H:Hp)(s:kF)(Q:VK)(u:aU)(s':kF):Prop:=
 ∃v H',s'.os=s.os/\AllBare s'.gens/\Un (frs outer) [] H H' s.heap s'.heap/\HOk P w H' s'.heap/\RelV v u/\Q v H'
def CR (CX:CXT)(outer:List Env)(P:lN)(w:l7)(H:Hp)(s:kF)(Q:VK)(E:XK)(r:Result)(s':kF):Prop:=
 match r with
 |.ok (.ret u)=>CE outer P w H s Q u s'
 |.ok _=>False
 |.error e=>CX outer H s E e s'
structure FnOk (P:lN)(w:l7)(K:Fgg)(mg:Str->Option aU)(base:Heap)(CX:CXT)(k:Nat)(f:kR)(fd:mH)(ps:List Str)(sp:Sp):Prop where
 len:∀vs H Q E,sp vs H Q E->vs.length=ps.length
 run:∀(A:l9) (outer:List Env) (s:kF) (H:Hp) (args:Args) (us:List aU) (vs:List V) (Q:VK) (E:XK),Room k A->Env0 P w K mg base A outer s H->BindsTo s fd args (ps.zip us)->Vals vs us->sp vs H Q E ->
  codeAny (model P w) A (.call (.ref f) args) (CR CX outer P w H s Q E) s
theorem Env0.make {P:lN}{w:l7}{K:Fgg}{mg:Str->Option aU}{base:Heap}{A:l9}{outer:List Env}{s:kF}{H:Hp}(e:Env0 P w K mg base A outer s H)(C:kR)(us:List aU)(kw:List (Str×aU)):
  Env0 P w K mg base (A.under (.builtin "type.__call__" ⟨.ref C::us,kw⟩)) outer s H:=⟨by first |exact e.frames |(simpa [Around.under,Code.envs,Code.isFrame,pushEnvs]using e.frames),e.mod,e.bs,e.bsz,e.funs,e.frf,e.hok,e.bare,e.tb⟩
section
variable {X:Cx}{pins:Pnn}{σ:St}{H:Hp}{s s':kF}
theorem Inv.env0 (I:Inv X pins σ H s):Env0 X.prog X.w X.K X.mg X.base X.A X.stack s H:=
 ⟨I.ok.frames,I.ok.mod,I.bs,mN I.ok.bsz I.sz,I.stack,I.stkFree,I.hok,I.bare,I.tb⟩
theorem Inv.after {Q:VK}{u:aU}(I:Inv X pins σ H s)(h:CE X.stack X.prog X.w H s Q u s'):EP X pins σ Q u s':=by
 obtain⟨v,H',os,bare,un,hok,r,q⟩:=h;obtain⟨hh,g,d,t,aM⟩:=s';obtain rfl:aM=s.os:=os;exact⟨v,H',I.call (h':=hh) (g':=g) (d':=d) (t':=t) (ch:=[]) un hok bare (λb z=>absurd z (by simp)),r,q⟩
end
def tCall (sp:Sp)(av:List V)(E:XK)(t:TA):TE:=λσ H Q=>t σ H λvs H1=>sp (vs++av) H1 Q E
def tMake (C:kR)(sp:Sp)(av:List V)(E:XK)(t:TA):TE:=λσ H Q=>t σ H λvs H1=>∀x dx,H1 x=uN->H1 dx=uN->dx≠x ->
 sp (.ref x::(vs++av)) (upd (upd H1 dx (.own x)) x (.ins C dx [])) (λv H2=>v=.non/\Q (.ref x) H2) E
def Binds (K:Fgg)(fd:mH)(ps:List Str)(ds:List aU):Prop:=
 ∀(s:kF) (us:List aU),K.In s.heap->(us++ds).length=ps.length->BindsTo s fd ⟨us,[]⟩ (ps.zip (us++ds))
theorem Binds.all {K:Fgg}{fd:mH}{ps:List Str}(h:∀us:List aU,us.length=ps.length->bindArgs fd ⟨us,[]⟩=pure (ps.zip us)):Binds K fd ps []:=λs us _ hl=>by
 rw[nU]at hl ⊢;exact .of_eq (h us hl)
def Passes (CX:CXT)(X:Cx)(E:XK):Prop:=∀(pins:Pnn) (σ:St) (H:Hp) (s:kF) (e:aU) (s':kF),Inv X pins σ H s->CX X.stack H s E e s'->X.xe e s'
section
variable {X:Cx}{CX:CXT}{k:Nat}{f C:kR}{fd:mH}{ps:List Str}{sp:Sp}{av:List V}{ds:List aU}{E:XK}{x:Str}{p pos:Pos}{e:lq}{es:List lq}{t:TA}
theorem zmO_ {pins:Pnn}{σ:St}{H:Hp}{s:kF}{Q:VK}{us:List aU}{vs:List V}(F:FnOk X.prog X.w X.K X.mg X.base CX k f fd ps sp)(hr:Room k X.A)(hb:Binds X.K fd ps ds)(hd:Vals av ds)(hx:Passes CX X E)
  (I:Inv X pins σ H s) (r:Vals vs us) (h:sp (vs++av) H Q E):lJ (model X.prog X.w) X.A (call (.ref f) us) (EP X pins σ Q) X.xe s:=by
 have r2:Vals (vs++av) (us++ds):=r.append hd;have hl:(us++ds).length=ps.length:=by rw[<- r2.length];exact F.len _ _ _ _ h
 refine wpAny_call (codeAny_mono (F.run X.A X.stack s H ⟨us,[]⟩ (us++ds) (vs++av) Q E hr I.env0 (hb s us I.kIn hl) r2 h) λr s' hq=>?_)
 cases r with
 |error e=>exact hx pins σ H s e s' I hq
 |ok fl=>
  cases fl with
  |ret u=>exact I.after hq
  |next=>exact lU hq
  |brk=>exact lU hq
  |cont=>exact lU hq
theorem znN_ (F:FnOk X.prog X.w X.K X.mg X.base CX k f fd ps sp)(hr:Room k X.A)(hg:Gl X x)(hm:X.mg x=uM (.ref f))(hk:ox X.K (.ref f)=uO)(hb:Binds X.K fd ps ds)(hd:Vals av ds)(hx:Passes CX X E)
  (ha:PA X (e::es) t) (aZ:(x==("__debug__":Str))=uP:=by decide) (he:lQ (e::es) X.env=(uP,eval e X.env)::lQ es X.env:=by rfl) (aT:(oj pos (lQ es X.env)).any (·.1)=uP:=by rfl):
  PE X (.Call (.Name x p) (e::es) [] pos) (tCall sp av E t):=by
 intro pins s σ H Q I h;refine nJ (zex_ I hg hm ?_ aZ);refine tN (h₀:=X.base) I.ok.mod.kin hk (thn (ha pos pins s σ H _ I h) λus s1 ⟨vs,H1,I1,r,q⟩=>⟨I1.kIn,?_⟩) he aT
 exact zmO_ F hr hb hd hx I1 r q
theorem zlb_ (F:FnOk X.prog X.w X.K X.mg X.base CX k f fd ps sp)(hr:Room k X.A)(hg:Gl X x)(hm:X.mg x=uM (.ref f))(hk:ox X.K (.ref f)=uO)(hb:Binds X.K fd ps ds)(hd:Vals av ds)(hx:Passes CX X E)
  (aZ:(x==("__debug__":Str))=uP:=by decide):PE X (.Call (.Name x p) [] [] pos) (tCall sp av E tNil):=by
 intro pins s σ H Q I h;refine nJ (zex_ I hg hm ?_ aZ);exact W.callWith_K0 I.kIn hk (zmO_ (us:=[]) F hr hb hd hx I .nil h)
structure Mk (K:Fgg)(C f:kR):Prop where
 makes:rS K C=uO
 init:nI K (.ref C) "__init__"=uM (uM (.ref f))
 fn:tO K (.ref f)=uO
 kp:ox K (.ref C)=uO
theorem zkA_ {pins:Pnn}{σ:St}{H:Hp}{s:kF}{Q:VK}{us:List aU}{vs:List V}(M:Mk X.K C f)(F:FnOk X.prog X.w X.K X.mg X.base CX k f fd ps sp)(hr:Room (k+1) X.A)(hb:Binds X.K fd ps ds)(hd:Vals av ds)
  (hx:Passes CX X E) (I:Inv X pins σ H s) (r:Vals vs us)
  (h:∀x dx,H x=uN->H dx=uN->dx≠x->sp (.ref x::(vs++av)) (upd (upd H dx (.own x)) x (.ins C dx [])) (λv H2=>v=.non/\Q (.ref x) H2) E):
  lJ (model X.prog X.w) X.A (call (.ref C) us) (EP X pins σ Q) X.xe s:=by
 have hq:=h (s.heap.objs.size+1) s.heap.objs.size (I.hok.fresh (nj _)) (I.hok.fresh (kP _)) (lI (pF _));have I2:=Inv.made (C:=C) I;have r2:Vals (V.ref (s.heap.objs.size+1)::(vs++av)) (mE (s.heap.objs.size+1)::(us++ds)):=.cons rfl (r.append hd);have hl:(mE (s.heap.objs.size+1)::us++ds).length=ps.length:=by
  have e:=r2.length;rw[F.len _ _ _ _ hq]at e;exact e.symm
 refine wpAny_call (zj7_ (f:=f) I.kIn M.makes M.init (beq_iff_eq.mp M.fn) (codeAny_mono (F.run _ X.stack _ _ ⟨mE (s.heap.objs.size+1)::us,[]⟩ (mE (s.heap.objs.size+1)::(us++ds)) _ _ E (hr.make C us [])
  (I2.env0.make C us []) (hb _ (mE (s.heap.objs.size+1)::us) I2.kIn hl) r2 hq) λr s' d9=>?_))
 cases r with
 |error e=>exact hx pins σ _ _ e s' I2 d9
 |ok fl=>
  cases fl with
  |ret u=>
   obtain⟨v,H',I3,rv,ev,q3⟩:=I2.after d9;subst ev;exact⟨rv,⟨V.ref (s.heap.objs.size+1),H',I3,rfl,q3⟩⟩
  |next=>exact lU d9
  |brk=>exact lU d9
  |cont=>exact lU d9
theorem znZ_ (M:Mk X.K C f)(F:FnOk X.prog X.w X.K X.mg X.base CX k f fd ps sp)(hr:Room (k+1) X.A)(hg:Gl X x)(hm:X.mg x=uM (.ref C))(hb:Binds X.K fd ps ds)(hd:Vals av ds)(hx:Passes CX X E)
  (ha:PA X (e::es) t) (aZ:(x==("__debug__":Str))=uP:=by decide) (he:lQ (e::es) X.env=(uP,eval e X.env)::lQ es X.env:=by rfl) (aT:(oj pos (lQ es X.env)).any (·.1)=uP:=by rfl):
  PE X (.Call (.Name x p) (e::es) [] pos) (tMake C sp av E t):=by
 intro pins s σ H Q I h;refine nJ (zex_ I hg hm ?_ aZ);refine tN (h₀:=X.base) I.ok.mod.kin M.kp (thn (ha pos pins s σ H _ I h) λus s1 ⟨vs,H1,I1,r,q⟩=>⟨I1.kIn,?_⟩) he aT
 exact zkA_ M F hr hb hd hx I1 r q
end
structure FnScope (N P:List Str)(sc:Scope):Prop where
 kind:sc.kind=.function
 co:sc.isCoroutine=uP
 gen:sc.isGenerator=uP
 nd:N.Nodup
 pre:N.take P.length=P
 par:∀x∈P,sc.names.lookup x=uM .local\/sc.names.lookup x=uM .cell
 nofree:∀y∈sc.names,y.2≠.free
theorem zeY_ {kindOf:Str->Option nL}{x:Str}:∀{binds:List (Str×aU)}{m:Str->Option aU},(∀v,(x,v)∉binds)->bindL kindOf binds m x=m x
 |[],_,_=>rfl
 |(n,v)::r,m,h=>by
  unfold bindL;rw[zeY_ λw hw=>h w (ll _ hw)]
  split
  ·have:x≠n:=by rintro rfl;exact h v lj
   simp[this]
  ·rfl
theorem zeP_ {kindOf:Str->Option nL}{x:Str}:∀{binds:List (Str×aU)}{m:Str->Option aU},(∀v,(x,v)∉binds)->bindC kindOf binds m x=m x
 |[],_,_=>rfl
 |(n,v)::r,m,h=>by
  unfold bindC;rw[zeP_ λw hw=>h w (ll _ hw)]
  split
  ·rfl
  ·have:x≠n:=by rintro rfl;exact h v lj
   simp[this]
theorem zeL_ {kindOf:Str->Option nL}{x:Str}{v:aU}:∀{P:List Str}{vs:List aU}{i:Nat}{m:Str->Option aU},P.Nodup->P[i]?=uM x->vs[i]?=uM v->kindOf x=uM .local ->
  bindL kindOf (P.zip vs) m x=uM v
 |[],_,_,_,_,h,_,_=>by simp at h
 |_::_,[],_,_,_,_,h,_=>by simp at h
 |p::P,w::vs,0,m,nd,h1,h2,hk=>by
  simp at h1 h2;subst h1;subst h2;show bindL kindOf ((p,w)::P.zip vs) m p=_
  unfold bindL;rw[zeY_ λv hv=>(nW.mp nd).1 (nX hv).1,if_pos hk]
  simp
 |p::P,w::vs,i+1,m,nd,h1,h2,hk=>by
  show bindL kindOf ((p,w)::P.zip vs) m x=_
  unfold bindL;exact zeL_ (i:=i) (nW.mp nd).2 (by simpa using h1) (by simpa using h2) hk
theorem zeE_ {kindOf:Str->Option nL}{x:Str}{v:aU}:∀{P:List Str}{vs:List aU}{i:Nat}{m:Str->Option aU},P.Nodup->P[i]?=uM x->vs[i]?=uM v->kindOf x≠uM .local ->
  bindC kindOf (P.zip vs) m x=uM v
 |[],_,_,_,_,h,_,_=>by simp at h
 |_::_,[],_,_,_,_,h,_=>by simp at h
 |p::P,w::vs,0,m,nd,h1,h2,hk=>by
  simp at h1 h2;subst h1;subst h2;show bindC kindOf ((p,w)::P.zip vs) m p=_
  unfold bindC;rw[zeP_ λv hv=>(nW.mp nd).1 (nX hv).1,if_neg hk]
  simp
 |p::P,w::vs,i+1,m,nd,h1,h2,hk=>by
  show bindC kindOf ((p,w)::P.zip vs) m x=_
  unfold bindC;exact zeE_ (i:=i) (nW.mp nd).2 (by simpa using h1) (by simpa using h2) hk
def start (N:List Str)(vs:List V):St:=vs.map uM++lu (N.length-vs.length) uN
def cxOf (CX:CXT)(P:lN)(w:l7)(K:Fgg)(mg:Str->Option aU)(base:Heap)(N:List Str)(qual:Str)(scope:Scope)(f:kR)(cd:aU)(A:l9)(outer:List Env)(s:kF)(H:Hp)(E:XK):Cx where
 prog:=P
 w:=w
 K:=K
 mg:=mg
 base:=base
 A:=A.deeper (envOfC qual scope s.heap.objs.size f cd)
 N:=N
 s₀:=s
 H₀:=H
 env:=envOfC qual scope s.heap.objs.size f cd
 outer:=outer
 stack:=envOfC qual scope s.heap.objs.size f cd::outer
 ex:=[]
 calm:=uO
 fn:=λ_=>uO
 pn:=[]
 xe:=λe s'=>lJ (model P w) (A.deeper (envOfC qual scope s.heap.objs.size f cd)) (leaving (envOfC qual scope s.heap.objs.size f cd) e) (λ_ cq=>CX outer H s E e cq) (λe' cq=>CX outer H s E e' cq) s'
theorem zdY_ {sc:Scope}{n:Nat}{x:Str}(h:sc.names.lookup x=uM .cell):∃c,(cellsFrom n sc.names []).lookup x=uM c:=by
 have q:=rT sc.names n [] (.inl h);exact qc.mp q
theorem zhr_ {CX:CXT}{P:lN}{w:l7}{K:Fgg}{mg:Str->Option aU}{base:Heap}{N ps:List Str}{qual:Str}{scope:Scope}{f:kR}{cd:aU}{A:l9}{outer:List Env}{s s1:kF}{H:Hp}{E:XK}{us:List aU}{vs:List V}
  (S:FnScope N ps scope) (hd:A.handled=uN) (e0:Env0 P w K mg base A outer s H) (hl:vs.length=ps.length) (r:Vals vs us)
  (x:InCallC s s.heap.objs.size (bindL (envOfC qual scope s.heap.objs.size f cd).kindOf (ps.zip us) λ_=>uN) (cellsFrom (s.heap.objs.size+1) scope.names []) (bindC (envOfC qual scope s.heap.objs.size f cd).kindOf (ps.zip us) λ_=>uN) s1):
  Inv (cxOf CX P w K mg base N qual scope f cd A outer s H E) [] (start N vs) H s1:=by
 have aT:ps.length<=N.length:=by have:=congrArg qO S.pre;rw[mC]at this;lia
 obtain⟨h1,tk,rfl,hk⟩:=x.done;have cu:∀b:kR,b∉(cxOf CX P w K mg base N qual scope f cd A outer s H E).ex:=λb z=>absurd (show b∈([]:List kR)from z) (by simp)
 refine⟨⟨e0.mod,S.kind,rfl,rfl,kP _,λy z c h1 h2=>?_,λy hy=>?_,λy c _ h=>?_,λ_=>hd,Around.frames_deeper e0.frames,.inr ⟨rfl,rfl⟩,λb z=>absurd z (cu b),e0.bs,e0.bsz,λb _ _=>cu b,λb z=>absurd z (cu b),e0.funs,e0.frf,e0.tb⟩,
  rfl,e0.bare,Un.kept hk,⟨_,x.toInCall.ns,λi y v h1 h2 h3=>?_⟩,λy c h=>⟨_,x.cell y c h⟩,e0.hok.fresh (kP _),λy c h=>?_,λp hp=>absurd (show p∈([]:Pnn)from hp) (by simp),e0.hok.kept hk,?_⟩
 ·exact name_of_addr x.apart (mi h1) (mi h2)
 ·have hy:scope.names.lookup y=uM .cell\/scope.names.lookup y=uM .free:=hy
  rcases hy with hy |hy
  ·exact zdY_ hy
  ·exact absurd rfl (S.nofree _ (mi hy))
 ·exact oB (x.above y c (mi h))
 ·have hi:i<vs.length:=by
   unfold start at h2;by_cases hi:i<vs.length
   ·exact hi
   ·rw[mD (by simpa using hi)]at h2
    rw[List.getElem?_replicate]at h2;split at h2<;>cases h2
  have ha:vs[i]?=uM v:=by
   unfold start at h2;rw[mF (by simpa using hi),kZ]at h2
   cases e:vs[i]? with
   |none=>rw[e]at h2;cases h2
   |some a=>rw[e]at h2;cases h2;rfl
  obtain⟨u,hu,rv⟩:=r.get ha;have hp:ps[i]?=uM y:=by
   rw[<- S.pre,List.getElem?_take_of_lt (by lia)];exact h1
  have ip:ps.Nodup:=by rw[<- S.pre];exact S.nd.sublist (List.take_sublist _ _)
  refine⟨u,rv,?_⟩;rcases S.par y (mU hp)with k |k
  ·exact .inl ⟨k,zeL_ ip hp hu k⟩
  ·obtain⟨c,e⟩:=zdY_ (n:=s.heap.objs.size+1) k
   refine .inr ⟨.inl k,c,e,?_⟩;have q:=x.cell y c e;rw[zeE_ ip hp hu (by show scope.names.lookup y≠_;rw[k];decide)]at q
   exact q
 ·exact e0.hok.fresh (oB (x.above y c (mi h)))
 ·unfold start
  show _=N.length
  rw[lC,kE,qI];lia
theorem zp3_ {CX:CXT}{P:lN}{w:l7}{K:Fgg}{mg:Str->Option aU}{base:Heap}{k:Nat}{f:kR}{name qual:Str}{params:Arguments}{body:List l8}{scope:Scope}{dV kV doc pm ae ct oc:aU}{an od:Option kR}
  {aq:Array (Option aU)}{N ps:List Str}{sp:Sp}(lk:K.lookup f=uM ⟨oc,od,.func (W.fnOf name qual params body scope dV kV doc pm an ae ct),aq⟩) (au:pJ K ae qual=uO) (S:FnScope N ps scope)
  (len:∀vs H Q E,sp vs H Q E->vs.length=ps.length)
  (eO:∀(A:l9) (outer:List Env) (s:kF) (H:Hp) (vs:List V) (Q:VK) (E:XK),Room k (A.deeper (envOfC qual scope s.heap.objs.size f ae))->sp vs H Q E ->
   ∃t,PSs (cxOf CX P w K mg base N qual scope f ae A outer s H E) body t/\t {nx:=λ_ H'=>Q .non H',rt:=Q} (start N vs) H):
  FnOk P w K mg base CX (k+1) f (W.fnOf name qual params body scope dV kV doc pm an ae ct) ps sp:=by
 refine⟨len,λA outer s H args us vs Q E hr e0 hb r dG=>?_⟩
 have hl:=len _ _ _ _ dG;have KX:K.In s.heap:=e0.mod.kin.keeps λb o e=>(e0.bs b o e).1
 have lim:s.heap.NoLimit:=e0.mod.nolimit.keeps λb o e=>(e0.bs b o e).1
 have eB:∀y∈ps.zip us,scope.names.lookup y.1=uM .local\/(scope.names.lookup y.1=uM .cell/\((cellsFrom (s.heap.objs.size+1) scope.names []).lookup y.1).isSome=uO):=λ⟨n,v⟩ hy=>by
  rcases S.par n (nX hy).1 with q |q
  ·exact .inl q
  ·exact .inr ⟨q,rT _ _ _ (.inl q)⟩
 refine codeAny_call_function hr.depth (KX _ _ lk) rfl S.co S.gen rfl (W.codeRec_of KX au) (hb _ _ _ _ ?_);refine wpAny_newFunctionEnv_cells S.kind eB λenv he s1 x=>?_
 subst he;refine⟨lim.keeps x.toInCall.keep,codeAny_func ?_⟩;obtain⟨t,ht,hq⟩:=eO A outer s H vs Q E (hr.deeper _) dG;have I:Inv (cxOf CX P w K mg base N qual scope f ae A outer s H E) [] (start N vs) H s1:=zhr_ S hr.hd e0 hl r x;refine mM (ht [] s1 (start N vs) H _ I hq) (λfl s' hs=>?_) λe s' hs=>hs
 have fin:∀{ai:St}{H':Hp}{v:V}{u:aU},Inv (cxOf CX P w K mg base N qual scope f ae A outer s H E) [] ai H' s'->RelV v u->Q v H'->CE outer P w H s Q u s':=
  λ{ai H' v u} J rv q=>⟨v,H',J.os,J.bare,J.base,J.hok,rv,q⟩
 cases fl with
 |ret u=>
  obtain⟨v,ai,H',J,rv,q⟩:=hs;exact fin J rv q
 |next=>
  obtain⟨ai,H',J,q⟩:=hs;exact fin (v:=V.non) (u:=mY) J rfl q
 |brk=>
  obtain⟨_,_,_,q⟩:=hs;exact lU q
 |cont=>
  obtain⟨_,_,_,q⟩:=hs;exact lU q
section
variable {X:Cx}{x:Str}{p pos:Pos}{e:lq}{es:List lq}{t:TA}{id T:String}{r:List V->Hp->VK->Prop}
def tCB (r:List V->Hp->VK->Prop)(t:TA):TE:=λσ H Q=>t σ H λvs H1=>r vs H1 Q
theorem zk9_ (hc:CallR X (.builtin id) r)(hg:Gl X x)(hm:X.mg x=uN)(hv:nE x=uM (.builtin id))(ha:PA X (e::es) t)(hn:x ≠ "__name__":=by decide)(aZ:(x==("__debug__":Str))=uP:=by decide)
  (he:lQ (e::es) X.env=(uP,eval e X.env)::lQ es X.env:=by rfl) (aT:(oj pos (lQ es X.env)).any (·.1)=uP:=by rfl):PE X (.Call (.Name x p) (e::es) [] pos) (tCB r t):=by
 intro pins s σ H Q I h;refine nJ (zdq_ I hg hm hv ?_ hn aZ);exact rV (thn (ha pos pins s σ H _ I h) λus s1 ⟨vs,H1,I1,r1,q1⟩=>hc pins s1 σ H1 vs us Q I1 r1 q1) he aT
theorem zhj_ (hc:CallR X (.type T) r)(hg:Gl X x)(hm:X.mg x=uN)(hv:nE x=uM (.type T))(ha:PA X (e::es) t)(hn:x ≠ "__name__":=by decide)(aZ:(x==("__debug__":Str))=uP:=by decide)
  (he:lQ (e::es) X.env=(uP,eval e X.env)::lQ es X.env:=by rfl) (aT:(oj pos (lQ es X.env)).any (·.1)=uP:=by rfl):PE X (.Call (.Name x p) (e::es) [] pos) (tCB r t):=by
 intro pins s σ H Q I h;refine nJ (zdq_ I hg hm hv ?_ hn aZ);exact mV (thn (ha pos pins s σ H _ I h) λus s1 ⟨vs,H1,I1,r1,q1⟩=>hc pins s1 σ H1 vs us Q I1 r1 q1) he aT
end
end L2
namespace HT
open PySem PyProof.Rows
noncomputable def lexLt:List Int->List Int->Bool
 |[],[]=>uP
 |[],_::_=>uO
 |_::_,[]=>uP
 |x::xs,y::ys=>if x=y then lexLt xs ys else decide (x<y)
theorem lexLt_cons (x y:Int)(xs ys:List Int):lexLt (x::xs) (y::ys)=if x=y then lexLt xs ys else decide (x<y):=rfl
theorem eqAt_int (A:l9)(s:kF)(a:Int)(t:Tok)(c:Int)(u:Tok):∃e,rp A s (.int a t) (.int c u) e/\(e=uO↔a=c):=
 ⟨(a == c),rq a t c u,by simp⟩
theorem rcLt_int (A:l9)(s:kF)(a:Int)(t:Tok)(c:Int)(u:Tok)(prog:lN)(w:l7)(E:aU->kF->Prop)(Q:aU->kF->Prop)(h:Q (.bool (decide (a<c))) s):
  lJ (model prog w) A (richCompare .Lt (.int a t) (.int c u)) Q E s:=
 (uD h:lJ (model prog w) A (lF .Lt (.int a t) (.int c u)) Q E s)
section
open PySem.SeqAt
open PySem.AutoSeq1 (wpAny_loadPart')
open PySem.MeetsSeq PySem.MeetsSeq2 PySem.MeetsSeq3
end
section
variable {prog:lN}{w:l7}{A:l9}{E:aU->kF->Prop}{s:kF}
theorem cat_tup {t b:kR}{vs ws:List aU}{Q:aU->kF->Prop}(ht:IsTup s.heap t vs.toArray)(hb:IsTup s.heap b ws.toArray)(hv:vs≠[])
  (h1:ws=[]->Q (.ref t) s) (h2:ws≠[]->Q (.ref s.heap.objs.size) {s with heap:=s.heap.push {cls:=.type "tuple",data:=.seq (vs++ws).toArray}})
  (hsz:vs.length+ws.length<=lg):lJ (model prog w) A (nz .Add (.ref t) (.ref b)) Q E s:=by
 obtain⟨⟨cls,dd,data,sl⟩,ho,hc,n,hd⟩:=id ht;obtain⟨⟨fc,bY,data2,bJ⟩,bx,a7,n2,hd2⟩:=id hb;simp only at hc hd a7 hd2;subst hc hd a7 hd2;have e:vs.toArray++ws.toArray=(vs++ws).toArray:=by simp
 by_cases hw:ws=[]
 ·exact concat_meets ⟨_,ho,rfl⟩ ⟨_,bx,rfl⟩ noFill_tuple_add seq_tuple_add qw qh (qd _ _)
   (tuple_addW1 t b vs.toArray ws.toArray n n2 dd bY sl bJ (by simpa using hv) (by simp[hw])) ⟨ho,bx,h1 hw⟩
 ·refine concat_meets ⟨_,ho,rfl⟩ ⟨_,bx,rfl⟩ noFill_tuple_add seq_tuple_add qw qh (qd _ _)
   (tuple_addW2 t b vs.toArray ws.toArray n n2 dd bY sl bJ (by simpa using hv) (by simpa using hw) (by rw[kQ,kQ];exact hsz)) ⟨ho,bx,?_⟩
  rw[e];exact h2 hw
noncomputable def sIx (n d:Nat):Option Int->Nat
 |none=>d
 |some v=>if v<0 then(v+(n:Int)).toNat else min v.toNat n
theorem sIx_le (n d:Nat)(hd:d<=n)(o:Option Int):sIx n d o<=n:=by
 cases o with
 |none=>exact hd
 |some v=>
  show(if v<0 then(v+(n:Int)).toNat else min v.toNat n)<=n
  by_cases hv:v<0
  ·rw[if_pos hv];lia
  ·rw[if_neg hv];exact Nat.min_le_right _ _
theorem ziD_ (v:Int)(n d:Nat):(if v<0 then max (v+(n:Int)) 0 else min v (n:Int))=((sIx n d (uM v):Nat):Int):=by
 show(if v<0 then max (v+(n:Int)) 0 else min v (n:Int))=(((if v<0 then(v+(n:Int)).toNat else min v.toNat n):Nat):Int)
 by_cases hv:v<0
 ·simp only[if_pos hv];lia
 ·simp only[if_neg hv];lia
theorem zgn_ (lo hi:Option Int)(n:Nat):oW lo hi 1 (n:Int)=(((sIx n 0 lo:Nat):Int),((sIx n n hi:Nat):Int)):=by
 have h1:¬((1:Int)<0):=by lia
 unfold oW;simp only[h1,if_false];refine Prod.ext ?_ ?_
 ·cases lo with
  |none=>rfl
  |some v=>exact ziD_ v n 0
 ·cases hi with
  |none=>rfl
  |some v=>exact ziD_ v n n
theorem zgR_ (i j:Nat):nS (i:Int) (j:Int) 1=j-i:=by
 unfold nS;have h1:(1:Int) > 0:=by lia
 simp only[h1,if_true,Int.ediv_one];split<;>lia
theorem zdc_ {v:aU}{o:Option Int}{Q:Option Int->kF->Prop}(p:IsPart v o)(h:Q o s):lJ (model prog w) A (sD v) Q E s:=by
 cases p with
 |none=>exact slicePart_none h
 |int i t=>exact slicePart_int h
theorem zbP_ {sl:kR}{vl vu:aU}{lo hi:Option Int}{n:Nat}{Q:Int×Int×Nat->kF->Prop}(hs:s.heap.IsSliceOf sl vl vu .none)(pl:IsPart vl lo)(pu:IsPart vu hi)
  (h:Q (((sIx n 0 lo:Nat):Int),1,sIx n n hi-sIx n 0 lo) s):lJ (model prog w) A (pV (.ref sl) (pure (n:Int))) Q E s:=by
 obtain⟨os,hos,b8,cO⟩:=id hs;unfold pV sZ;refine kJ (kJ (sy hos cO (x:=vl) rfl (kJ (sy hos cO (x:=vu) rfl (kJ (sy hos cO (x:=.none) rfl (lE ?_)))))));refine kJ (slicePart_none ?_);show lJ _ _ (if((1:Int) == 0)=uO then _ else _) _ _ s
 rw[if_neg (by decide)]
 refine kJ (zdc_ pl (kJ (zdc_ pu (kJ (lE ?_)))));show lJ _ _ (match oW lo hi 1 (n:Int)with |(lo,hi)=>pure (lo,(1:Int),nS lo hi 1)) _ _ s
 rw[zgn_ lo hi n];show lJ _ _ (pure (((sIx n 0 lo:Nat):Int),(1:Int),nS ((sIx n 0 lo:Nat):Int) ((sIx n n hi:Nat):Int) 1)) _ _ s
 rw[zgR_];exact lE h
theorem zkP_ (xs:Array aU)(i k:Nat):((lK k).filterMap λ(m:Nat)=>xs[((i:Int)+(m:Int)*1).toNat]?).toArray=((xs.toList.drop i).take k).toArray:=by
 have e:(λ(m:Nat)=>xs[((i:Int)+(m:Int)*1).toNat]?)=λm=>xs[i+m]?:=by
  funext m;have:((i:Int)+(m:Int)*1).toNat=i+m:=by lia
  rw[this]
 rw[e];have:=pick_run xs i k;rw[List.filterMap_map]at this;have e2:((λx=>xs[x]?)∘λx=>i+x)=λm=>xs[i+m]?:=rfl
 rw[e2]at this;rw[this]
theorem getItem_tuple_cut {t sl:kR}{items:Array aU}{vl vu:aU}{lo hi:Option Int}{Q:aU->kF->Prop}(ht:IsTup s.heap t items)(hs:s.heap.IsSliceOf sl vl vu .none)(pl:IsPart vl lo)(pu:IsPart vu hi)
  (hw:¬(sIx items.size 0 lo=0/\sIx items.size items.size hi=items.size))
  (h:Q (.ref s.heap.objs.size) {s with heap:=s.heap.push {cls:=.type "tuple",data:=.seq ((items.toList.drop (sIx items.size 0 lo)).take (sIx items.size items.size hi-sIx items.size 0 lo)).toArray}})
  (hsz:items.size<=lg):lJ (model prog w) A (getItem (.ref t) (.ref sl)) Q E s:=by
 have bh:sizeOk (.seq ((items.toList.drop (sIx items.size 0 lo)).take (sIx items.size items.size hi-sIx items.size 0 lo)).toArray):=by
  show((items.toList.drop (sIx items.size 0 lo)).take (sIx items.size items.size hi-sIx items.size 0 lo)).toArray.size<=lg
  rw[kQ,mC,mJ,my];lia
 have hj:sIx items.size items.size hi<=items.size:=sIx_le _ _ (kP _) hi;obtain⟨os,hos,b8,cO⟩:=id hs;have jM:s.TypeIs (.ref sl) "slice":=⟨os,hos,b8⟩;unfold getItem
 try with_reducible refine wpAny_holding ?_
 first |refine kJ (lE ?_)|skip
 refine kJ (wpAny_sequenceKey ht.typeIs (by decide) ?_)
 refine kJ (wpAny_callSpecial?_slot (name:=nG "__getitem__") ht.typeIs ot
  (wpAny_call_entry ot ht.typeIs entry_tuple_getitem ?_ (args_tuple_getitem _ _)))
 show lJ _ _ (sU (.ref t)>>=_) _ _ s
 refine kJ (tupleItemsOf_ ht ?_);refine kJ (wpAny_typeOf jM ?_);rw[if_pos (by decide)]
 refine kJ (zbP_ hs pl pu ?_);have jv:¬((((sIx items.size 0 lo:Nat):Int) == 0 && (1:Int) == 1 && (sIx items.size items.size hi-sIx items.size 0 lo) == items.size)=uO):=by
  intro q;rw[ky,ky]at q;have q1:((sIx items.size 0 lo:Nat):Int)=0:=eq_of_beq q.1.1;have q2:sIx items.size items.size hi-sIx items.size 0 lo=items.size:=eq_of_beq q.2;exact hw ⟨by lia,by lia⟩
 show lJ _ _ (if(((sIx items.size 0 lo:Nat):Int) == 0 && (1:Int) == 1 && (sIx items.size items.size hi-sIx items.size 0 lo) == items.size)=uO then _ else _) _ _ s
 rw[if_neg jv,zkP_]
 first
  |exact kJ (m:=om _) (wpAny_newObj_type (lE ⟨_,rfl,lE h⟩) bh)
  |exact kJ (m:=om _) (wpAny_newObj_type (kJ (lE (lE ⟨_,rfl,lE h⟩))) bh)
  |exact kJ (kJ (m:=om _) (wpAny_newObj_type (lE (lE ⟨_,rfl,lE h⟩)) bh))
  |exact kJ (kJ (m:=om _) (wpAny_newObj_type (lE ⟨_,rfl,lE h⟩) bh))
end
end HT
namespace L2
open PySem PySem.Spec PyProof.Rows
abbrev TO:=St->Hp->(Option Int->Hp->Prop)->Prop
def PO (X:Cx)(e:Option lq)(t:TO):Prop:=
 ∀(pins:Pnn) (s:kF) (σ:St) (H:Hp) (Q:Option Int->Hp->Prop),Inv X pins σ H s->t σ H Q ->
  lJ (model X.prog X.w) X.A (evalPart e X.env) (λu s'=>∃o H',Inv X pins σ H' s'/\IsPart u o/\Q o H') X.xe s
def tNoPart:TO:=λ_ H Q=>Q uN H
theorem zbI_ {ns:List Int}:∀{us:List aU},Vals (ns.map V.int) us->IntsAre us ns:=by
 induction ns with
 |nil=>intro us r;rw[n6]at r;cases r;exact .nil
 |cons n ns ih=>
  intro us r;rw[kX]at r;cases r with
  |cons r1 r2=>
   obtain⟨t,e⟩:=r1;subst e;exact .cons n t (ih r2)
section
variable {X:Cx}{e:lq}{te:TE}{lo hi:Option lq}{tl th:TO}{pos p2:Pos}
theorem zm9_:PO X uN tNoPart:=by
 intro pins s σ H Q I h;rw[evalPart_none];exact lE ⟨uN,H,I,.none,h⟩
def SlR (X:Cx)(r:V->Option Int->Option Int->Hp->VK->Prop):Prop:=
 ∀(pins:Pnn) (s:kF) (σ:St) (H:Hp) (x:V) (v vl vu:aU) (lo hi:Option Int) (sl:kR) (Q:VK),Inv X pins σ H s->RelV x v->s.heap.IsSliceOf sl vl vu .none->IsPart vl lo->IsPart vu hi->r x lo hi H Q ->
  ∃T id,typeLookup (.type T) "__getitem__"=pure (uM (.builtin id))/\s.TypeIs v T/\lJ (model X.prog X.w) X.A (getItem v (.ref sl)) (EP X pins σ Q) X.xe s
theorem SlR.or {r r':V->Option Int->Option Int->Hp->VK->Prop}(h:SlR X r)(h':SlR X r'):SlR X (λx lo hi H Q=>r x lo hi H Q\/r' x lo hi H Q):=by
 intro pins s σ H x v vl vu lo hi sl Q I rx hs pl pu q;rcases q with q |q
 ·exact h pins s σ H x v vl vu lo hi sl Q I rx hs pl pu q
 ·exact h' pins s σ H x v vl vu lo hi sl Q I rx hs pl pu q
def tSl (r:V->Option Int->Option Int->Hp->VK->Prop)(te:TE)(tl th:TO):TE:=λσ H Q=>te σ H λx H1=>tl σ H1 λl H2=>th σ H2 λu H3=>r x l u H3 Q
theorem zks_ {r:V->Option Int->Option Int->Hp->VK->Prop}(hr:SlR X r)(he:PE X e te)(hl:PO X lo tl)(hu:PO X hi th):PE X (.Subscript e (.Slice lo hi uN p2) pos) (tSl r te tl th):=by
 intro pins s σ H Q I h;refine Subscript_ (thn (he pins s σ H _ I h) λv s1 af=>?_)
 obtain⟨x,H1,I1,r1,q1⟩:=af;refine wpAny_Slice (thn (hl pins s1 σ H1 _ I1 q1) λvl s2 ⟨l,H2,I2,pl,q2⟩=>thn (hu pins s2 σ H2 _ I2 q2) λvu s3 af=>?_)
 obtain⟨u,H3,I3,pu,q3⟩:=af;rw[evalPart_none];refine lE ?_;have I4:Inv X pins σ H3 {s3 with heap:=s3.heap.push {cls:=.type "slice",data:=.fields #[vl,vu,.none]}}:=I3.kept (t':=s3.toks) λb ob q=>kH _ q
 obtain⟨T,id,hT,ht,hg⟩:=hr pins {s3 with heap:=s3.heap.push {cls:=.type "slice",data:=.fields #[vl,vu,.none]}} σ H3 x v vl vu l u s3.heap.objs.size Q I4 r1 (uF ..) pl pu q3;show lJ (model X.prog X.w) X.A (subscriptTail e (.Slice lo hi uN p2) v (.ref s3.heap.objs.size)) (EP X pins σ Q) X.xe {s3 with heap:=s3.heap.push {cls:=.type "slice",data:=.fields #[vl,vu,.none]}}
 exact tail_any (ops:=[.ref s3.heap.objs.size,v]) ht hT hg (by with_unfolding_all rfl)
def cutV (xs:List V)(lo hi:Option Int):List V:=(xs.drop (HT.sIx xs.length 0 lo)).take (HT.sIx xs.length xs.length hi-HT.sIx xs.length 0 lo)
theorem zcg_ (xs:List V)(lo hi:Option Int):(cutV xs lo hi).length<=xs.length:=by
 unfold cutV;rw[mC,mJ];lia
def rSlT (K:Fgg):V->Option Int->Option Int->Hp->VK->Prop:=λx lo hi H Q=>∃a xs,x=.ref a/\SqT K H a xs /\
 ¬(HT.sIx xs.length 0 lo=0/\HT.sIx xs.length xs.length hi=xs.length)/\∀p,H p=uN->Q (.ref p) (upd H p (.tup (cutV xs lo hi)))
theorem zrf_:SlR X (rSlT X.K):=by
 intro pins s σ H x v vl vu lo hi sl Q I rx hs pl pu h;obtain⟨a,xs,rfl,hx,hw,q⟩:=h;cases rx;obtain⟨aa,r,ht,hz⟩:=I.tuple hx;have hlen:aa.toArray.size=xs.length:=by rw[kQ];exact r.length.symm
 refine⟨"tuple",_,ot.lookup,ht.typeIs,?_⟩;refine HT.getItem_tuple_cut ht hs pl pu (by rw[hlen];exact hw) ?_ (by rw[hlen];exact hz)
 rw[hlen];refine⟨.ref s.heap.objs.size,_,I.laid (t':=s.toks) (o:=.tup (cutV xs lo hi)) (λb ob q=>kH _ q) (kP _) ?_,rfl,q _ (I.hok.fresh (kP _))⟩
 exact⟨mN (zcg_ xs lo hi) hz,_,(r.drop (HT.sIx xs.length 0 lo)).take (HT.sIx xs.length xs.length hi-HT.sIx xs.length 0 lo),IsTup.new _ _⟩
def rCatT (K:Fgg):R2:=λx y H Q=>∃a b xs ys,x=.ref a/\y=.ref b/\SqT K H a xs/\SqT K H b ys/\xs≠[]/\xs.length+ys.length<=lg /\
 (ys=[]->Q (.ref a) H)/\(ys≠[]->∀p,H p=uN->Q (.ref p) (upd H p (.tup (xs++ys))))
theorem Vals.nil_iff {xs:List V}{us:List aU}(r:Vals xs us):us=[]↔xs=[]:=by
 cases r with
 |nil=>simp
 |cons _ _=>simp
theorem znt_:OpR X (nz .Add) (rCatT X.K):=by
 intro pins s σ H x y v u Q I rx ry h;obtain⟨a,b,xs,ys,rfl,rfl,ha,hb,hx,hz,q1,q2⟩:=h;cases rx;cases ry;obtain⟨aa,r1,p1,_⟩:=I.tuple ha;obtain⟨aj,r2,p2,_⟩:=I.tuple hb;refine HT.cat_tup p1 p2 (λz=>hx (r1.nil_iff.mp z)) (λz=>⟨.ref a,H,I,rfl,q1 (r2.nil_iff.mp z)⟩) (λz=>?_) (by rw[<- r1.length,<- r2.length];exact hz)
 refine⟨.ref s.heap.objs.size,_,I.laid (t':=s.toks) (o:=.tup (xs++ys)) (λb ob q=>kH _ q) (kP _) ?_,rfl,q2 (λw=>z (r2.nil_iff.mpr w)) _ (I.hok.fresh (kP _))⟩
 exact⟨by rw[lC];exact hz,_,r1.append r2,IsTup.new _ _⟩
end
noncomputable def ixN (n:Nat)(i:Int):Option Nat:=if 0<=i then(if i<n then uM i.toNat else uN)else if -(n:Int)<=i then uM (i+n).toNat else uN
def atI {α:Type}(xs:List α)(i:Int):Option α:=(ixN xs.length i).bind λj=>xs[j]?
theorem zge_ {n:Nat}{i:Int}{j:Nat}(h:ixN n i=uM j):seqIndex? i n=uM j/\j<n /\ -(n:Int)<=i/\i<n:=by
 unfold ixN at h;by_cases h0:0<=i
 ·rw[if_pos h0]at h
  by_cases h1:i<n
  ·rw[if_pos h1]at h
   have e:i.toNat=j:=lP h;exact⟨by rw[seqIndex_of h0 h1,e],by lia,by lia,h1⟩
  ·rw[if_neg h1]at h;cases h
 ·rw[if_neg h0]at h
  by_cases h1 : -(n:Int)<=i
  ·rw[if_pos h1]at h
   have e:(i+n).toNat=j:=lP h;exact⟨by rw[seqIndex_neg (by lia) h1,e],by lia,h1,by lia⟩
  ·rw[if_neg h1]at h;cases h
theorem zgo_ {α:Type}{xs:List α}{i:Int}{v:α}(h:atI xs i=uM v):∃j,seqIndex? i xs.length=uM j/\xs[j]?=uM v/\j<xs.length /\ -(xs.length:Int)<=i/\i<xs.length:=by
 unfold atI at h;cases e:ixN xs.length i with
 |none=>rw[e]at h;cases h
 |some j=>
  rw[e]at h;obtain⟨h1,h2,h3,h4⟩:=zge_ e;exact⟨j,h1,h,h2,h3,h4⟩
def PlainIx (b:lq):Prop:=∀o i,subscripted b uP o i=operate [o,i] (getItem o i)
def IxR (X:Cx)(r:R2):Prop:=
 ∀(value slice:lq) (pins:Pnn) (s:kF) (σ:St) (H:Hp) (x y:V) (v u:aU) (Q:VK),Inv X pins σ H s->RelV x v->RelV y u->r x y H Q ->
  subscripted slice uP v u=operate [v,u] (getItem v u)->lJ (model X.prog X.w) X.A (subscriptTail value slice v u) (EP X pins σ Q) X.xe s
def MtR (X:Cx)(id:String)(r:V->List V->Hp->VK->Prop):Prop:=
 ∀(pins:Pnn) (s:kF) (σ:St) (H:Hp) (x:V) (xs:List V) (v:aU) (us:List aU) (Q:VK),Inv X pins σ H s->RelV x v->Vals xs us->r x xs H Q ->
  lJ (model X.prog X.w) X.A (call (.builtin id) (v::us)) (EP X pins σ Q) X.xe s
section
variable {X:Cx}{a b:lq}{ta tb:TE}{pos:Pos}
theorem pe_ix {r:R2}(hr:IxR X r)(ha:PE X a ta)(hb:PE X b tb)(hs:PlainIx b):PE X (.Subscript a b pos) (tOp r ta tb):=by
 intro pins s σ H Q I h;exact Subscript_ (binT ha hb I h λv u s2 x y H2 I2 rx ry q=>hr a b pins s2 σ H2 x y v u Q I2 rx ry q (hs _ _))
def rIxL (K:Fgg):R2:=λx y H Q=>∃p xs i v,x=.ref p/\y=.int i/\SqL K H p xs/\atI xs i=uM v/\Q v H
def rIxT (K:Fgg):R2:=λx y H Q=>∃p xs i v,x=.ref p/\y=.int i/\SqT K H p xs/\atI xs i=uM v/\Q v H
def rIxS:R2:=λx y H Q=>∃z i c,x=.str z/\y=.int i/\z.length<=lg/\atI z.cps.toList i=uM c/\Q (.str ⟨#[c]⟩) H
theorem zne_:IxR X (rIxL X.K):=by
 intro value slice pins s σ H x y v u Q I rx ry h hs;obtain⟨p,xs,i,z,rfl,rfl,hq,he,q⟩:=h;cases rx;obtain⟨t,rfl⟩:=ry;obtain⟨aa,r,pl,hz⟩:=I.list hq;obtain⟨j,h1,h2,h3,h4,h5⟩:=zgo_ he;obtain⟨w,ew,bK⟩:=r.get h2;have hl:=r.length;have hn:=line63;have fin:EP X pins σ Q w s:=⟨z,H,I,bK,q⟩;by_cases h0:0<=i
 ·have hj:i.toNat=j:=by
   rw[seqIndex_of h0 h5]at h1;exact lP h1
  exact item_listR pl.isList h0 (by lia) (by rw[hj];simpa using ew) fin hs
 ·have hj:(i+(aa.toArray.size:Int)).toNat=j:=by
   rw[seqIndex_neg (by lia) h4]at h1
   rw[kQ,<- hl];exact lP h1
  exact subscriptTail_builtinR (x:=w) pl.isList.typeIs slot_list_getitem.lookup
   (wpAny_getItem_list_neg (Q:=λr s'=>r=w/\EP X pins σ Q r s') pl.isList (by lia) (by rw[kQ]<;>lia) (by lia) (by rw[hj];simpa using ew) ⟨rfl,fin⟩) hs
theorem zoY_:IxR X (rIxT X.K):=by
 intro value slice pins s σ H x y v u Q I rx ry h hs;obtain⟨p,xs,i,z,rfl,rfl,hq,he,q⟩:=h;cases rx;obtain⟨t,rfl⟩:=ry;obtain⟨aa,r,pl,hz⟩:=I.tuple hq;obtain⟨j,h1,h2,h3,h4,h5⟩:=zgo_ he;obtain⟨w,ew,bK⟩:=r.get h2;have hl:=r.length;have hn:=line63;have fin:EP X pins σ Q w s:=⟨z,H,I,bK,q⟩
 exact subscriptTail_builtinR (x:=w) pl.typeIs slot_tuple_getitem.lookup
  (getItem_tuple (j:=j) (Q:=λr s'=>r=w/\EP X pins σ Q r s') pl (by lia) (by lia) (by rw[kQ,<- hl];exact h1) (by simpa using ew) ⟨rfl,fin⟩) hs
theorem zoJ_:IxR X rIxS:=by
 intro value slice pins s σ H x y v u Q I rx ry h hs;obtain⟨z,i,c,rfl,rfl,hz,he,q⟩:=h;obtain⟨t,rfl⟩:=rx;obtain⟨t',rfl⟩:=ry;obtain⟨j,h1,h2,h3,h4,h5⟩:=zgo_ he;have hl:z.cps.toList.length=z.length:=by simp[ng]
 rw[hl]at h1 h4 h5;have hn:=line63;exact tail_any (typeIs_str s z t) slot_str_getitem.lookup (getItem_str (c:=c) (by
  have e1:decide (i < -(2 ^ 63:Int))=uP:=decide_eq_false (by lia)
  have e2:decide (i ≥ 2 ^ 63)=uP:=decide_eq_false (by lia)
  rw[e1,e2,Bool.or_false]) (by rw[h1];simpa using h2) ⟨.str ⟨#[c]⟩,H,I.tok _,⟨_,rfl⟩,q⟩) hs
theorem zgY_ (aa:List aU)(n j:Nat)(u:aU):lO (·.setIfInBounds j u) {cls:=.type "list",data:=.seq aa.toArray n}={cls:=.type "list",data:=.seq (aa.set j u).toArray n}:=by
 simp[lO]
theorem Inv.lst {pins:Pnn}{σ:St}{H:Hp}{s:kF}{p:kR}{xs:List V}(I:Inv X pins σ H s)(h:H p=uM (.lst xs)):
  ∃(aa:List aU) (n:Nat),Vals xs aa/\s.heap.get? p=uM {cls:=.type "list",data:=.seq aa.toArray n}/\xs.length<=lg:=by
 obtain⟨z,aa,n,r,e⟩:=I.hok p _ h;exact⟨aa,n,r,e,z⟩
theorem Inv.lstUpd {pins:Pnn}{σ:St}{H:Hp}{s:kF}{p:kR}{xs ys:List V}{aa its':List aU}{n n':Nat}{f:tF->tF}(I:Inv X pins σ H s)(h:H p=uM (.lst xs))
  (ho:s.heap.get? p=uM {cls:=.type "list",data:=.seq aa.toArray n}) (hf:f {cls:=.type "list",data:=.seq aa.toArray n}={cls:=.type "list",data:=.seq its'.toArray n'}) (r:Vals ys its') (hz:ys.length<=lg) (t:Nat):
  Inv X pins σ (upd H p (.lst ys)) {s with heap:=s.heap.update p f,toks:=t}:=by
 have e:(s.heap.update p f).get? p=uM {cls:=.type "list",data:=.seq its'.toArray n'}:=by
  rw[Heap.get?_update_self f ho (by rw[hf]<;>rfl),hf]
 refine I.write (x:=p) (e:=p) (by rw[h];trivial) (.inl rfl) (λb u hb q=>(qx _ _ (pb hb)).trans q) ⟨_,e⟩ ?_
 exact⟨hz,its',n',r,e⟩
def rSetL:V->V->V->Hp->(Hp->Prop)->Prop:=λo i v H Q=>∃p xs k j,o=.ref p/\i=.int k/\H p=uM (.lst xs)/\ixN xs.length k=uM j/\Q (upd H p (.lst (xs.set j v)))
theorem zkh_:PSet X rSetL:=by
 intro pins s σ H o i v ov iv u Q I ro ri rv h;obtain⟨p,xs,k,j,rfl,rfl,hp,hj,q⟩:=h;cases ro;obtain⟨t,rfl⟩:=ri;obtain⟨aa,n,r,ho,hz⟩:=I.lst hp;obtain⟨h1,h2,h3,h4⟩:=zge_ hj;have hl:=r.length;have hn:=line63;have I':Inv X pins σ (upd H p (.lst (xs.set j v))) {s with heap:=s.heap.update p (lO (·.setIfInBounds j u))}:=
  I.lstUpd hp ho (zgY_ aa n j u) (r.set rv j) (by rw[mS];exact hz) s.toks
 by_cases h0:0<=k
 ·have hk:k.toNat=j:=by
   rw[seqIndex_of h0 h4]at h1;exact lP h1
  exact W.ki_setAt ho h0 (by lia) (by rw[kQ,<- hl];exact h4) (by rw[hk];exact⟨_,I',q⟩)
 ·have hk:(k+(aa.toArray.size:Int)).toNat=j:=by
   rw[seqIndex_neg (by lia) h3]at h1
   rw[kQ,<- hl];exact lP h1
  exact W.ki_setBack ho (by lia) (by rw[kQ,<- hl];exact h3) (by lia) (by rw[hk];exact⟨_,I',q⟩)
theorem zec_ (lo hi:Option Int)(n:Nat):(sliceBounds lo hi uN n).1=((HT.sIx n 0 lo:Nat):Int)/\(sliceBounds lo hi uN n).2.1=((HT.sIx n n hi:Nat):Int)/\(sliceBounds lo hi uN n).2.2=1:=by
 refine⟨?_,?_,rfl⟩
 ·cases lo with
  |none=>simp[sliceBounds,HT.sIx]
  |some i=>
   simp only[sliceBounds,HT.sIx,rW,show(1:Int) > 0 by decide,if_true]
   by_cases h:i<0
   ·simp only[h,if_true]<;>lia
   ·simp only[h,if_false]<;>lia
 ·cases hi with
  |none=>simp[sliceBounds,HT.sIx]
  |some i=>
   simp only[sliceBounds,HT.sIx,rW,show(1:Int) > 0 by decide,if_true]
   by_cases h:i<0
   ·simp only[h,if_true]<;>lia
   ·simp only[h,if_false]<;>lia
theorem zdd_ (aa:List aU)(lo hi:Option Int):slicePick aa.toArray lo hi uN=((aa.drop (HT.sIx aa.length 0 lo)).take (HT.sIx aa.length aa.length hi-HT.sIx aa.length 0 lo)).toArray:=by
 obtain⟨h1,h2,h3⟩:=zec_ lo hi aa.toArray.size;unfold slicePick;rw[h1,h2,h3];simp only[sliceRange_one,pick_run,kQ]<;>rfl
def rSlL (K:Fgg):V->Option Int->Option Int->Hp->VK->Prop:=λx lo hi H Q=>∃a xs,x=.ref a/\SqL K H a xs/\∀p,H p=uN->Q (.ref p) (upd H p (.lst (cutV xs lo hi)))
theorem zm6_:SlR X (rSlL X.K):=by
 intro pins s σ H x v vl vu lo hi sl Q I rx hs pl pu h;obtain⟨a,xs,rfl,hx,q⟩:=h;cases rx;obtain⟨aa,r,ht,hz⟩:=I.list hx;have hlen:=r.length;refine⟨"list",_,slot_list_getitem.lookup,ht.isList.typeIs,?_⟩;refine wpAny_getItem_list_slice ht.isList hs pl pu .none (by simp) ?_ (by rw[kQ]<;>lia)
 rw[zdd_,<- hlen];refine⟨.ref s.heap.objs.size,_,I.laid (t':=s.toks) (o:=.lst (cutV xs lo hi)) (λb ob q=>kH _ q) (kP _) ?_,rfl,q _ (I.hok.fresh (kP _))⟩
 exact⟨mN (zcg_ xs lo hi) hz,_,0,(r.drop (HT.sIx xs.length 0 lo)).take (HT.sIx xs.length xs.length hi-HT.sIx xs.length 0 lo),lG _ rfl⟩
noncomputable def flatV:V->Bool
 |.non=>uO
 |.bl _=>uO
 |.int _=>uO
 |.str _=>uO
 |_=>uP
noncomputable def eqV:V->V->Bool
 |.non,.non=>uO
 |.bl a,.bl b=>a == b
 |.bl a,.int b=>(if a then 1 else 0) == b
 |.int a,.bl b=>a == (if b then 1 else 0)
 |.int a,.int b=>a == b
 |.str a,.str b=>a == b
 |_,_=>uP
theorem znC_ {A:l9}{s:kF}{y x:V}{u v:aU}(ry:RelV y u)(rx:RelV x v)(fy:flatV y=uO)(fx:flatV x=uO):rp A s u v (eqV y x):=by
 cases y with
 |non=>
  cases ry;cases x with
  |non=>cases rx;exact qG _
  |bl b=>cases rx;exact SeqAt.EqAt.none_bool b
  |int b=>obtain⟨t,rfl⟩:=rx;exact SeqAt.EqAt.none_int b t
  |str b=>obtain⟨t,rfl⟩:=rx;exact SeqAt.EqAt.none_str b t
  |_=>exact absurd (show uP=uO from fx) mq
 |bl a=>
  cases ry;cases x with
  |non=>cases rx;exact SeqAt.EqAt.bool_none a
  |bl b=>cases rx;exact SeqAt.EqAt.bool_bool a b
  |int b=>obtain⟨t,rfl⟩:=rx;exact SeqAt.EqAt.bool_int a b t
  |str b=>obtain⟨t,rfl⟩:=rx;exact SeqAt.EqAt.bool_str a b t
  |_=>exact absurd (show uP=uO from fx) mq
 |int a=>
  obtain⟨t',rfl⟩:=ry;cases x with
  |non=>cases rx;exact SeqAt.EqAt.int_none a t'
  |bl b=>cases rx;exact SeqAt.EqAt.int_bool a t' b
  |int b=>obtain⟨t,rfl⟩:=rx;exact rq a t' b t
  |str b=>obtain⟨t,rfl⟩:=rx;exact rg a t' b t
  |_=>exact absurd (show uP=uO from fx) mq
 |str a=>
  obtain⟨t',rfl⟩:=ry;cases x with
  |non=>cases rx;exact SeqAt.EqAt.str_none a t'
  |bl b=>cases rx;exact SeqAt.EqAt.str_bool a t' b
  |int b=>obtain⟨t,rfl⟩:=rx;exact rj a t' b t
  |str b=>obtain⟨t,rfl⟩:=rx;exact SeqAt.EqAt.str_str a t' b t
  |_=>exact absurd (show uP=uO from fx) mq
 |_=>exact absurd (show uP=uO from fy) mq
def eqU (x:V)(u:aU):Bool:=match u with
 |.none=>eqV .non x
 |.bool b=>eqV (.bl b) x
 |.int i _=>eqV (.int i) x
 |.str z _=>eqV (.str z) x
 |_=>uP
theorem znJ_ {x y:V}{u:aU}(r:RelV y u)(f:flatV y=uO):eqU x u=eqV y x:=by
 cases y with
 |non=>cases r;rfl
 |bl b=>cases r;rfl
 |int i=>obtain⟨t,rfl⟩:=r;rfl
 |str z=>obtain⟨t,rfl⟩:=r;rfl
 |_=>exact absurd (show uP=uO from f) mq
theorem zdf_ {x:V}:∀{xs:List V}{us:List aU},Vals xs us->xs.all flatV=uO->us.any (eqU x)=xs.any λy=>eqV y x
 |_,_,.nil,_=>rfl
 |y::xs,u::us,.cons r t,f=>by
  rw[mr,ky]at f;rw[oJ,oJ,znJ_ r f.1,zdf_ t f.2]
theorem zb3_ {A:l9}{s:kF}{x:V}{v:aU}(rx:RelV x v)(fx:flatV x=uO):∀{xs:List V}{us:List aU},Vals xs us->xs.all flatV=uO->∀u∈us,rp A s u v (eqU x u)
 |_,_,.nil,_=>λu hu=>by cases hu
 |y::xs,u::us,.cons r t,f=>λu' hu=>by
  rw[mr,ky]at f;rcases lA.mp hu with rfl |hu
  ·rw[znJ_ r f.1];exact znC_ r rx f.1 fx
  ·exact zb3_ rx fx t f.2 u' hu
def inV (x:V)(xs:List V):Bool:=xs.any λy=>eqV y x
def rIn (K:Fgg)(neg:Bool):R2:=λx y H Q=>∃p xs,y=.ref p/\(SqL K H p xs\/SqT K H p xs)/\flatV x=uO/\xs.all flatV=uO/\Q (.bl (if neg then !inV x xs else inV x xs)) H
theorem zh3_:OpR X (lF .In) (rIn X.K uP):=by
 intro pins s σ H x y v u Q I rx ry h;obtain⟨p,xs,rfl,hq,fx,fs,q⟩:=h;cases ry;rcases hq with hq |hq
 ·obtain⟨aa,r,pl,hz⟩:=I.list hq
  refine SeqAt.in_listAt (eqU x) pl.isList (λw hw=>zb3_ rx fx r fs w (by simpa using hw)) ⟨.bl _,H,I,rfl,?_⟩
  rw[show aa.toArray.any (eqU x)=aa.any (eqU x) by simp,zdf_ r fs]
  exact q
 ·obtain⟨aa,r,pl,hz⟩:=I.tuple hq
  refine SeqAt.in_tupleAt (eqU x) pl (λw hw=>zb3_ rx fx r fs w (by simpa using hw)) ⟨.bl _,H,I,rfl,?_⟩
  rw[show aa.toArray.any (eqU x)=aa.any (eqU x) by simp,zdf_ r fs]
  exact q
theorem zdS_:OpR X (lF .NotIn) (rIn X.K uO):=by
 intro pins s σ H x y v u Q I rx ry h;obtain⟨p,xs,rfl,hq,fx,fs,q⟩:=h;cases ry;rcases hq with hq |hq
 ·obtain⟨aa,r,pl,hz⟩:=I.list hq
  refine SeqAt.notIn_listAt (eqU x) pl.isList (λw hw=>zb3_ rx fx r fs w (by simpa using hw)) ⟨.bl _,H,I,rfl,?_⟩
  rw[show aa.toArray.any (eqU x)=aa.any (eqU x) by simp,zdf_ r fs]
  exact q
 ·obtain⟨aa,r,pl,hz⟩:=I.tuple hq
  refine SeqAt.notIn_tupleAt (eqU x) pl (λw hw=>zb3_ rx fx r fs w (by simpa using hw)) ⟨.bl _,H,I,rfl,?_⟩
  rw[show aa.toArray.any (eqU x)=aa.any (eqU x) by simp,zdf_ r fs]
  exact q
theorem zd3_:CallR X (.builtin "len") (λxs H Q=>∃p ys,xs=[.ref p]/\(SqL X.K H p ys\/SqT X.K H p ys)/\Q (.int ys.length) H):=by
 intro pins s σ H xs us Q I r h;obtain⟨p,ys,rfl,hq,q⟩:=h;obtain⟨u,rfl,rx⟩:=vals1 r;cases rx;have hn:=line63;rcases hq with hq |hq
 ·obtain⟨aa,r',pl,hz⟩:=I.list hq
  have hlen:=r'.length;exact Calls.call_len_list pl.isList (by simp only[kQ]<;>lia) ⟨.int ys.length,H,I.tok _,⟨s.toks+1,by rw[kQ,hlen]⟩,q⟩
 ·obtain⟨aa,r',pl,hz⟩:=I.tuple hq
  have hlen:=r'.length;exact len_tuple pl (by simp only[kQ]<;>lia) ⟨.int ys.length,H,I.tok _,⟨s.toks+1,by rw[kQ,hlen]⟩,q⟩
theorem zdW_:CallR X (.builtin "len") (λxs H Q=>∃z,xs=[.str z]/\z.length<=lg/\Q (.int z.length) H):=by
 intro pins s σ H xs us Q I r h;obtain⟨z,rfl,hz,q⟩:=h;obtain⟨u,rfl,t,rfl⟩:=vals1 r;have hn:=line63;exact len_str (by lia) ⟨.int z.length,H,I.tok _,⟨_,rfl⟩,q⟩
theorem zdT_:CallR X (.type "list") (λxs H Q=>∃p ys,xs=[.ref p]/\(SqL X.K H p ys\/SqT X.K H p ys)/\∀l,H l=uN->Q (.ref l) (upd H l (.lst ys))):=by
 intro pins s σ H xs us Q I r h;obtain⟨p,ys,rfl,hq,q⟩:=h;obtain⟨u,rfl,rx⟩:=vals1 r;cases rx
 have fin:∀(aa:List aU),Vals ys aa->ys.length<=lg->∀(h':Heap) (c':Nat),(∀b o',s.heap.get? b=uM o'->h'.get? b=uM o') ->
   h'.get? s.heap.objs.size=uM {cls:=.type "list",dict:=uN,data:=.seq aa.toArray c',slots:=#[]}->EP X pins σ Q (.ref s.heap.objs.size) {s with heap:=h'}:=λaa r' hz h' c' kp e=>
  ⟨.ref s.heap.objs.size,_,I.laid (t':=s.toks) kp (kP _) (show ObjOk X.prog X.w _ h' _ (.lst ys)from⟨hz,aa,c',r',e⟩),rfl,q _ (I.hok.fresh (kP _))⟩
 rcases hq with hq |hq
 ·obtain⟨aa,r',pl,hz⟩:=I.list hq
  have hlen:=r'.length;obtain⟨o,ho,hc,n,hd⟩:=pl.isList;exact call_list_seq p (.inl rfl) ho hc hd (λh' c' kp e=>fin aa r' hz h' c' kp e) (by simp only[kQ]<;>lia)
 ·obtain⟨aa,r',pl,hz⟩:=I.tuple hq
  have hlen:=r'.length;obtain⟨o,ho,hc,n,hd⟩:=pl;exact call_list_seq p (.inr rfl) ho hc hd (λh' c' kp e=>fin aa r' hz h' c' kp e) (by simp only[kQ]<;>lia)
def tyV (K:Fgg)(T:String)(x:V)(H:Hp):Prop:=match x with
 |.str _=>T="str"
 |.int _=>T="int"
 | .ref p=>(T="list" /\ ∃xs,SqL K H p xs)\/(T="tuple" /\ ∃o,K.lookup p=uM o/\o.cls=.type "tuple" /\ o.dict=uN) \/
   (T="dict" /\ ((∃kvs,H p=uM (.dK kvs))\/∃kvs,H p=uM (.dT kvs)))\/(T="set" /\ ∃S n,H p=uM (.set S n))
 |_=>False
theorem zmH_ {pins:Pnn}{σ:St}{H:Hp}{s:kF}{T:String}{x:V}{v:aU}(I:Inv X pins σ H s)(r:RelV x v)(ty:tyV X.K T x H):
  s.TypeIs v T/\∀a,v=.ref a->∃ob,s.heap.get? a=uM ob/\ob.dict=uN:=by
 cases x with
 |str z=>
  obtain⟨t,rfl⟩:=r;cases(show T="str" from ty)
  exact⟨typeIs_str s z t,λ_ e=>nomatch e⟩
 |int i=>
  obtain⟨t,rfl⟩:=r;cases(show T="int" from ty)
  exact⟨typeIs_int s i t,λ_ e=>nomatch e⟩
 |ref p=>
  cases r;rcases ty with⟨rfl,xs,hq⟩|⟨rfl,o,hk,hc,hd⟩|⟨rfl,hk⟩|⟨rfl,S,n,hk⟩
  ·obtain⟨aa,_,pl,_⟩:=I.list hq
   refine⟨pl.isList.typeIs,λa e=>?_⟩
   cases e;obtain⟨o,n,e,c,hd,_⟩:=pl;exact⟨o,e,hd⟩
  ·refine⟨⟨o,I.kIn p o hk,hc⟩,λa e=>?_⟩
   cases e;exact⟨o,I.kIn _ o hk,hd⟩
  ·have z:∃o,s.heap.get? p=uM o/\o.ExactDict:=by
    rcases hk with⟨kvs,hk⟩|⟨kvs,hk⟩
    ·obtain⟨_,_,_,_,o,_,_,e,ex,_⟩:=I.hok p _ hk
     exact⟨o,e,ex⟩
    ·obtain⟨_,_,_,_,o,_,_,e,ex,_⟩:=I.hok p _ hk
     exact⟨o,e,ex⟩
   obtain⟨o,e,ex⟩:=z;refine⟨⟨o,e,ex.1⟩,λa e2=>?_⟩
   cases e2;exact⟨o,e,ex.2.1⟩
  ·obtain⟨o,_,_,_,e,ex,_⟩:=I.hok p _ hk
   refine⟨⟨o,e,ex.1⟩,λa e2=>?_⟩
   cases e2;exact⟨o,e,ex.2.1⟩
 |_=>exact lU ty
def tBM0 (K:Fgg)(T:String)(r:V->List V->Hp->VK->Prop)(to:TE):TE:=λσ H Q=>to σ H λx H1=>tyV K T x H1/\r x [] H1 Q
def tBM (K:Fgg)(T:String)(r:V->List V->Hp->VK->Prop)(to:TE)(t:TA):TE:=λσ H Q=>to σ H λx H1=>tyV K T x H1/\t σ H1 λxs H2=>r x xs H2 Q
variable {o e:lq}{es:List lq}{to:TE}{t:TA}{name:Str}{apos ao:Pos}{T id:String}{r:V->List V->Hp->VK->Prop}
theorem zn0_ (pa:PlainAttrs T)(slot:Slot T name id)(d6:typeOf (.builtin id)=pure (.type "method_descriptor"))(hm:MtR X id r)(ho:PE X o to)
  (bW:attributeBase o name X.env (eval o X.env)=eval o X.env:=by rfl) (bT:(apos.endLine == ao.line)=uO:=by rfl):PE X (.Call (.Attribute o name apos) [] [] ao) (tBM0 X.K T r to):=by
 intro pins s σ H Q I h;refine wpAny_Call_method0_late bW bT (thn (ho pins s σ H _ I h) λv s1 af=>?_)
 obtain⟨x,H1,I1,r1,ty,q1⟩:=af;obtain⟨h1,h2⟩:=zmH_ I1 r1 ty;exact⟨T,id,pa,slot,d6,h1,h2,Calls.callWith_builtin rfl (PySem.evalArgs_none (hm pins s1 σ H1 x [] v [] Q I1 r1 .nil q1))⟩
theorem zos_ (pa:PlainAttrs T)(slot:Slot T name id)(d6:typeOf (.builtin id)=pure (.type "method_descriptor"))(hm:MtR X id r)(ho:PE X o to)(ha:PA X (e::es) t)
  (bW:attributeBase o name X.env (eval o X.env)=eval o X.env:=by rfl)
  (gL:((oj ao (lQ (e::es) X.env)).all (λx=>!x.1) && (qP ao (pL [] X.env)).all (λx=>x.1.isSome)
   && decide ((e::es).length+([]:List Keyword).length+(if([]:List Keyword).isEmpty then 0 else 1)<30))=uO:=by rfl)
  (bT:(apos.endLine == ao.line)=uO:=by rfl) (hs:lQ (e::es) X.env=(uP,eval e X.env)::lQ es X.env:=by rfl) (c9:(oj ao (lQ es X.env)).any (·.1)=uP:=by rfl):
  PE X (.Call (.Attribute o name apos) (e::es) [] ao) (tBM X.K T r to t):=by
 intro pins s σ H Q I h;refine wpAny_Call_method_late bW gL bT rfl (thn (ho pins s σ H _ I h) λv s1 af=>?_)
 obtain⟨x,H1,I1,r1,ty,q1⟩:=af;obtain⟨h1,h2⟩:=zmH_ I1 r1 ty;refine⟨T,id,pa,slot,d6,h1,h2,?_⟩;have hA:=ha ao pins s1 σ H1 _ I1 q1;rw[hs]at hA ⊢;refine Calls.callWith_builtin (by show(uP ||(oj ao (lQ es X.env)).any (·.1))=uP;rw[c9]<;>rfl) (Calls.evalArgs_plain ?_)
 exact thn hA λus s2 ⟨vs,H2,I2,r2,q2⟩=>hm pins s2 σ H2 x vs v us Q I2 r1 r2 q2
end
def MtM (X:Cx)(id:String)(r:V->List V->Hp->VK->Prop):Prop:=
 ∀(pins:Pnn) (s:kF) (σ:St) (H:Hp) (x:V) (xs:List V) (v:aU) (us:List aU) (Q:VK),Inv X pins σ H s->RelV x v->Vals xs us->r x xs H Q ->
  lJ (model X.prog X.w) X.A (call (.builtin id) (v::us)) (EP X pins σ Q) X.xe s
theorem Vals.one:∀{x:V}{us:List aU},Vals [x] us->∃u,us=[u]/\RelV x u
 |_,_,.cons r .nil=>⟨_,rfl,r⟩
theorem Vals.dropLast {xs:List V}{us:List aU}(h:Vals xs us):Vals xs.dropLast us.dropLast:=by
 induction h with
 |nil=>exact .nil
 |cons r t ih=>
  cases t with
  |nil=>exact .nil
  |cons q t'=>exact .cons r ih
theorem Vals.rep {xs:List V}{us:List aU}(h:Vals xs us):∀k:Nat,Vals (lu k xs).flatten (lu k us).flatten
 |0=>.nil
 |k+1=>by
  rw[mL,mL,oe,oe];exact Vals.append h (Vals.rep h k)
theorem zl7_ {α:Type}(l:List α):l.eraseIdx (l.length-1)=l.dropLast:=by
 induction l with
 |nil=>rfl
 |cons a r ih=>
  cases r with
  |nil=>rfl
  |cons b r=>
   have e:(a::b::r).length-1=((b::r).length-1)+1:=by
    have h1:(a::b::r).length=r.length+2:=rfl;have h2:(b::r).length=r.length+1:=rfl;lia
   rw[e,List.eraseIdx_cons_succ,ih]
   all_goals rfl
theorem zeK_ (aa:List aU):∀(k:Nat) (acc:List aU),
  qy (λx1 x2=>x1++x2) acc.toArray (lu k aa.toArray)=(acc++(lu k aa).flatten).toArray
 |0,acc=>by simp
 |k+1,acc=>by
  have e:acc.toArray++aa.toArray=(acc++aa).toArray:=by simp
  have e2:(acc++aa)++(lu k aa).flatten=acc++(lu (k+1) aa).flatten:=by
   rw[mL,oe,nr]
  rw[<- e2,<- zeK_ aa k (acc++aa),<- e,mL,pO]
section
variable {X:Cx}{pins:Pnn}{σ:St}{H:Hp}{s:kF}{l:kR}{xs ys:List V}
theorem Inv.lset {aa its':List aU}{n:Nat}{f:Array aU->Array aU}{t':Nat}(I:Inv X pins σ H s)(hH:H l=uM (.lst xs))
  (e:s.heap.get? l=uM {cls:=.type "list",data:=.seq aa.toArray n}) (hf:f aa.toArray=its'.toArray) (hv:Vals ys its') (hz:ys.length<=lg):
  Inv X pins σ (upd H l (.lst ys)) {s with heap:=s.heap.update l (lO f),toks:=t'}:=by
 have q:=PySem.IsL.update e f;rw[hf]at q;refine I.write (x:=l) (e:=l) (by rw[hH];exact trivial) (.inl rfl) (λb' u hb hu=>(qx s.heap (lO f) (pb hb)).trans hu) ⟨_,q⟩ ?_
 exact⟨hz,its',_,hv,q⟩
theorem Inv.lnew {aa:List aU}{t':Nat}(I:Inv X pins σ H s)(hv:Vals ys aa)(hz:ys.length<=lg):
  Inv X pins σ (upd H s.heap.objs.size (.lst ys)) {s with heap:=s.heap.push {cls:=.type "list",data:=.seq aa.toArray},toks:=t'}:=
 I.laid (λ_ _ q=>kH _ q) (kP _) ⟨hz,aa,0,hv,lG _ rfl⟩
theorem Inv.fresh (I:Inv X pins σ H s):H s.heap.objs.size=uN:=I.hok.fresh (kP _)
theorem Inv.lstM (I:Inv X pins σ H s)(hH:H l=uM (.lst xs)):xs.length<=lg/\∃(aa:List aU) (n:Nat),Vals xs aa/\xs.length=aa.length/\s.heap.get? l=uM {cls:=.type "list",data:=.seq aa.toArray n}:=by
 obtain⟨z,aa,n,r,e⟩:=I.hok l _ hH;exact⟨z,aa,n,r,r.length,e⟩
theorem notLongL {n:Nat}(h:n<=lg):oq n=uP:=by
 unfold oq;exact decide_eq_false (by lia)
end
section
variable {X:Cx}
def rAppend:V->List V->Hp->VK->Prop:=λx vs H Q=>∃l xs y,x=.ref l/\vs=[y]/\H l=uM (.lst xs)/\xs.length<lg/\Q .non (upd H l (.lst (xs++[y])))
theorem zcH_:MtM X "list.append" rAppend:=by
 intro pins s σ H x vs v us Q I rx rv h;obtain⟨l,xs,y,rfl,rfl,hH,hz,q⟩:=h;cases rx;obtain⟨u,rfl,ru⟩:=rv.one;obtain⟨z,aa,n,r,hl,e⟩:=I.lstM hH;refine call_meets F.slot_list_append ⟨_,e,rfl⟩ F.entry_list_append (F.args_list_append_2 _ _) (PySem.list_append l aa.toArray n u (by rw[kQ];lia)) ⟨e,?_⟩
 refine⟨.non,_,I.lset (its':=aa++[u]) hH e (by simp) (r.append (.cons ru .nil)) ?_,rfl,q⟩
 rw[lC,nQ];lia
def rExtend:V->List V->Hp->VK->Prop:=λx vs H Q=>∃l b xs zs,x=.ref l/\vs=[.ref b]/\H l=uM (.lst xs)/\H b=uM (.lst zs)/\xs.length+zs.length<=lg/\Q .non (upd H l (.lst (xs++zs)))
theorem zeu_:MtM X "list.extend" rExtend:=by
 intro pins s σ H x vs v us Q I rx rv h;obtain⟨l,b,xs,zs,rfl,rfl,hH,hB,hz,q⟩:=h;cases rx;obtain⟨u,rfl,ru⟩:=rv.one;cases ru;obtain⟨z,aa,n,r,hl,e⟩:=I.lstM hH;obtain⟨z2,aj,n2,r2,fI,e2⟩:=I.lstM hB;have hsz:aa.toArray.size+aj.toArray.size<=lg:=by rw[kQ,kQ];lia
 have bS:¬(!aa.toArray.isEmpty && oq (aa.toArray.size+aj.toArray.size))=uO:=by
  rw[notLongL hsz,Bool.and_false];exact mq
 refine call_meets F.slot_list_extend ⟨_,e,rfl⟩ F.entry_list_extend (F.args_list_extend_2 _ _)
  (AutoSeq1.list_extend_list_list_0 l aa.toArray n b aj.toArray n2 bS (by rw[kQ];lia) (by lia)) ⟨e,e2,?_⟩
 refine⟨.non,_,I.lset (its':=aa++aj) hH e (by simp) (r.append r2) ?_,rfl,q⟩
 rw[lC];lia
def rCat:R2:=λx y H Q=>∃l b xs zs,x=.ref l/\y=.ref b/\H l=uM (.lst xs)/\H b=uM (.lst zs)/\xs.length+zs.length<=lg/\∀p,H p=uN->Q (.ref p) (upd H p (.lst (xs++zs)))
theorem zq3_:OpR X (nz .Add) rCat:=by
 intro pins s σ H x y v u Q I rx ry h;obtain⟨l,b,xs,zs,rfl,rfl,hH,hB,hz,q⟩:=h;cases rx;cases ry;obtain⟨z,aa,n,r,hl,e⟩:=I.lstM hH;obtain⟨z2,aj,n2,r2,fI,e2⟩:=I.lstM hB;refine PySem.P.add_list e e2 ?_ (by rw[kQ,kQ];lia)
 have ea:aa.toArray++aj.toArray=(aa++aj).toArray:=by simp
 rw[ea];exact⟨.ref _,_,I.lnew (t':=s.toks) (r.append r2) (by rw[lC];lia),rfl,q _ I.fresh⟩
def rRep:R2:=λx y H Q=>∃l k xs,x=.ref l/\y=.int k/\H l=uM (.lst xs) /\ -(2 ^ 63)<=k/\k<2 ^ 63/\xs.length*k.toNat<=lg /\
 ∀p,H p=uN->Q (.ref p) (upd H p (.lst (lu k.toNat xs).flatten))
theorem zjf_ {α:Type}(xs:List α)(k:Nat):(lu k xs).flatten.length=k*xs.length:=by
 induction k with
 |zero=>simp
 |succ k ih=>rw[mL,oe,lC,ih,Nat.succ_mul,Nat.add_comm]
theorem zqF_:OpR X (nz .Mult) rRep:=by
 intro pins s σ H x y v u Q I rx ry h;obtain⟨l,k,xs,rfl,rfl,hH,h1,h2,hz,q⟩:=h;cases rx;obtain⟨t,rfl⟩:=ry;obtain⟨z,aa,n,r,hl,e⟩:=I.lstM hH;have hlen:aa.toArray.size*k.toNat<=lg:=by rw[kQ,<- hl];exact hz
 have gQ:¬aa.toArray.size*k.toNat > (2 ^ 63-1) / 8:=by
  have:(lg:Nat)<=(2 ^ 63-1) / 8:=by decide
  lia
 have gK:¬(!Builtin.List.listFitsIndex k)=uO:=by
  rw[fitsIndex_both h1 h2];exact mq
 have bS:¬oq (aa.toArray.size*k.toNat)=uO:=by
  rw[notLongL hlen];exact mq
 have gz:qy (λx1 x2=>x1++x2) #[] (lu (if aa.toArray.isEmpty=uO then 0 else k.toNat) aa.toArray)=(lu k.toNat aa).flatten.toArray:=by
  have f0:∀m:Nat,qy (λx1 x2=>x1++x2) #[] (lu m aa.toArray)=(lu m aa).flatten.toArray:=λm=>by
   have:=zeK_ aa m [];rw[mQ]at this;exact this
  rw[f0];cases aa with
  |nil=>simp
  |cons a r'=>rw[if_neg (by simp)]
 refine wpAny_binaryOp_repeat_ref (T:="list") (U:="int") (by decide) ⟨_,e,rfl⟩ (λs'=>typeIs_int s' k t) noFill_list_mul F.fills_int_mul sG repeat_list F.slot_int_index.lookup
  (call_meets sG (typeIs_int s k t) F.entry_int_rmul (F.args_int_rmul_2 _ _) (int___rmul___int_list k t l aa.toArray n)
   ⟨e,rfl,⟨_,e,rfl⟩,call_meets F.slot_list_mul ⟨_,e,rfl⟩ F.entry_list_mul (F.args_list_mul_2 _ _) (AutoListH.list___mul___list_int_3 l aa.toArray n k t gK gQ bS) ⟨e,?_⟩⟩)
 rw[gz];exact⟨.ref _,_,I.lnew (t':=s.toks) (r.rep k.toNat) (by rw[zjf_,rJ];exact hz),rfl,q _ I.fresh⟩
end
end L2
namespace Att
open PySem PySem.W PySem.Calls PyProof.Rows
theorem zcb_ {P:Params}{h:Heap}:∀(ns:List Int) (vs:List aU),WellAll P h vs (ns.map WData.int)->IntsAre vs ns:=by
 intro ns;induction ns with
 |nil=>
  intro vs w;rw[n6]at w;cases w;exact .nil
 |cons n ns ih=>
  intro vs w;rw[kX]at w;cases w with
  |cons a b=>
   cases a;exact .cons _ _ (ih _ b)
theorem zh0_ {l:OpenLaw}{n:Nat}(hn:l.most=uM n){P:Params}{h:Heap}{args:List WData}{vals:List aU}
  (cB:l.row.toRowW.claim.pre args=uO) (gm:WellAll P h vals args):
  ∃a vs ns,vals=[mE a]/\args=[WData.list (ns.map WData.int)]/\h.get? a=uM {cls:=.type "list",data:=.seq vs.toArray}/\IntsAre vs ns/\ns.length<=n:=by
 have jj:WShape.hasAll [] args [.list .int]=uO:=(pre_splitW cB).1;have hc:l.pre.holds [] {args:=args}=uO:=(pre_splitW cB).2;obtain⟨d,r,rfl,h1,h2⟩:=hasAllW_cons jj;obtain rfl:=hasAllW_nil h2;obtain⟨xs,rfl,h3⟩:=hasW_list h1;obtain⟨ns,rfl⟩:=items_int h3;have hlen:ns.length<=n:=by
  unfold OpenLaw.pre at hc;have h4:(WTm.not (.lt (.lit (.int (n:Int))) (.len (.arg 0)))).holds [] {args:=[.list (ns.map .int)]}=uO:=by
   have h4:=(holds_andW hc).1;rw[hn]at h4;exact h4
  have h5:=condW_of h4 (w_not (w_lt w_lit (w_len_list (w_arg rfl))));rw[kE]at h5;refine pG λq=>?_
  have q':(n:Int)<((ns.length:Nat):Int):=by lia
  first
   |(rw[decide_eq_true q']at h5;exact absurd h5 (by decide))
   |(simp at h5;lia)
 cases gm with
 |cons w1 w2=>
  cases w2;cases w1 with
  |list ho bB=>exact⟨_,_,ns,rfl,rfl,ho,zcb_ ns _ bB,hlen⟩
theorem zhn_ (l:OpenLaw)(args:List WData):l.row.toRowW.claim.post args (.bool uO) args=uO:=
 postW_of (r:=l.row.toRowW) (X:=(uO == uO))
  (show WShape.has [] (.bool uO) .bool=uO by first |rfl |decide |simp[WShape.has,WShape.arms,WShape.armsAll])
  (show(WTm.eq .res (.lit (.bool uO))).value [] {args:=args,res:=uM (.bool uO),after:=args}=uM (.bool (uO == uO))from w_eq_bool (w_res rfl) w_lit) rfl
section
end
end Att
namespace L2
open PySem PySem.Spec PyProof.Rows
theorem zaG_:∀{vs:List aU}{ns:List Int},IntsAre vs ns->Vals (ns.map V.int) vs
 |_,_,.nil=>.nil
 |_,_,.cons n t h=>.cons ⟨t,rfl⟩ (zaG_ h)
def Only (H:Hp):Prop:=∀b,H b=uN\/(∃o xs,H b=uM (.frz o (.lst xs)))\/∃p q,H b=uM (.tbl p q)
theorem zkf_ {P:lN}{w:l7}{K:Fgg}{mg mb:Str->Option aU}{CX:CXT}{k:Nat}{fa a:kR}{fd:mH}{x:Str}{sp:Sp}{ab:kF}{vs:List aU}{ns:List Int}
  (KX:K.In ab.heap) (cM:ab.heap.Ns lD mg) (hb:ab.heap.Ns builtinsNs mb) (gS:∀x:Str,x ≠ "__name__" -> mb x=nE x) (gC:ab.heap.NoLimit) (jJ:∃bm ob,mg "__builtins__"=uM (.ref bm)/\bm≠builtinsNs/\ab.heap.get? bm=uM ob/\ob.cls=.type "module" /\ ob.dict=uM builtinsNs/\ob.data=.plain) (hg:ab.gens=#[])
  (ha:ab.heap.get? a=uM {cls:=.type "list",data:=.seq vs.toArray}) (hi:IntsAre vs ns) (hl:ns.length<=lg) (hr:Room k callerA)
  (F:∀base:Heap,K.In base->base.Ns lD mg->FnOk P w K mg base CX k fa fd [x] sp) (eT:∀(s:kF) (u:aU),BindsTo s fd ⟨[u],[]⟩ [(x,u)])
  (dG:∀H:Hp,Only H->SqL K H a (ns.map V.int)->sp [.ref a] H (λv _=>v=.bl uO) λ_ _ _=>False)
  (gV:∀H e s',CX [] H ab (λ_ _ _=>False) e s'->False)
  (hT:∀Pt pos q,lamK K=uM (Pt,pos,q)->K.lookup Pt=uN/\isCodeTable ab.heap Pt/\ab.heap.get? Pt=uM {cls:=.none,data:=.fields #[]}):
  codeAny (model P w) callerA (.call (.ref fa) ⟨[.ref a],[]⟩) (λr s'=>r=.ok (.ret (.bool uO))/\OldK ab.heap s'.heap/\s'.os=ab.os/\AllBare s'.gens) ab:=by
 have rv:=zaG_ hi;have fZ:=hi.length
 have core:∀H:Hp,Only H->SqL K H a (ns.map V.int)->HOk P w H ab.heap->Tb K H->(∀b,H b≠uN->b=a\/∃p q,lamK K=uM (b,p,q))->(H a≠uN->K.lookup a=uN) ->
   codeAny (model P w) callerA (.call (.ref fa) ⟨[.ref a],[]⟩) (λr s'=>r=.ok (.ret (.bool uO))/\OldK ab.heap s'.heap/\s'.os=ab.os/\AllBare s'.gens) ab:=by
  intro H hO hS hok jN hA hK;have aR:∀{b:kR}{o:tF},ab.heap.get? b=uM o->H b=uN->(hidT ab.heap H).get? b=uM o:=λe n=>zkZ_ e n
  have cu:∀{b:kR}{o:tF}{es:Array DictEntry}{ep:Nat},ab.heap.get? b=uM o->o.data=.dict es ep->H b=uN:=λ{b o es ep} e d=>by
   cases q:H b with
   |none=>rfl
   |some u=>
    rcases hA b (by rw[q];simp)with e' |⟨p',q',e'⟩
    ·subst e'
     rw[ha]at e;cases e;have d':Data.seq vs.toArray _=Data.dict es ep:=d;cases d'
    ·have z:=(hT _ _ _ e').2.2
     rw[z]at e;cases e;cases d
  have fA:∀{b:kR}{m:Str->Option aU},ab.heap.Ns b m->(hidT ab.heap H).Ns b m:=λ{b m} ⟨o,es,ep,e,d,r⟩=>⟨o,es,ep,aR e (cu e d),d,r⟩
  have iK:K.In (hidT ab.heap H):=λb o e=>aR (KX b o e) (by
   cases q:H b with
   |none=>rfl
   |some u=>
    rcases hA b (by rw[q];simp)with e' |⟨p',q',e'⟩
    ·subst e'
     rw[hK (by rw[q];simp)]at e;cases e
    ·rw[(hT _ _ _ e').1]at e;cases e)
  have hM:Mod K mg (hidT ab.heap H):=⟨iK,fA cM,⟨mb,fA hb,gS⟩,let⟨mc,h1,h2⟩:=gC;⟨mc,fA h1,h2⟩,by
   obtain⟨bm,ob,b1,b2,b3,b4,b5,b6⟩:=jJ;refine⟨bm,ob,b1,b2,aR b3 ?_,b4,b5,b6⟩;cases q:H bm with
   |none=>rfl
   |some u=>
    rcases hA bm (by rw[q];simp)with e' |⟨p',q',e'⟩
    ·subst e'
     rw[ha]at b3;cases b3;have z:oO "list"=oO "module":=b4;injection z with z;exact absurd z (by decide)
    ·have z:=(hT _ _ _ e').2.2
     rw[z]at b3;cases b3;cases b4⟩
  have e0:Env0 P w K mg (hidT ab.heap H) callerA [] ab H:=⟨rfl,hM,λb o e=>znP_ e,qv (zib_ _ _),trivial,λb hb=>absurd (show b∈([]:List kR)from hb) (by simp),hok,.of_eq hg,jN⟩
  refine codeAny_mono ((F _ iK (fA cM)).run callerA [] ab H ⟨[.ref a],[]⟩ [.ref a] [.ref a] _ _ hr e0 (eT ab (.ref a)) (.cons rfl .nil) (dG H hO hS)) λr s' h=>?_
  cases r with
  |error e=>exact(gV H e s' h).elim
  |ok fl=>
   cases fl with
   |next=>exact lU h
   |brk=>exact lU h
   |cont=>exact lU h
   |ret u=>
    obtain⟨v,H',os,bare,un,hok',r',q⟩:=h;have q':v=.bl uO:=q;subst q';obtain rfl:u=oA uO:=r';have both:∀b o,ab.heap.get? b=uM o->asItWas ab.heap s'.heap b o/\∃o',s'.heap.get? b=uM o':=λb o e=>by
     cases q:H b with
     |none=>
      have z:=un.keep b o e q (by intro z;exact absurd (show b∈([]:List kR)from z) (by simp)) (by simp)
      exact⟨.inl z,_,z⟩
     |some u=>
      rcases hO b with z |⟨ob,xs,z⟩|⟨p',q',z⟩
      ·rw[q]at z;cases z
      ·have z2:=un.frzs b ob _ z
       obtain⟨e1,_⟩:=hok b _ z;obtain⟨e2,_⟩:=hok' b _ z2;rw[e]at e1;cases e1;exact⟨.inl e2,_,e2⟩
      ·obtain⟨ps,e2,_⟩:=hok' b _ (un.tbls b p' q' z)
       rcases hA b (by rw[q];simp)with e' |⟨p1,q1,e'⟩
       ·subst e'
        obtain⟨ke,e3,_⟩:=hok b _ z;rw[ha]at e3;cases e3
       ·obtain⟨_,ht,e3⟩:=hT _ _ _ e'
        rw[e]at e3;cases e3;exact⟨.inr (.inl ⟨ht,rfl,#[],ps,rfl,by rw[Array.empty_append];exact e2⟩),_,e2⟩
    exact⟨rfl,⟨λb o e=>(both b o e).1,λb o e=>(both b o e).2⟩,os,bare⟩
 obtain⟨T,t1,t2,t3⟩:∃T:Hp,Tb K T/\(∀b u,T b=uM u->∃p q,lamK K=uM (b,p,q)/\u=.tbl p q)/\T a=uN:=by
  cases hq:lamK K with
  |none=>exact⟨λ_=>uN,λ_ _ _ e=>(by rw[hq]at e;cases e),λ_ _ e=>(by cases e),rfl⟩
  |some z=>
   obtain⟨Pt,pos,q⟩:=z;have na:a≠Pt:=λz=>by
    have e:=(hT _ _ _ hq).2.2;rw[<- z,ha]at e;cases e
   refine⟨λb=>if b=Pt then uM (.tbl pos q)else uN,λ_ _ _ e=>(by rw[hq]at e;cases e;exact if_pos rfl),λb u e=>?_,if_neg na⟩
   by_cases hb:b=Pt
   ·have e':=(if_pos hb).symm.trans e
    cases e';exact⟨pos,q,by rw[hb],rfl⟩
   ·have e':=(if_neg hb).symm.trans e
    cases e'
 have d_:∀(H:Hp) b p q,lamK K=uM (b,p,q)->ObjOk P w H ab.heap b (.tbl p q):=λH b p q e=>
  ⟨#[],(hT _ _ _ e).2.2,mP,λcv z=>by cases z⟩
 cases hk:K.lookup a with
 |some o=>
  have e:=KX a o hk;rw[ha]at e;cases e;refine core T (λb=>?_) (.inr ⟨_,vs.toArray,_,hk,rfl,rfl,rfl,by rw[kQ,fZ];exact hl,by simpa using rv⟩) (λb u z=>?_) t1 (λb z=>?_) λz=>absurd t3 z
  ·cases q:T b with
   |none=>exact .inl rfl
   |some u=>obtain⟨p',q',_,rfl⟩:=t2 b u q;exact .inr (.inr ⟨p',q',rfl⟩)
  ·obtain⟨p',q',e1,rfl⟩:=t2 b u z;exact d_ _ _ _ _ e1
  ·cases q:T b with
   |none=>exact absurd q z
   |some u=>obtain⟨p',q',e1,rfl⟩:=t2 b u q;exact .inr ⟨p',q',e1⟩
 |none=>
  refine core (upd T a (.frz {cls:=.type "list",data:=.seq vs.toArray} (.lst (ns.map V.int)))) (λb=>?_) (.inl (.inr ⟨{cls:=.type "list",data:=.seq vs.toArray},ze_⟩)) (λb u z=>?_) (λp' pos q e=>?_) (λb z=>?_) λ_=>hk
  ·by_cases hb:b=a
   ·rw[hb];exact .inr (.inl ⟨_,_,ze_⟩)
   ·rw[zc_ hb]
    cases q:T b with
    |none=>exact .inl rfl
    |some u=>obtain⟨p',q',_,rfl⟩:=t2 b u q;exact .inr (.inr ⟨p',q',rfl⟩)
  ·by_cases hb:b=a
   ·subst hb
    rw[ze_]at z;cases z;exact⟨ha,by rw[kE];exact hl,vs,_,rv,ha⟩
   ·rw[zc_ hb]at z
    obtain⟨p',q',e1,rfl⟩:=t2 b u z;exact d_ _ _ _ _ e1
  ·have z:=t1 p' pos q e
   rw[zc_ (λw=>by rw[w,t3]at z;cases z)];exact z
  ·by_cases hb:b=a
   ·exact .inl hb
   ·rw[zc_ hb]at z
    cases q:T b with
    |none=>exact absurd q z
    |some u=>obtain⟨p',q',e1,rfl⟩:=t2 b u q;exact .inr ⟨p',q',e1⟩
def lamOk (q:lN)(K:Fgg):Bool:=match lamK K with
 |none=>uO
 |some (P,_,_)=>(K.lookup P).isNone && ((recsOf q).find? λe=>e.name==(nG "put_in_order")).isSome
theorem znH_ {p:lN}{K:Fgg}{h:Heap}{loose:List Str}{fY:ExcName->Option aU}{mg mb:Str->Option aU}(T:Top p loose fY mg mb h)(X:K.In h)(hq:lamOk p K=uO):
  ∀Pt pos q,lamK K=uM (Pt,pos,q)->K.lookup Pt=uN/\isCodeTable h Pt/\h.get? Pt=uM {cls:=.none,data:=.fields #[]}:=λPt pos q e=>by
 unfold lamOk at hq;rw[e]at hq;obtain⟨h1,h2⟩:=lX.mp hq;obtain⟨d,hd⟩:=qc.mp h2;obtain⟨c,ht⟩:∃c,sQ K "put_in_order"=uM (c,Pt):=by
  unfold lamK at e;split at e
  ·split at e
   ·split at e
    ·rename_i z;cases e;exact⟨_,z⟩
    ·cases e
   ·cases e
  ·cases e
 obtain⟨a,b⟩:=W.tab_of T X hd ht;exact⟨nT.mp h1,(a.tab b).isCodeTable,b⟩
noncomputable def inClass (s:l8)(j:Nat):l8:=match s with
 |.ClassDef _ _ _ body _ _ _ _ _ _ _=>body.getD j (.Pass ⟨0,0,0,0⟩)
 |_=>.Pass ⟨0,0,0,0⟩
noncomputable def defArgs (s:l8):Arguments:=match s with
 |.FunctionDef _ a _ _ _ _ _ _ _ _=>a
 |_=>{posonlyargs:=[],args:=[],vararg:=uN,kwonlyargs:=[],kw_defaults:=[],kwarg:=uN,defaults:=[]}
noncomputable def defBody (s:l8):List l8:=match s with
 |.FunctionDef _ _ b _ _ _ _ _ _ _=>b
 |_=>[]
noncomputable def defScope (s:l8):Scope:=match s with
 |.FunctionDef _ _ _ _ _ _ sc _ _ _=>sc
 |_=>{kind:=.function,names:=[],isGenerator:=uP,isCoroutine:=uP}
abbrev CX0:CXT:=λ_ _ _ _ _ _=>False
abbrev E0:XK:=λ_ _ _=>False
structure Fun (K:Fgg)(x qual:Str)(st:l8)(f:kR)(fd:mH):Prop where
 ex:∃(oc:aU) (od:Option kR) (kV doc pm:aU) (an:Option kR) (ae ct:aU) (aq:Array (Option aU)),
  fd=W.fnOf x qual (defArgs st) (defBody st) (defScope st) .none kV doc pm an ae ct/\K.lookup f=uM ⟨oc,od,.func fd,aq⟩/\pJ K ae qual=uO
 kp:ox K (.ref f)=uO
section
variable {K:Fgg}
theorem Fun.binds {x qual:Str}{st:l8}{f:kR}{fd:mH}{ps:List Str}(F:Fun K x qual st f fd)
  (h:∀(kV doc pm:aU) (an:Option kR) (ae ct:aU) (us:List aU),us.length=ps.length->bindArgs (W.fnOf x qual (defArgs st) (defBody st) (defScope st) .none kV doc pm an ae ct) ⟨us,[]⟩=pure (ps.zip us)):Binds K fd ps []:=by
 obtain⟨oc,od,kV,doc,pm,an,ae,ct,aq,rfl,lk,au⟩:=F.ex;exact .all (h kV doc pm an ae ct)
theorem zmd_ {x qual:Str}{st:l8}{f:kR}{oc:aU}{od an:Option kR}{aq:Array (Option aU)}{kV doc pm ae ct:aU}(l:K.lookup f=uM ⟨oc,od,.func (W.fnOf x qual (defArgs st) (defBody st) (defScope st) .none kV doc pm an ae ct),aq⟩)
  (c:pJ K ae qual=uO) (k:ox K (.ref f)=uO):Fun K x qual st f (W.fnOf x qual (defArgs st) (defBody st) (defScope st) .none kV doc pm an ae ct):=⟨⟨oc,od,kV,doc,pm,an,ae,ct,aq,rfl,l,c⟩,k⟩
end
def Same (H H':Hp):Prop:=∀b o,H b=uM o->H' b=uM o
theorem Same.refl (H:Hp):Same H H:=λ_ _ h=>h
theorem Same.trans {H H1 H2:Hp}(a:Same H H1)(b:Same H1 H2):Same H H2:=λc o h=>b c o (a c o h)
theorem Same.free {H H':Hp}(e:Same H H'){l:kR}(h:H' l=uy):H l=uy:=by
 cases q:H l with
 |none=>rfl
 |some o=>
  rw[e l o q]at h;cases h
theorem Same.seq {K:Fgg}{H H':Hp}{a:kR}{xs:List V}(e:Same H H')(h:SqL K H a xs):SqL K H' a xs:=by
 rcases h with(h |⟨o,h⟩)|h
 ·exact .inl (.inl (e _ _ h))
 ·exact .inl (.inr ⟨o,e _ _ h⟩)
 ·exact .inr h
noncomputable def Itp (n:Nat)(f:Nat->V):It:=⟨λi _=>i<n,λi H x H'=>H'=H/\x=f i,λi _=>n<=i⟩
noncomputable def ownTups:List String:=["enumerate", "zip", "dict_itemiterator", "dict_reverseitemiterator", "odict_iterator", "itertools.zip_longest", "itertools.pairwise"]
theorem zhm_ {P:lN}{w:l7}{K:Fgg}{tg:lq}{it:kR}{n:Nat}{f:Nat->V}{Pw:Nat->aU->Prop}{St:Nat->Heap->Prop}
  (W:∀A:l9,A.handled=uN->Walks P w A it [it] [it] n Pw St) (hv:∀i v,i<n->Pw i v->RelV (f i) v)
  (ho:∀i h,St i h->∃o nm vs,h.get? it=uM o/\o.cls=.type nm/\o.data=.fields vs/\ownTups.contains nm=uP)
  (d7:∀(A:l9) (i:Nat) (s:kF) (Q:aU->kF->Prop) (E:aU->kF->Prop),St i s.heap->Q (.ref it) s->lJ (model P w) A (pyIter (.ref it)) Q E s)
  (eC:∀i h h',St i h->(∀b∈[it],∀o,h.get? b=uM o->h'.get? b=uM o)->St i h'):
  Turn P w K tg (Itp n f) [it] it (λi h=>i<=n/\St i h) where
 mem:=by simp
 obj:=λi h st b hb=>by
  have e:b=it:=by simpa using hb
  subst e;obtain⟨o,nm,vs,e,c,d,_⟩:=ho i h st.2;exact⟨o,e,λv z=>by rw[d]at z;cases z⟩
 keep:=λi h h' st k=>⟨st.1,eC i h h' st.2 k⟩
 item:=by
  intro X hP hw hK hc i pins s σ H E I hf st hg;subst hP hw hK;obtain⟨f0,f1,f2,f3,f4,f5⟩:=hf it (by simp)
  have hi:i<n:=hg;refine(W X.A (I.ok.hd hc)).item i s _ _ hi st.2 λv h' tk gq st' kk=>?_
  have I1:Inv X pins σ H {s with heap:=h',toks:=tk}:=I.turned (λb o hb e=>kk b o (by simpa using hb) e) f0 f1 f3 f4 f5
  obtain⟨o,nm,vs,e,c,d,hn⟩:=ho _ _ st';exact⟨_,rfl,zou_ (s:={s with heap:=h',toks:=tk}) (n:=nm) e c d hn ⟨f i,H,I1,hv i v hi gq,⟨rfl,rfl⟩,⟨hi,st'⟩,λb hb=>(hf b hb).1⟩⟩
 done:=by
  intro X hP hw hK hc i pins s σ H E I hf st hg;subst hP hw hK;obtain⟨f0,f1,f2,f3,f4,f5⟩:=hf it (by simp)
  have hi:n<=i:=hg;have e:i=n:=sJ st.1 hi;subst e;exact(W X.A (I.ok.hd hc)).done s _ _ st.2 λh' tk kk=>⟨rfl,I.turned (λb o hb e=>kk b o (by simpa using hb) e) f0 f1 f3 f4 f5⟩
 self:=λA i s Q E st h=>d7 A i s Q E st.2 h
def sgn (x:Str)(i:Nat):V:=.str ⟨#[x.cps.getD i 0]⟩
theorem zhM_ {P:lN}{w:l7}{it:kR}{x:Str}{t:Tok}(A:l9)(hA:A.handled=uN):Walks P w A it [it] [it] x.cps.size (SignAt x) (λi h=>h.IsStrIter it (mw x) x t i):=by
 cases ha:x.cps.all (·<128)
 ·have e:mw x="str_iterator":=by simp[mw,ha]
  rw[e];exact Walks.strWide hA it x t
 ·have e:mw x="str_ascii_iterator":=by simp[mw,ha]
  rw[e];exact Walks.strAscii hA it x t
theorem zdn_ {x:Str}{i:Nat}{v:aU}(h:SignAt x i v):RelV (sgn x i) v:=by
 obtain⟨c,u,e,rfl⟩:=h;refine⟨u,?_⟩;have:x.cps.getD i 0=c:=by simp[mW,e]
 rw[this]
theorem zcE_ (x:Str):ownTups.contains (mw x)=uP:=by
 unfold mw;split<;>decide
theorem zkJ_ {P:lN}{w:l7}{K:Fgg}{tg:lq}(it:kR)(x:Str)(t:Tok):Turn P w K tg (Itp x.cps.size (sgn x)) [it] it (λi h=>i<=x.cps.size/\h.IsStrIter it (mw x) x t i):=by
 refine zhm_ (Pw:=SignAt x) (λA hA=>zhM_ A hA) (λi v _ h=>zdn_ h) (λi h st=>?_) (λA i s Q E st h=>?_) (λi h h' st k=>?_)
 ·obtain⟨o,e,c,d⟩:=st
  exact⟨o,_,_,e,c,d,zcE_ x⟩
 ·cases ha:x.cps.all (·<128)
  ·have e:mw x="str_iterator":=by simp[mw,ha]
   rw[e]at st;exact wpAny_pyIter_striter_wide st h
  ·have e:mw x="str_ascii_iterator":=by simp[mw,ha]
   rw[e]at st;exact wpAny_pyIter_striter_ascii st h
 ·obtain⟨o,e,r⟩:=st
  exact⟨o,k it (by simp) o e,r⟩
section
end
theorem Inv.turnedL {X:Cx}{pins:Pnn}{σ:St}{H:Hp}{s:kF}{h':Heap}{t':Nat}{ch:List kR}(I:Inv X pins σ H s)(k:∀b o,b∉ch->s.heap.get? b=uM o->h'.get? b=uM o)
  (hf:∀b∈ch,FpOk X pins H b):Inv X pins σ H {s with heap:=h',toks:=t'}:=by
 have dR:∀b u,H b=uM u->b∉ch:=λb u e z=>by rw[(hf b z).1]at e;cases e
 refine I.step (g':=s.gens) (d':=s.drawn) (ch:=ch) (λb hb=>?_) (λb o _ _ hc e _=>k b o hc e) (λb o _ _ hc e _=>⟨o.slots,k b o hc e⟩) (λ_ _ _ _ n=>n)
  (λb o hc e=>⟨o,k b o hc e⟩) (λ_ _ e=>e) (λ_ _ _ e=>e) (λ_ _ _ e=>e) (λm hm=>?_) (λb u e=>?_) I.bare
 ·obtain⟨f0,f1,f2,f3,f4,f5⟩:=hf b hb
  exact⟨f3,f1,f4,f5⟩
 ·obtain⟨o,es,ep,ho,r⟩:=hm
  exact⟨o,es,ep,k _ o (λz=>(hf _ z).2.1 rfl) ho,r⟩
 ·refine(I.hok b u e).stay (λc v hc q=>k c v ?_ q) (λ_ q=>q) λ_ _ q=>q
  rcases hc with z |z
  ·rw[z];exact dR b u e
  ·exact dR c _ z
theorem zeM_ {X:Cx}{pins:Pnn}{σ:St}{H:Hp}{s:kF}{h1:Heap}{tk:Nat}{fk:Tok}{e it:kR}{i:Nat}{x:aU}{y:V}{St:Heap->Prop}{elts:List lq}{kk:Nat}{pos:Pos}{E:aU->kF->Prop}
  (I:Inv X pins σ H s) (hf:∀b∈[e,it],FpOk X pins H b) (he:e<s.heap.objs.size) (hit:it<s.heap.objs.size) (cG:e≠it) (bG:IsEnumOut h1 e it ((i:Int)+1) x s.heap.objs.size) (ry:RelV y x)
  (ht:h1.get? s.heap.objs.size=uM {cls:=.type "tuple",data:=.seq #[.int i fk,x]}) (hz:h1.objs.size=s.heap.objs.size+1) (hk:∀b o,b≠e->b≠it->s.heap.get? b=uM o->h1.get? b=uM o)
  (jO:∀h2,oT e h1 h2->St h2):
  lJ (model X.prog X.w) X.A (letOwnedTupleGo (.Tuple elts kk pos) (.ref e) (.ref s.heap.objs.size)) (λ_ s2=>∃z H',Inv X pins σ H' s2/\RelV z (.ref s.heap.objs.size) /\
   (∃p,H p=uN/\z=.ref p/\H'=upd H p (.tup [.int i,y]))/\(IsEnum s2.heap e it ((i+1:Nat):Int) x/\St s2.heap)/\∀b∈[e,it],H' b=uN) E {s with heap:=h1,toks:=tk}:=by
 refine wpAny_letOwnedTupleGo_enum bG λh2 eI aQ=>?_
 replace aQ:oT e h1 h2:=aQ;have hp:H s.heap.objs.size=uN:=I.hok.fresh (kP _);have bo:s.heap.objs.size≠e:=oU he;have jw:s.heap.objs.size≠it:=oU hit;have I1:Inv X pins σ (upd H s.heap.objs.size (.tup [.int i,y])) {s with heap:=s.heap.push {cls:=.type "tuple",data:=.seq #[.int i fk,x]},toks:=tk}:=by
  refine I.laid (λb u q=>kH _ q) (kP _) ⟨?_,[.int i fk,x],.cons ⟨_,rfl⟩ (.cons ry .nil),⟨_,lG _ rfl,rfl,_,rfl⟩⟩
  show 2<=lg
  decide
 have eG:∀b∈[e,it],FpOk X pins (upd H s.heap.objs.size (.tup [.int i,y])) b:=λb hb=>by
  obtain⟨f0,r⟩:=hf b hb;refine⟨?_,r⟩;rw[zc_ (by rcases lA.mp hb with rfl |hb;exact bo.symm;rcases lA.mp hb with rfl |hb;exact jw.symm;cases hb)]
  exact f0
 have I2:Inv X pins σ (upd H s.heap.objs.size (.tup [.int i,y])) {s with heap:=h2,toks:=tk}:=by
  refine Inv.turnedL (s:={s with heap:=s.heap.push {cls:=.type "tuple",data:=.seq #[.int i fk,x]},toks:=tk}) (ch:=[e,it]) I1 (λb o hb q=>?_) eG
  have iq:b≠e:=λz=>hb (by simp[z])
  have i3:b≠it:=λz=>hb (by simp[z])
  refine(aQ.2 b iq).trans ?_;rcases qQ q with⟨rfl,rfl⟩|q'
  ·exact ht
  ·exact hk b o iq i3 q'
 refine⟨.ref s.heap.objs.size,_,I2,rfl,⟨s.heap.objs.size,hp,rfl,rfl⟩,⟨?_,jO h2 aQ⟩,λb hb=>(eG b hb).1⟩
 have:((i+1:Nat):Int)=(i:Int)+1:=by push_cast;rfl
 rw[this];exact eI
def Ite (K:Fgg)(l:kR):It:=
 ⟨λi H=>∃xs x,SqL K H l xs/\xs[i]?=uM x,λi H y H'=>∃p x,(∀xs,SqL K H l xs->xs[i]?=uM x)/\H p=uN/\y=.ref p/\H'=upd H p (.tup [.int i,x]),λi H=>∃xs,SqL K H l xs/\xs.length<=i⟩
theorem zfz_ {P:lN}{w:l7}{K:Fgg}{elts:List lq}{kk:Nat}{pos:Pos}(e it l:kR)(cG:e≠it):
  Turn P w K (.Tuple elts kk pos) (Ite K l) [e,it] e (λi h=>(∃old,IsEnum h e it (i:Nat) old)/\h.IsListIter it l i) where
 mem:=by simp
 obj:=λi h st b hb=>by
  obtain⟨⟨old,he⟩,o,ho,c,d⟩:=st;rcases lA.mp hb with rfl |hb
  ·exact⟨_,he,λv z=>by cases z⟩
  ·have e:b=it:=by simpa using hb
   subst e;exact⟨o,ho,λv z=>by rw[d]at z;cases z⟩
 keep:=λi h h' st k=>by
  obtain⟨⟨old,he⟩,hit⟩:=st;exact⟨⟨old,k e (by simp) _ he⟩,hit.at λo q=>k it (by simp) o q⟩
 item:=by
  intro X hP hw hK hc i pins s σ H E I hf st hg;subst hP hw hK;obtain⟨xs,x,hq,hx⟩:=hg;obtain⟨aa,rv,p,hz⟩:=I.list hq;obtain⟨u,hu,ru⟩:=rv.get hx;obtain⟨⟨old,he⟩,hit⟩:=st;refine wpAny_pyNext_enum_item he hit p.isList (x:=u) (by simpa using hu) cG λh1 bG df gr gj eD=>?_
  refine⟨_,rfl,?_⟩;have gN:e<s.heap.objs.size:=k8 he;have hil:it<s.heap.objs.size:=by obtain⟨o,ho,_⟩:=id hit;exact k8 ho
  refine thn (zeM_ (St:=λh2=>h2.IsListIter it l (i+1)) I hf gN hil cG bG ru gr gj eD λh2 hs=>df.extBut hs.extBut cG.symm) λ_ s2 q=>?_
  obtain⟨z,H',I2,rz,⟨p,hp,rfl,rfl⟩,⟨eI,hit2⟩,fr⟩:=q;exact⟨.ref p,_,I2,rz,⟨p,x,λys hy=>by rw[I.list_inj hy hq];exact hx,hp,rfl,rfl⟩,⟨⟨u,eI⟩,hit2⟩,fr⟩
 done:=by
  intro X hP hw hK hc i pins s σ H E I hf st hg;subst hP hw hK;obtain⟨xs,hq,hx⟩:=hg;obtain⟨aa,rv,p,hz⟩:=I.list hq;obtain⟨⟨old,he⟩,hit⟩:=st;have hl:=rv.length;obtain⟨f0,f1,f2,f3,f4,f5⟩:=hf it (by simp)
  exact wpAny_pyNext_enum_end (I.ok.hd hc) he hit p.isList (by simp;lia) λh' eb=>⟨rfl,I.turned (t':=s.toks) (λb o hb e=>eb b o hb e) f0 f1 f3 f4 f5⟩
 self:=λ_ _ _ _ _ st h=>by
  obtain⟨⟨old,he⟩,_⟩:=st;exact wpAny_pyIter_enum he h
theorem zeH_ {P:lN}{w:l7}{it:kR}{x:Str}{t:Tok}(A:l9)(hA:A.handled=uN):Draws P w A it [it] x.cps.size (λi v=>∃c u,x.cps[i]?=uM c/\v=.str ⟨#[c]⟩ u) (λi h=>h.IsStrIter it (mw x) x t i):=by
 cases ha:x.cps.all (·<128)
 ·have e:mw x="str_iterator":=by simp[mw,ha]
  rw[e];exact Draws.strWide hA it x t
 ·have e:mw x="str_ascii_iterator":=by simp[mw,ha]
  rw[e];exact Draws.strAscii hA it x t
def Ites (n:Nat)(f:Nat->V):It:=
 ⟨λi _=>i<n,λi H y H'=>∃p,H p=uN/\y=.ref p/\H'=upd H p (.tup [.int i,f i]),λi _=>n<=i⟩
theorem zgr_ {P:lN}{w:l7}{K:Fgg}{elts:List lq}{kk:Nat}{pos:Pos}(e it:kR)(x:Str)(t:Tok)(cG:e≠it):
  Turn P w K (.Tuple elts kk pos) (Ites x.cps.size (sgn x)) [e,it] e (λi h=>(∃old,IsEnum h e it (i:Nat) old)/\i<=x.cps.size/\h.IsStrIter it (mw x) x t i) where
 mem:=by simp
 obj:=λi h st b hb=>by
  obtain⟨⟨old,he⟩,_,o,ho,c,d⟩:=st;rcases lA.mp hb with rfl |hb
  ·exact⟨_,he,λv z=>by cases z⟩
  ·have e:b=it:=by simpa using hb
   subst e;exact⟨o,ho,λv z=>by rw[d]at z;cases z⟩
 keep:=λi h h' st k=>by
  obtain⟨⟨old,he⟩,hn,o,ho,r⟩:=st;exact⟨⟨old,k e (by simp) _ he⟩,hn,o,k it (by simp) o ho,r⟩
 item:=by
  intro X hP hw hK hc i pins s σ H E I hf st hg;subst hP hw hK;obtain⟨⟨old,he⟩,hn,hit⟩:=st;have hi:i<x.cps.size:=hg;refine wpAny_pyNext_enum_itemD (zeH_ X.A.in1 (I.ok.hd hc)) he hit hi cG (by simpa using cG) λu h1 tk hP bG df gr gj eD=>?_
  refine⟨_,rfl,?_⟩;have gN:e<s.heap.objs.size:=k8 he;have hil:it<s.heap.objs.size:=by obtain⟨o,ho,_⟩:=id hit;exact k8 ho
  have ru:RelV (sgn x i) u:=zdn_ hP;refine thn (zeM_ (St:=λh2=>h2.IsStrIter it (mw x) x t (i+1)) I hf gN hil cG bG ru gr gj eD λh2 hs=>?_) λ_ s2 q=>?_
  ·obtain⟨o,ho,r⟩:=df
   exact⟨o,(hs.2 it cG.symm).trans ho,r⟩
  ·obtain⟨z,H',I2,rz,⟨p,hp,rfl,rfl⟩,⟨eI,hit2⟩,fr⟩:=q
   exact⟨.ref p,_,I2,rz,⟨p,hp,rfl,rfl⟩,⟨⟨u,eI⟩,hi,hit2⟩,fr⟩
 done:=by
  intro X hP hw hK hc i pins s σ H E I hf st hg;subst hP hw hK;obtain⟨⟨old,he⟩,hn,hit⟩:=st;have hi:x.cps.size<=i:=hg;have ei:i=x.cps.size:=sJ hn hi;subst ei;obtain⟨f0,f1,f2,f3,f4,f5⟩:=hf it (by simp)
  exact wpAny_pyNext_enum_endD (zeH_ X.A.in1 (I.ok.hd hc)) he hit λh' eb=>⟨rfl,I.turned (t':=s.toks) (λb o hb e=>eb b o hb e) f0 f1 f3 f4 f5⟩
 self:=λ_ _ _ _ _ st h=>by
  obtain⟨⟨old,he⟩,_⟩:=st;exact wpAny_pyIter_enum he h
section
variable {prog:lN}{w:l7}{A:l9}{R:Result->kF->Prop}{s:kF}
theorem ze1_ {elt target iter:lq}{ifs:List lq}{scope:Scope}{pos:Pos}{it acc:aU}{env:Env}(I:Nat->kF->Prop)
  (turn:∀n s,I n s->lJ (model prog w) A (pyNext it) (λr ab=>match r with
   |none=>R (.ok .next) ab
   | some v=>lJ (model prog w) A (letOwnedTupleGo target it v) (λ_ aO=>lJ (model prog w) A (assign target env v) (λ_ az=>
     lJ (model prog w) A (forIn ifs uO λc r=>if r=uO then do let ok <- isTrue c env (eval c env);pure (ForInStep.yield ok)else pure (ForInStep.yield r)) (λok bI=>
      if ok=uO then lJ (model prog w) A (eval elt env) (λx dM=>
       lJ (model prog w) A (call (.builtin "list.append") [acc,x]) (λ_ dJ=>∃m,m<n/\I m dJ) (λ_ _=>False) dM) (λ_ _=>False) bI
      else∃m,m<n/\I m bI) (λ_ _=>False) az) (λ_ _=>False) aO) (λ_ _=>False) ab) (λ_ _=>False) s)
  (n:Nat) (h:I n s):
  codeAny (model prog w) A (.compLoop (.ListComp elt [⟨target,iter,ifs,0⟩] scope pos) 0 it acc env) R s:=by
 refine codeAny_loop rfl I (λn s hI=>?_) n h
 show lJ _ A ((compTurn (.ListComp elt [⟨target,iter,ifs,0⟩] scope pos) 0 it acc env).onRaise (λx=>do noteFrame x env;theTreesLotGoes x)) _ _ s
 refine wpAny_noted ?_;rw[compTurn_list];refine kJ (wpAny_standAt (kJ (mM (turn n s hI) (λr ab aC=>?_) λ_ _ h'=>h'.elim)))
 cases r with
 |none=>exact lE aC
 |some v=>
  refine kJ (mM aC (λ_ aO bR=>?_) λ_ _ h'=>h'.elim)
  refine kJ (mM bR (λ_ az bQ=>kJ (mM bQ (λok bI dZ=>?_) λ_ _ h'=>h'.elim)) λ_ _ h'=>h'.elim)
  cases ok with
  |false=>exact lE ⟨rfl,dZ⟩
  |true=>
   exact kJ (kJ (mM dZ (λx dM gg=>kJ (mM gg (λ_ dJ gf=>lE (lE ⟨rfl,gf⟩)) λ_ _ h'=>h'.elim)) λ_ _ h'=>h'.elim))
end
noncomputable def closeL (cells:List (Str×kR)):List (Str×nL)->List (Str×kR)->Option (List (Str×kR))
 |[],acc=>uM acc
 |(n,k)::r,acc=>if(k == .free)=uO then(match cells.lookup n with |some c=>closeL cells r ((n,c)::acc)|none=>uN)else closeL cells r acc
theorem zbZ_ {env:Env}{f:Str×nL->List (Str×kR)->Sem (ForInStep (List (Str×kR)))}
  (hf:∀n k cs,f (n,k) cs=if(k == NameKind.free)=uO then(do let c <- cellOf env n;pure (ForInStep.yield ((n,c)::cs)))else pure (ForInStep.yield cs)):
  ∀(names:List (Str×nL)) (acc cl:List (Str×kR)),closeL env.cells names acc=uM cl->(forIn names acc f:Sem (List (Str×kR)))=pure cl
 |[],acc,cl,h=>by cases h;rfl
 |(n,k)::r,acc,cl,h=>by
  rw[List.forIn_cons,hf];unfold closeL at h;by_cases hk:(k == NameKind.free)=uO
  ·rw[if_pos hk]at h
   rw[if_pos hk];cases hc:env.cells.lookup n with
   |none=>rw[hc]at h;cases h
   |some c=>
    rw[hc]at h;have e:cellOf env n=pure c:=by unfold cellOf;rw[hc]
    rw[e];simp only[pure_bind];exact zbZ_ hf r _ cl h
  ·rw[if_neg hk]at h
   rw[if_neg hk];simp only[pure_bind];exact zbZ_ hf r _ cl h
theorem zbG_ {env:Env}{scope:Scope}{cl:List (Str×kR)}(h:closeL env.cells scope.names []=uM cl):closureFor scope env=pure cl:=by
 unfold closureFor;dsimp only;rw[zbZ_ (env:=env) (λn k cs=>rfl) scope.names [] cl h]
 rfl
theorem zap_ {cells:List (Str×kR)}:∀(names:List (Str×nL)) (acc cl:List (Str×kR)),closeL cells names acc=uM cl->(∀x c,acc.lookup x=uM c->cells.lookup x=uM c) ->
  (∀x c,cl.lookup x=uM c->cells.lookup x=uM c)
 |[],acc,cl,h,ha=>by cases h;exact ha
 |(n,k)::r,acc,cl,h,ha=>by
  unfold closeL at h;by_cases hk:(k == NameKind.free)=uO
  ·rw[if_pos hk]at h
   cases hc:cells.lookup n with
   |none=>rw[hc]at h;cases h
   |some c=>
    rw[hc]at h;refine zap_ r _ cl h λx c' e=>?_
    rw[pH]at e;cases hx:x == n with
    |true=>rw[hx]at e;cases e;rw[eq_of_beq hx];exact hc
    |false=>rw[hx]at e;exact ha x c' e
  ·rw[if_neg hk]at h
   exact zap_ r _ cl h ha
theorem z5_ {cells:List (Str×kR)}:∀(names:List (Str×nL)) (acc cl:List (Str×kR)),closeL cells names acc=uM cl->∀x,((x,NameKind.free)∈names\/∃c,acc.lookup x=uM c)->∃c,cl.lookup x=uM c
 |[],acc,cl,h,x,hx=>by
  cases h;rcases hx with hx |hx
  ·cases hx
  ·exact hx
 |(n,k)::r,acc,cl,h,x,hx=>by
  unfold closeL at h;by_cases hk:(k == NameKind.free)=uO
  ·rw[if_pos hk]at h
   cases hc:cells.lookup n with
   |none=>rw[hc]at h;cases h
   |some c=>
    rw[hc]at h;refine z5_ r _ cl h x ?_;rcases hx with hx |⟨c',e⟩
    ·rcases lA.mp hx with e |hx
     ·cases e;exact .inr ⟨c,by rw[pH,beq_self_eq_true]⟩
     ·exact .inl hx
    ·refine .inr ?_
     rw[pH];cases hxn:x == n with
     |true=>exact⟨c,rfl⟩
     |false=>exact⟨c',e⟩
  ·rw[if_neg hk]at h
   refine z5_ r _ cl h x ?_;rcases hx with hx |hx
   ·rcases lA.mp hx with e |hx
    ·cases e;exact absurd rfl hk
    ·exact .inl hx
   ·exact .inr hx
theorem zaI_ {scope:Scope}{env:Env}{x:Str}{k:nL}(h:(relabel scope env).names.lookup x=uM k)(hk:k=.cell\/k=.free)(bu:∀y∈scope.names,y.2≠.cell):(x,NameKind.free)∈scope.names:=by
 have m:=mi h;obtain⟨⟨n,k0⟩,hm,e⟩:=mz.mp m;dsimp only at e;split at e
 ·rename_i hc
  cases e;have:k0=.free:=by
   simp only[ky,beq_iff_eq]at hc;exact hc.1.1
  subst this;exact hm
 ·cases e
  rcases hk with rfl |rfl
  ·exact absurd rfl (bu _ hm)
  ·exact hm
def cxComp (X:Cx)(scope:Scope)(cl:List (Str×kR))(C:kR)(N:List Str)(fp:List kR)(s2:kF)(H2:Hp):Cx where
 prog:=X.prog
 w:=X.w
 K:=X.K
 mg:=X.mg
 base:=X.base
 A:=X.A
 N:=N
 s₀:=s2
 H₀:=H2
 env:=compEnvC scope cl C X.env
 outer:=X.stack
 stack:=X.stack
 ex:=fp
 fn:=λ_=>uP
 calm:=X.calm
 pn:=[]
 xe:=λ_ _=>False
structure CScope (X:Cx)(scope:Scope)(cl:List (Str×kR))(lv:List Str)(fr:List (Str×Nat)):Prop where
 clos:closeL X.env.cells scope.names []=uM cl
 cell:∀y∈scope.names,y.2≠.cell
 kind:scope.kind=.function
 names:∀z∈scope.names,z.2=.local->scope.names.lookup z.1=uM .local
 fr:∀q∈fr,X.N[q.2]?=uM q.1/\(q.1,NameKind.free)∈scope.names/\(X.env.kindOf q.1=uM .cell\/X.env.kindOf q.1=uM .free) /\
  ((relabel scope X.env).names.lookup q.1=uM .cell\/(relabel scope X.env).names.lookup q.1=uM .free)
noncomputable def cN (lv:List Str)(fr:List (Str×Nat)):List Str:=lv++fr.map (·.1)
def cS (lv:List Str)(fr:List (Str×Nat))(σ:St):St:=lv.map (λ_=>uN)++fr.map λq=>(σ[q.2]?).join
theorem zkQ_ {X:Cx}{pins:Pnn}{σ:St}{H2:Hp}{s2:kF}{scope:Scope}{cl:List (Str×kR)}{lv:List Str}{fr:List (Str×Nat)}{fp:List kR}{h4:Heap}{tk:Nat}{m:Str->Option aU}{n:Nat}
  (I:Inv X pins σ H2 s2) (S:CScope X scope cl lv fr) (hf:∀b∈fp,FpOk X pins H2 b) (ay:∀b∈fp,b<s2.heap.objs.size) (hC:h4.Ns (s2.heap.objs.size+1) m) (hD:h4.get? s2.heap.objs.size=uM {cls:=.type "list",data:=.seq #[] n})
  (hk:∀b o,s2.heap.get? b=uM o->h4.get? b=uM o):
  Inv (cxComp X scope cl (s2.heap.objs.size+1) (cN lv fr) fp s2 H2) [] (cS lv fr σ) (upd H2 s2.heap.objs.size (.lst [])) {s2 with heap:=h4,toks:=tk}:=by
 have aS:=zap_ scope.names [] cl S.clos (λx c e=>by cases e)
 have bV:=z5_ scope.names [] cl S.clos;have fN:H2 s2.heap.objs.size=uN:=I.hok.fresh (kP _);have fP:H2 (s2.heap.objs.size+1)=uN:=I.hok.fresh (nj _);have jS:s2.heap.objs.size+1≠s2.heap.objs.size:=oU (pF _);have jU:∀b∈fp,(b∈X.ex\/X.s₀.heap.objs.size<=b):=λb hb=>(hf b hb).2.2.2.1
 have dy:∀x c,cl.lookup x=uM c->c<s2.heap.objs.size:=λx c e=>by
  obtain⟨v,o,ho,_⟩:=I.cell x c (aS x c e);exact k8 ho
 refine⟨⟨I.ok.mod,S.kind,I.ok.glob,I.ok.blt,nj _,λx y c h1 h2=>I.ok.inj x y c (aS x c h1) (aS y c h2),λx hx=>?_,λx c di=>(by cases di),I.ok.hd,I.ok.frames,.inl rfl,λb hb=>?_,I.bs,mN I.ok.bsz I.sz,λb o e hb=>?_,λb hb z=>?_,I.stack,I.stkFree,I.tb⟩,
  rfl,I.bare,?_,⟨m,hC,λi x v h1 h2 h3=>?_⟩,λx c e=>?_,?_,λx c e=>?_,λp hp=>absurd (show p∈([]:Pnn)from hp) (by simp),?_,?_⟩
 ·-- has
  have dE:(relabel scope X.env).names.lookup x=uM .cell\/(relabel scope X.env).names.lookup x=uM .free:=hx;have hm:(x,NameKind.free)∈scope.names:=dE.elim (λz=>zaI_ z (.inl rfl) S.cell) λz=>zaI_ z (.inr rfl) S.cell
  exact bV x (.inl hm)
 ·-- exf
  obtain⟨f0,f1,f2,f3,f4,f5⟩:=hf b hb;refine⟨λz=>?_,λx c e=>f4 x c (aS x c e)⟩
  have z':b=s2.heap.objs.size+1:=z;have:=ay b hb;rw[z']at this;exact absurd this (Nat.not_lt.mpr (nj _))
 ·rcases jU b hb with z |z
  ·exact I.ok.noex b o e z
  ·exact absurd (lH (lH (k8 e) I.ok.bsz) z) (oh _)
 ·obtain⟨f0,f1,f2,_⟩:=hf b hb
  rcases lA.mp (I.stkSub b z)with q |q
  ·exact f1 q
  ·exact f2 q
 ·exact Un.laid hk (kP _) fN
 ·-- loc
  have h1':(lv++fr.map (·.1))[i]?=uM x:=h1;have aL:(lv.map (λ_=>uN)++fr.map λq=>(σ[q.2]?).join:St)[i]?=uM (uM v):=h2
  by_cases hi:i<lv.length
  ·rw[mF (by simpa using hi),kZ]at aL
   cases hq:lv[i]? with
   |none=>rw[hq]at aL;cases aL
   |some z=>rw[hq]at aL;cases aL
  ·rw [mD (by simpa using hi),kZ]at aL
   rw[mD (by lia),kZ]at h1'
   simp only[kE]at aL;cases hq:fr[i-lv.length]? with
   |none=>rw[hq]at h1';cases h1'
   |some q=>
    rw[hq]at h1' aL;have e1:q.1=x:=lP h1';have e2:(σ[q.2]?).join=uM v:=lP aL;have e3:σ[q.2]?=uM (uM v):=by
     cases hz:σ[q.2]? with
     |none=>rw[hz]at e2;cases e2
     |some z=>rw[hz]at e2;exact congrArg uM e2
    obtain⟨g1,g2,g3,g4⟩:=S.fr q (mU hq);obtain⟨m0,hn0,de⟩:=I.loc;have fS:Vis X.env.scope q.1:=by
     rcases g3 with g3 |g3
     ·exact .inr (.inl g3)
     ·exact .inr (.inr g3)
    obtain⟨u,r,l⟩:=de q.2 q.1 v g1 e3 fS;refine⟨u,r,.inr ⟨?_,?_⟩⟩
    ·rw[<- e1];exact g4
    ·rcases l with⟨lk,_⟩|⟨_,c,ec,ic⟩
     ·rcases g3 with g3 |g3<;>(rw[lk]at g3;cases g3)
     ·obtain⟨c',ec'⟩:=bV q.1 (.inl g2)
      have:c'=c:=by
       have:=aS q.1 c' ec';rw[ec]at this;exact(lP this).symm
      subst this;obtain⟨o,ho,hd⟩:=ic;exact⟨c',by rw[<- e1];exact ec',o,hk _ _ ho,hd⟩
 ·obtain⟨v,o,ho,hd⟩:=I.cell x c (aS x c e)
  exact⟨v,o,hk _ _ ho,hd⟩
 ·show upd H2 _ _ (s2.heap.objs.size+1)=uN
  rw[zc_ jS];exact fP
 ·have:=dy x c e
  rw[zc_ (lI this)];exact I.freeC x c (aS x c e)
 ·exact I.hok.laid hk (kP _) ⟨me _,[],n,.nil,hD⟩
 ·show(cS lv fr σ).length=(cN lv fr).length
  simp[cS,cN]
def PIf (X:Cx)(ifs:List lq)(t:TT):Prop:=
 ∀(pins:Pnn) (s:kF) (σ:St) (H:Hp) (Q:Bool->Hp->Prop),Inv X pins σ H s->t σ H Q ->
  lJ (model X.prog X.w) X.A (forIn ifs uO λc r=>if r=uO then do let ok <- isTrue c X.env (eval c X.env);pure (ForInStep.yield ok)else pure (ForInStep.yield r)) (TP X pins σ Q) X.xe s
def tTrue:TT:=λ_ H Q=>Q uO H
theorem zn7_ {X:Cx}:PIf X [] tTrue:=λpins s σ H Q I h=>wpAny_tests_nil ⟨H,I,h⟩
theorem znT_ {X:Cx}{c:lq}{t:TT}(h:PT X c t):PIf X [c] t:=λpins s σ H Q I hw=>wpAny_tests_one (h pins s σ H Q I hw)
def tCompR (J:It)(g:TG)(tt:TT)(te:TE)(iT:St)(H1:Hp)(Q:VK):Prop:=
 ∀ D,H1 D=uN->∃W:Nat->Nat->List V->St->Hp->Prop,(∃m,W 0 m [] iT (upd H1 D (.lst [])))/\∀i m ys σ H,W i m ys σ H ->
  (J.stop i H/\Q (.ref D) H)\/(J.go i H/\∃N:List V->St->Hp->Prop,(∀cp ai H',N cp ai H'->∃m',m'<m/\W (i+1) m' cp ai H') /\
   ∀x H',J.yld i H x H'->g x σ H' λdz H2=>tt dz H2 λb H3=>if b=uO then te dz H3 λv H4=>H4 D=uM (.lst ys)/\ys.length<lg/\N (ys++[v]) dz (upd H4 D (.lst (ys++[v])))else N ys dz H3)
section
variable {X:Cx}{scope:Scope}{cl:List (Str×kR)}{lv:List Str}{fr:List (Str×Nat)}{elt tg iter:lq}{ifs:List lq}{pos:Pos}{g:TG}{tt:TT}{te:TE}
theorem zdM_ {pins:Pnn}{σ:St}{H2:Hp}{s2:kF}{it:kR}{fp:List kR}{tn:Nat->Heap->Prop}{J:It}{Q:VK}{E:aU->kF->Prop}{use:Option (aU->Sem Unit)}{Q':aU->kF->Prop}
  (I:Inv X pins σ H2 s2) (S:CScope X scope cl lv fr) (T:Turn X.prog X.w X.K tg J fp it tn) (st:tn 0 s2.heap) (hf:∀b∈fp,FpOk X pins H2 b) (hc:X.calm=uO)
  (hg:∀C fp s2 H2,PG (cxComp X scope cl C (cN lv fr) fp s2 H2) tg g) (ht:∀C fp s2 H2,PIf (cxComp X scope cl C (cN lv fr) fp s2 H2) ifs tt) (he:∀C fp s2 H2,PE (cxComp X scope cl C (cN lv fr) fp s2 H2) elt te)
  (hq:tCompR J g tt te (cS lv fr σ) H2 Q)
  (fin:∀D C oC H' s',Inv X (pins++[(C,oC)]) σ H' s'->(∀h:Heap,h.get? C=uM oC->∃m,h.Ns C m)->FpOk X pins H' C->Q (.ref D) H'->compPost (model X.prog X.w) X.A E use Q' (.ref D) C (.ok .next) s'):
  lJ (model X.prog X.w) X.A (newList []) (λacc az=>lJ (model X.prog X.w) X.A (newFunctionEnv scope X.env.globals cl [] X.env.qual uN .none (uM X.env)) (λff bI=>
   codeAny (model X.prog X.w) X.A (.compStart (.ListComp elt [⟨tg,iter,ifs,0⟩] scope pos) 0 (.ref it) acc {ff with scope:=relabel scope X.env}) (compPost (model X.prog X.w) X.A E use Q' acc ff.locals) bI) E az) E s2:=by
 have ay:∀b∈fp,b<s2.heap.objs.size:=λb hb=>by
  obtain⟨o,ho,_⟩:=T.obj 0 _ st b hb;exact k8 ho
 refine wpAny_newList (wpAny_newFunctionEnv S.cell (by intro y hy;simp at hy) (λaC aY aP=>?_) S.kind)
 dsimp only at aY aP ⊢;have hsz:(s2.heap.push {cls:=.type "list",data:=.seq ([]:List aU).toArray}).objs.size=s2.heap.objs.size+1:=qN ..;rw[hsz]at aY aP ⊢;have old:∀b o,s2.heap.get? b=uM o->aC.get? b=uM o:=λb o e=>aP.extBut b o (lI (oN (k8 e))) (kH _ (kH _ e))
 have aD:aC.get? s2.heap.objs.size=uM {cls:=.type "list",data:=.seq #[]}:=aP.extBut _ _ (lI (pF _)) (kH _ (lG _ rfl));have I4:Inv (cxComp X scope cl (s2.heap.objs.size+1) (cN lv fr) fp s2 H2) [] (cS lv fr σ) (upd H2 s2.heap.objs.size (.lst [])) {s2 with heap:=aC,toks:=s2.toks+([]:List (Str×aU)).length}:=
  zkQ_ I S hf ay aY aD old
 generalize aV:cxComp X scope cl (s2.heap.objs.size+1) (cN lv fr) fp s2 H2=X' at I4
 have eP:X'.prog=X.prog:=by rw[<- aV];rfl
 have ew:X'.w=X.w:=by rw[<- aV];rfl
 have eK:X'.K=X.K:=by rw[<- aV];rfl
 have eA:X'.A=X.A:=by rw[<- aV];rfl
 have ec:X'.calm=uO:=by rw[<- aV];exact hc
 have ex:X'.xe=λ_ _=>False:=by rw[<- aV];rfl
 have du:X'.env=compEnvC scope cl (s2.heap.objs.size+1) X.env:=by rw[<- aV];rfl
 have jD:PG X' tg g:=aV ▸ hg _ _ _ _;have jf:PIf X' ifs tt:=aV ▸ ht _ _ _ _;have jG:PE X' elt te:=aV ▸ he _ _ _ _;obtain⟨W,⟨m0,w0⟩,turn⟩:=hq s2.heap.objs.size (I.hok.fresh (kP _));have ia:tn 0 aC:=T.keep _ _ _ st λb _ o e=>old b o e
 have f4:∀b∈fp,FpOk X' [] (upd H2 s2.heap.objs.size (.lst [])) b:=λb hb=>by
  obtain⟨f0,f1,f2,f3,f4,f5⟩:=hf b hb;have:=ay b hb;refine⟨?_,?_,?_,.inl ?_,?_,?_⟩
  ·rw[zc_ (lI this)];exact f0
  ·rw[du];exact lI (oN this)
  ·intro z
   have z':b∈frs X.stack:=by rw[<- aV]at z;exact z
   rcases lA.mp (I.stkSub b z')with q |q
   ·exact f1 q
   ·exact f2 q
  ·rw[<- aV];exact hb
  ·intro x c e
   rw[du]at e;exact f4 x c (zap_ scope.names [] cl S.clos (λx c e=>by cases e) x c e)
  ·intro p hp
   rw[<- aV]at hp;exact absurd (show p∈([]:Pnn)from hp) (by simp)
 have aW:∀{H':Hp},(∀b∈fp,H' b=uN)->∀b∈fp,FpOk X' [] H' b:=λhn b hb=>⟨hn b hb,(f4 b hb).2⟩
 have loop:∀az:kF,az={s2 with heap:=aC,toks:=s2.toks+([]:List (Str×aU)).length} ->
   codeAny (model X.prog X.w) X.A (.compLoop (.ListComp elt [⟨tg,iter,ifs,0⟩] scope pos) 0 (.ref it) (.ref s2.heap.objs.size) (compEnvC scope cl (s2.heap.objs.size+1) X.env))
    (compPost (model X.prog X.w) X.A E use Q' (.ref s2.heap.objs.size) (s2.heap.objs.size+1)) az:=by
  rintro az rfl;refine ze1_ (λn s'=>∃i ys ai H',Inv X' [] ai H' s'/\tn i s'.heap/\(∀b∈fp,H' b=uN)/\W i n ys ai H') ?_ m0 ⟨0,[],_,_,I4,ia,λb hb=>(f4 b hb).1,w0⟩
  rintro n s3 ⟨i,ys,bE,H3,I3,st3,fr3,w3⟩;rcases turn i n ys bE H3 w3 with⟨stop,qn⟩|⟨go,N,hN,step⟩
  ·have a0:=T.done X' eP ew eK ec i [] s3 bE H3 (λ_ _=>False) I3 (aW fr3) st3 stop
   rw[eA]at a0;refine thn a0 λr s4 af=>?_
   obtain⟨hr,I4'⟩:=af;subst hr;have un:Un (frs X.stack) fp H2 H3 s2.heap s4.heap:=by
    have:=I4'.base;rw[<- aV]at this;exact this
   have os:s4.os=s2.os:=by
    have:=I4'.os;rw[<- aV]at this;exact this
   have hok:HOk X.prog X.w H3 s4.heap:=by
    have:=I4'.hok;rw[<- aV]at this;exact this
   have J1:Inv X pins σ H3 s4:=I.call' os un hok I4'.bare λb hb=>by
    obtain⟨f0,f1,f2,f3,f4,f5⟩:=hf b hb;exact⟨f3,f1,f4,f5⟩
   obtain⟨m,hn,_⟩:=I4'.loc;have gB:s4.heap.Ns (s2.heap.objs.size+1) m:=by rw[du]at hn;exact hn
   have fP:H3 (s2.heap.objs.size+1)=uN:=by
    have:=I4'.free;rw[du]at this;exact this
   have fC:FpOk X pins H3 (s2.heap.objs.size+1):=I.fpOk (nj _) fP;obtain⟨oC,es,ep,hoC,hdC,rC⟩:=id gB;have J2:Inv X (pins++[(s2.heap.objs.size+1,oC)]) σ H3 s4:=J1.pins_of λp hp=>by
    rcases ny.mp hp with hp |hp
    ·exact J1.pin p (lM _ hp)
    ·have e:p=(s2.heap.objs.size+1,oC):=by simpa using hp
     subst e;exact⟨hoC,fP,fC.2.1,fC.2.2.1,λv z=>by rw[hdC]at z;cases z⟩
   exact fin _ _ oC H3 s4 J2 (λh e=>⟨m,oC,es,ep,e,hdC,rC⟩) fC qn
  ·have a0:=T.item X' eP ew eK ec i [] s3 bE H3 (λ_ _=>False) I3 (aW fr3) st3 go
   rw[eA]at a0;refine thn a0 λr s4 af=>?_
   obtain⟨u,hr,h4⟩:=af;subst hr;refine thn h4 λ_ s5 af=>?_
   obtain⟨x,H5,I5,r5,y5,st5,fr5⟩:=af;have hJ:=I5.pinned (aW fr5) (T.obj _ _ st5);have a1:=jD _ s5 bE H5 x u _ hJ r5 (step x H5 y5);rw[eP,ew,eA,du,ex]at a1;refine thn a1 λ_ s6 af=>?_
   obtain⟨bZ,H6,I6,q6⟩:=af;have a2:=jf _ s6 bZ H6 _ I6 q6;rw[eP,ew,eA,du,ex]at a2;refine thn a2 λok s7 af=>?_
   obtain⟨H7,I7,q7⟩:=af;have again:∀{fh:List V}{H7:Hp}{s7:kF},Inv X' ([]++pinsAt fp s5.heap) bZ H7 s7->N fh bZ H7->∃m,m<n/\∃i ys ai H',Inv X' [] ai H' s7/\tn i s7.heap/\(∀b∈fp,H' b=uN)/\W i m ys ai H':=λ{fh H7 s7} I7 n7=>by
    obtain⟨m',hm,w7⟩:=hN fh bZ H7 n7;refine⟨m',hm,i+1,fh,bZ,H7,I7.unpinned,T.keep _ _ _ st5 λb hb o e=>(I7.pin (b,o) (lM _ (lM _ (za2_ hb e)))).1,λb hb=>?_,w7⟩
    obtain⟨o,e,d⟩:=T.obj _ _ st5 b hb;exact(I7.pin (b,o) (lM _ (lM _ (za2_ hb e)))).2.1
   cases ok with
   |false=>exact again I7 q7
   |true=>
    have a3:=jG _ s7 bZ H7 _ I7 q7;rw[eP,ew,eA,du,ex]at a3;refine thn a3 λy s8 af=>?_
    obtain⟨v,H8,I8,r8,hD8,hl8,n8⟩:=af;have a4:=zcH_ (X:=X') _ s8 bZ H8 (.ref s2.heap.objs.size) [v] (.ref s2.heap.objs.size) [y] (λ_ H9=>N (ys++[v]) bZ H9) I8 rfl (.cons r8 .nil) ⟨_,_,_,rfl,rfl,hD8,hl8,n8⟩
    rw[eP,ew,eA,ex]at a4;refine thn a4 λ_ s9 af=>?_
    obtain⟨v9,H9,I9,_,n9⟩:=af;exact again I9 n9
 exact codeAny_compStart_list (loop _ rfl) (T.self _ 0 _ _ _ ia (loop _ rfl))
def tComp (lv:List Str)(fr:List (Str×Nat))(wi:TI)(g:TG)(tt:TT)(te:TE):TE:=λσ H Q=>wi σ H λJ H1=>tCompR J g tt te (cS lv fr σ) H1 Q
theorem znS_ {wi:TI}(hc:X.calm=uO)(S:CScope X scope cl lv fr)(hi:PI X tg iter wi)
  (hg:∀C fp s2 H2,PG (cxComp X scope cl C (cN lv fr) fp s2 H2) tg g) (ht:∀C fp s2 H2,PIf (cxComp X scope cl C (cN lv fr) fp s2 H2) ifs tt) (he:∀C fp s2 H2,PE (cxComp X scope cl C (cN lv fr) fp s2 H2) elt te)
  (hs:∀x,foldedSetIterable iter X.env x=pure x:=by intro _;rfl):PE X (.ListComp elt [⟨tg,iter,ifs,0⟩] scope pos) (tComp lv fr wi g tt te):=by
 intro pins s σ H Q I h;rw[eval_ListComp];refine wpAny_comprehension_free (use:=uN) rfl hs (zbG_ S.clos) S.kind S.names ?_;refine thn (hi pins s σ H _ I h) λv s1 h1=>thn h1 λfF s2 h2=>?_
 obtain⟨it,fp,tn,J,H2,e,I2,T,st2,f2,q⟩:=h2;subst e;refine zdM_ I2 S T st2 f2 hc hg ht he q λD C oC H' s' J1 gU fC qD=>?_
 have hp:=J1.pin (C,oC) (lM _ (lM _ (l5.mpr rfl)));obtain⟨m,hm⟩:=gU s'.heap hp.1;refine⟨m,hm,λh' cA=>?_⟩
 exact⟨.ref D,H',J1.unpinned.turned (t':=s'.toks) (λb o hb e=>(cA.2 b hb).trans e) fC.1 fC.2.1 fC.2.2.2.1 fC.2.2.2.2.1 fC.2.2.2.2.2,rfl,qD⟩
theorem zfs_ {wi:TI}{j:Nat}{y:Str}{py dO:Pos}(hc:X.calm=uO)(S:CScope X scope cl lv fr)(hi:PI X tg iter wi)
  (hg:∀C fp s2 H2,PG (cxComp X scope cl C (cN lv fr) fp s2 H2) tg g) (ht:∀C fp s2 H2,PIf (cxComp X scope cl C (cN lv fr) fp s2 H2) ifs tt) (he:∀C fp s2 H2,PE (cxComp X scope cl C (cN lv fr) fp s2 H2) elt te)
  (hy:PG X (.Name y py) (gName j))
  (ji:swapsWith (.ListComp elt [⟨tg,iter,ifs,0⟩] scope pos) (uM (.Name y py)) dO.line X.env=pure uO:=by rfl)
  (hs:∀x,foldedSetIterable iter X.env x=pure x:=by intro _;rfl):PS X (.Assign [.Name y py] (.ListComp elt [⟨tg,iter,ifs,0⟩] scope pos) dO) (tAsg (tComp lv fr wi g tt te) (gName j)):=by
 intro pins s σ H D I h;rw[exec_Assign_Name_used _ _ _ _ ji];refine kJ (wpAny_standAt (kJ ?_));show lJ _ X.A (do let _ <- comprehension (.ListComp elt [⟨tg,iter,ifs,0⟩] scope pos) scope X.env _ (newList []) uP (eval iter X.env) (uM (assign (.Name y py) X.env))) _ _ s
 refine kJ (mM (wpAny_comprehension_free (use:=uM (assign (.Name y py) X.env)) (Q:=λ_ s'=>SP X pins D .next s') rfl hs (zbG_ S.clos) S.kind S.names ?_) (λ_ s' hq=>lE (lE hq)) λ_ _ e=>e)
 refine thn (hi pins s σ H _ I h) λv s1 h1=>thn h1 λfF s2 h2=>?_
 obtain⟨it,fp,tn,J,H2,e,I2,T,st2,f2,q⟩:=h2;subst e;refine zdM_ I2 S T st2 f2 hc hg ht he q λD' C oC H' s' J1 gU fC qD=>?_
 show lJ _ X.A (assign (.Name y py) X.env (.ref D')) _ _ _
 refine thn (hy _ s' σ H' (.ref D') (.ref D') _ J1 rfl qD) λ_ s3 af=>?_
 obtain⟨bE,H3,I3,q3⟩:=af;have hp:=I3.pin (C,oC) (lM _ (lM _ (l5.mpr rfl)));obtain⟨m,hm⟩:=gU s3.heap hp.1;refine⟨m,hm,λh' cA=>?_⟩
 have fb:FpOk X pins H3 C:=⟨hp.2.1,fC.2⟩;exact⟨bE,H3,I3.unpinned.turned (t':=s3.toks) (λb o hb e=>(cA.2 b hb).trans e) fb.1 fb.2.1 fb.2.2.2.1 fb.2.2.2.2.1 fb.2.2.2.2.2,q3⟩
end
noncomputable abbrev tx (l:List Nat):V:=.str ⟨l.toArray⟩
def br (b:Bool)(A B:Prop):Prop:=(b=uO->A)/\(b=uP->B)
theorem zoi_ (a b:Str):a++b=⟨(a.cps.toList++b.cps.toList).toArray⟩:=by
 cases a;cases b;show Str.mk (_++_)=_
 simp
theorem zag_ (a:Str):a=⟨a.cps.toList.toArray⟩:=by cases a;simp
def cutL (l:List Nat)(lo hi:Option Int):List Nat:=(l.drop (HT.sIx l.length 0 lo)).take (HT.sIx l.length l.length hi-HT.sIx l.length 0 lo)
theorem zbS_ (lo hi:Option Int)(n:Nat):mX lo hi 1 n=sliceRange ((HT.sIx n 0 lo:Nat):Int) ((HT.sIx n n hi:Nat):Int) 1:=by
 unfold mX;simp only[show(1:Int) > 0 by decide,if_true]
 congr 1
 ·cases lo with
  |none=>simp[HT.sIx]
  |some i=>
   simp only[HT.sIx];by_cases h:i<0
   ·simp only[h,if_true]<;>lia
   ·simp only[h,if_false]<;>lia
 ·cases hi with
  |none=>simp[HT.sIx]
  |some i=>
   simp only[HT.sIx];by_cases h:i<0
   ·simp only[h,if_true]<;>lia
   ·simp only[h,if_false]<;>lia
theorem zft_ (x:Str)(lo hi:Option Int):(mX lo hi 1 x.length).filterMap (x.cps[·]?)=cutL x.cps.toList lo hi:=by
 rw[zbS_,sliceRange_one,pick_run];unfold cutL ng;simp only[my]
theorem zcz_ (l:List Nat)(lo hi:Option Int):(cutL l lo hi).length<=l.length:=by
 unfold cutL;rw[mC,mJ];lia
theorem zhY_ {l:List Nat}{lo hi:Option Int}(h:(cutL l lo hi).length=l.length):cutL l lo hi=l:=by
 unfold cutL at h ⊢;rw[mC,mJ]at h;have h1:HT.sIx l.length l.length hi<=l.length:=HT.sIx_le _ _ (kP _) _;by_cases hl:l.length=0
 ·have:l=[]:=ml.mp hl
  subst this;simp
 ·have h2:HT.sIx l.length 0 lo=0:=by lia
  rw[h2,qR,oE];lia
section
variable {X:Cx}
def rSlS:V->Option Int->Option Int->Hp->VK->Prop:=λx lo hi H Q=>match x with |.str z=>z.length<=lg/\Q (tx (cutL z.cps.toList lo hi)) H |_=>False
theorem zbM_ {v:aU}{o:Option Int}(p:IsPart v o):∃l:Option (Int×Tok),v=partValue l/\l.map (·.1)=o:=by
 cases p with
 |none=>exact⟨uN,rfl,rfl⟩
 |int i t=>exact⟨uM (i,t),rfl,rfl⟩
theorem zfe_:SlR X rSlS:=by
 intro pins s σ H x v vl vu lo hi sl Q I rx hs pl pu h;cases x with
 |str z=>
  obtain⟨hz,q⟩:=h;obtain⟨t,rfl⟩:=rx;obtain⟨l,rfl,rfl⟩:=zbM_ pl;obtain⟨u,rfl,rfl⟩:=zbM_ pu;refine⟨"str",_,F.slot_str_getitem.lookup,typeIs_str _ _ _,?_⟩;refine wpAny_getItem_str_slice (l:=l) (u:=u) (st:=uN) hs rfl ?_;unfold sliceMade;have e:slicePicked z l u uN=mX (l.map (·.1)) (u.map (·.1)) 1 z.length:=rfl;rw[e];have hlen:(mX (l.map (·.1)) (u.map (·.1)) 1 z.length).length=(cutL z.cps.toList (l.map (·.1)) (u.map (·.1))).length:=by
   rw[zbS_,sliceRange_one,kE,mf];unfold cutL;rw[mC,mJ];have h1:HT.sIx z.length z.length (u.map (·.1))<=z.length:=HT.sIx_le _ _ (kP _) _;have h2:z.cps.toList.length=z.length:=by simp[ng]
   rw[h2];lia
  split
  ·rename_i hc
   have aB:(cutL z.cps.toList (l.map (·.1)) (u.map (·.1))).length=z.cps.toList.length:=by
    rw[<- hlen]
    simpa [ng]using hc
   rw[zhY_ aB]at q;have q':Q (.str z) H:=by rw[zag_ z];exact q
   exact⟨.str z,H,I,⟨_,rfl⟩,q'⟩
  ·rw[zft_]
   have h3:=zcz_ z.cps.toList (l.map (·.1)) (u.map (·.1));have h2:z.cps.toList.length=z.length:=by simp[ng]
   refine⟨?_,tx (cutL z.cps.toList (l.map (·.1)) (u.map (·.1))),H,I.tok _,⟨_,rfl⟩,q⟩;show(cutL z.cps.toList (l.map (·.1)) (u.map (·.1))).toArray.size<=lg
   rw[kQ];exact mN h3 (by rw[h2];exact hz)
 |_=>exact h.elim
end
def mVar (i:Nat):TE:=λσ H Q=>match σ[i]? with |some (uM v)=>Q v H |_=>False
section
variable {X:Cx}{a b c:lq}{ta tb tc:TE}{pos:Pos}
theorem zls_ (i:Nat){x:Str}{pos:Pos}(hN:X.N[i]?=uM x:=by rfl)(hv:Vis X.env.scope x:=by first |exact Or.inl rfl |exact Or.inr (Or.inl rfl)|exact Or.inr (Or.inr rfl))(hd:(x==("__debug__":Str))=uP:=by decide)
  (au:(x==("__classdict__":Str))=uP:=by decide):PE X (.Name x pos) (mVar i):=by
 intro pins s σ H Q I h;unfold mVar at h;cases e:σ[i]? with
 |none=>rw[e]at h;exact h.elim
 |some o=>
  rw[e]at h;cases o with
  |none=>exact h.elim
  |some v=>exact zqi_ hN hv hd au pins s σ H Q I ⟨v,e,h⟩
theorem zqz_ {x:Str}{l:List Nat}{j pos}(h:x=⟨l.toArray⟩:=by rfl):PE X (.Constant (.str x) j pos) (tC (tx l)):=h ▸ zpb_
def mAdd:R2:=λx y H Q=>match x,y with
 |.int i,.int j=>Q (.int (i+j)) H
 |.str a,.str b=>a.cps.toList.length+b.cps.toList.length<=lg/\Q (tx (a.cps.toList++b.cps.toList)) H
 |.ref a,.ref b=>∃xs zs,H a=uM (.lst xs)/\H b=uM (.lst zs)/\xs.length+zs.length<=lg/\∀p,H p=uN->Q (.ref p) (upd H p (.lst (xs++zs)))
 |_,_=>False
theorem zmg_:OpR X (nz .Add) mAdd:=by
 intro pins s σ H x y v u Q I rx ry h
 cases x<;>cases y<;>first
  |exact h.elim
  |exact zpB_ pins s σ H _ _ v u Q I rx ry ⟨_,_,rfl,rfl,h⟩
  |exact zf6_ pins s σ H _ _ v u Q I rx ry ⟨_,_,rfl,rfl,by simpa [ng]using h.1,by rw[zoi_];exact h.2⟩
  |(obtain⟨xs,zs,h1,h2,h3,h4⟩:=h;exact zq3_ pins s σ H _ _ v u Q I rx ry ⟨_,_,xs,zs,rfl,rfl,h1,h2,h3,h4⟩)
def mI (C:Int->Int->Prop)(g:Int->Int->V):R2:=λx y H Q=>match x,y with |.int i,.int j=>C i j/\Q (g i j) H |_,_=>False
def mI0 (g:Int->Int->V):R2:=λx y H Q=>match x,y with |.int i,.int j=>Q (g i j) H |_,_=>False
theorem opM {f:aU->aU->Sem aU}{C:Int->Int->Prop}{g:Int->Int->V}(h:OpR X f (rI C g)):OpR X f (mI C g):=by
 intro pins s σ H x y v u Q I rx ry q;cases x<;>cases y<;>first |exact q.elim |exact h pins s σ H _ _ v u Q I rx ry ⟨_,_,rfl,rfl,q.1,q.2⟩
theorem opM0 {f:aU->aU->Sem aU}{g:Int->Int->V}(h:OpR X f (rI0 g)):OpR X f (mI0 g):=by
 intro pins s σ H x y v u Q I rx ry q;cases x<;>cases y<;>first |exact q.elim |exact h pins s σ H _ _ v u Q I rx ry ⟨_,_,rfl,rfl,q⟩
abbrev mSub:R2:=mI0 λi j=>.int (i-j)
abbrev mMod:R2:=mI (λ_ j=>0<j) λi j=>.int (i % j)
theorem zn6_:OpR X (nz .Sub) mSub:=opM0 zrn_
theorem zmk_:OpR X (nz .Mod) mMod:=opM zoP_
abbrev mLt:R2:=mI0 λi j=>.bl (decide (i<j))
abbrev mLe:R2:=mI0 λi j=>.bl (decide (i<=j))
abbrev mGt:R2:=mI0 λi j=>.bl (decide (j<i))
abbrev mGe:R2:=mI0 λi j=>.bl (decide (j<=i))
theorem zqo_:OpR X (lF .Lt) mLt:=opM0 op_lt
theorem zo3_:OpR X (lF .LtE) mLe:=opM0 op_le
theorem zqx_:OpR X (lF .Gt) mGt:=opM0 op_gt
theorem zpI_:OpR X (lF .GtE) mGe:=opM0 op_ge
noncomputable def mIsB (x y:V):Option Bool:=match y with
 |.non=>uM (decide (x=.non))
 |.bl b=>(match x with |.bl a=>uM (decide (a=b))|_=>uN)
 |_=>uN
def mIs:R2:=λx y H Q=>match mIsB x y with |some b=>Q (.bl b) H |none=>False
def mIsNot:R2:=λx y H Q=>match mIsB x y with |some b=>Q (.bl (!b)) H |none=>False
theorem zjx_ {M:Model}{A:l9}{E:aU->kF->Prop}{s:kF}{a b:Bool}{Q:aU->kF->Prop}(h:Q (.bool (decide (a=b))) s):lJ M A (lF .Is (.bool a) (.bool b)) Q E s:=by
 cases a<;>cases b<;>exact lE h
theorem zfd_ {M:Model}{A:l9}{E:aU->kF->Prop}{s:kF}{a b:Bool}{Q:aU->kF->Prop}(h:Q (.bool (!decide (a=b))) s):lJ M A (lF .IsNot (.bool a) (.bool b)) Q E s:=by
 cases a<;>cases b<;>exact lE h
theorem zoS_:OpR X (lF .Is) mIs:=by
 intro pins s σ H x y v u Q I rx ry h;unfold mIs mIsB at h;cases y with
 |non=>exact zpG_ pins s σ H x _ v u Q I rx ry ⟨rfl,h⟩
 |bl b=>
  cases x with
  |bl a=>cases rx;cases ry;exact zjx_ ⟨.bl _,H,I,rfl,h⟩
  |_=>exact h.elim
 |_=>exact h.elim
theorem ziv_:OpR X (lF .IsNot) mIsNot:=by
 intro pins s σ H x y v u Q I rx ry h;unfold mIsNot mIsB at h;cases y with
 |non=>exact zmz_ pins s σ H x _ v u Q I rx ry ⟨rfl,h⟩
 |bl b=>
  cases x with
  |bl a=>cases rx;cases ry;exact zfd_ ⟨.bl _,H,I,rfl,h⟩
  |_=>exact h.elim
 |_=>exact h.elim
noncomputable def inS (l:List Nat)(t:List Nat):Bool:=match l with |[c]=>decide (c∈t)|_=>!(nq ⟨t.toArray⟩ ⟨l.toArray⟩ 0 t.length 1).isEmpty
theorem zi2_ (a b:Str):(!(nq b a 0 b.length 1).isEmpty)=inS a.cps.toList b.cps.toList:=by
 have e:b.length=b.cps.toList.length:=by simp[ng]
 unfold inS;split
 ·rename_i c hc
  have ea:a=⟨#[c]⟩:=by rw[zag_ a,hc]
  rw[ea];exact StrLaws.found_one b c
 ·rw[<- zag_,<- zag_,e]
def mIn (K:Fgg)(neg:Bool):R2:=λx y H Q=>match y with
 |.str b=>(match x with |.str a=>Q (.bl (if neg then !inS a.cps.toList b.cps.toList else inS a.cps.toList b.cps.toList)) H |_=>False)
 |.ref p=>∃xs,(SqL K H p xs\/SqT K H p xs)/\flatV x=uO/\xs.all flatV=uO/\Q (.bl (if neg then !inV x xs else inV x xs)) H
 |_=>False
theorem zo2_:OpR X (lF .In) (mIn X.K uP):=by
 intro pins s σ H x y v u Q I rx ry h;unfold mIn at h;cases y with
 |str b=>
  cases x with
  |str a=>exact zhs_ pins s σ H _ _ v u Q I rx ry ⟨_,_,rfl,rfl,by rw[zi2_];exact h⟩
  |_=>exact h.elim
 |ref p=>
  obtain⟨xs,h1,h2,h3,h4⟩:=h;exact zh3_ pins s σ H _ _ v u Q I rx ry ⟨_,xs,rfl,h1,h2,h3,h4⟩
 |_=>exact h.elim
theorem zhT_:OpR X (lF .NotIn) (mIn X.K uO):=by
 intro pins s σ H x y v u Q I rx ry h;unfold mIn at h;cases y with
 |str b=>
  cases x with
  |str a=>exact zdR_ pins s σ H _ _ v u Q I rx ry ⟨_,_,rfl,rfl,by rw[zi2_];exact h⟩
  |_=>exact h.elim
 |ref p=>
  obtain⟨xs,h1,h2,h3,h4⟩:=h;exact zdS_ pins s σ H _ _ v u Q I rx ry ⟨_,xs,rfl,h1,h2,h3,h4⟩
 |_=>exact h.elim
def mTest (t:TE):TT:=λσ H Q=>t σ H λx H'=>match x with |.bl k=>Q k H' |_=>False
def mAndV (ta tb:TE):TE:=λσ H Q=>ta σ H λx H1=>match x with |.bl c=>br c (tb σ H1 Q) (Q (.bl uP) H1)|_=>False
def mOrV (ta tb:TE):TE:=λσ H Q=>ta σ H λx H1=>match x with |.bl c=>br c (Q (.bl uO) H1) (tb σ H1 Q)|_=>False
def mNotV (ta:TE):TE:=λσ H Q=>ta σ H λx H1=>match x with |.bl c=>Q (.bl (!c)) H1 |_=>False
def mAnd (t u:TT):TT:=λσ H Q=>t σ H λc H1=>br c (u σ H1 Q) (Q uP H1)
def mOr (t u:TT):TT:=λσ H Q=>t σ H λc H1=>br c (Q uO H1) (u σ H1 Q)
variable {rest:List lq}{tA fm:TT}
theorem ziY_ (ha:PE X a ta)(hb:PE X (.BoolOp .And (b::rest) pos) tb):PE X (.BoolOp .And (a::b::rest) pos) (mAndV ta tb):=by
 intro pins s σ H Q I h;refine BoolOp_and (thn (ha pins s σ H _ I h) λv s1 af=>?_)
 obtain⟨x,H1,I1,r1,q1⟩:=af;cases x with
 |bl c=>
  cases r1;refine lZ ?_;cases c with
  |true=>exact hb pins s1 σ H1 Q I1 (q1.1 rfl)
  |false=>exact⟨.bl uP,H1,I1,rfl,q1.2 rfl⟩
 |_=>exact q1.elim
theorem zmZ_ (ha:PE X a ta)(hb:PE X (.BoolOp .Or (b::rest) pos) tb):PE X (.BoolOp .Or (a::b::rest) pos) (mOrV ta tb):=by
 intro pins s σ H Q I h;refine BoolOp_or (thn (ha pins s σ H _ I h) λv s1 af=>?_)
 obtain⟨x,H1,I1,r1,q1⟩:=af;cases x with
 |bl c=>
  cases r1;refine lZ ?_;cases c with
  |false=>exact hb pins s1 σ H1 Q I1 (q1.2 rfl)
  |true=>exact⟨.bl uO,H1,I1,rfl,q1.1 rfl⟩
 |_=>exact q1.elim
theorem zmh_ (ha:PE X a ta):PE X (.UnaryOp .Not a pos) (mNotV ta):=by
 intro pins s σ H Q I h;refine UnaryOp_ (thn (ha pins s σ H _ I h) λv s1 af=>?_)
 obtain⟨x,H1,I1,r1,q1⟩:=af;cases x with
 |bl c=>cases r1;exact not_of (lZ ⟨.bl (!c),H1,I1,rfl,q1⟩)
 |_=>exact q1.elim
theorem zjd_ (ha:PT X a tA)(hb:PW X (.BoolOp .And (b::rest) pos) fm):PW X (.BoolOp .And (a::b::rest) pos) (mAnd tA fm):=by
 intro wh pins s σ H Q I h;refine isTrue_and (thn (ha pins s σ H _ I h) λc s1 af=>?_)
 obtain⟨H1,I1,q1⟩:=af;cases c with
 |true=>exact hb wh pins s1 σ H1 Q I1 (q1.1 rfl)
 |false=>exact⟨H1,I1,q1.2 rfl⟩
theorem zm7_ (ha:PT X a tA)(hb:PW X (.BoolOp .Or (b::rest) pos) fm):PW X (.BoolOp .Or (a::b::rest) pos) (mOr tA fm):=by
 intro wh pins s σ H Q I h;refine isTrue_or (thn (ha pins s σ H _ I h) λc s1 af=>?_)
 obtain⟨H1,I1,q1⟩:=af;cases c with
 |true=>exact⟨H1,I1,q1.1 rfl⟩
 |false=>exact hb wh pins s1 σ H1 Q I1 (q1.2 rfl)
theorem zoh_ {e:lq}{t:TE}(h:PE X e t)(he:∀whole,isTrue e X.env whole=(do let v <- whole;standAt e.pos;holding [v] (truthy v)):=by intro _;rfl):PT X e (mTest t):=by
 intro pins s σ H Q I hw;refine isTrue_plain (thn (h pins s σ H _ I hw) λv s1 af=>?_) (he _)
 obtain⟨x,H1,I1,r1,q1⟩:=af;cases x with
 |bl c=>cases r1;exact lZ ⟨H1,I1,q1⟩
 |_=>exact q1.elim
theorem zlQ_ {op:CmpOp}{r:R2}(ho:OpR X (lF op) r)(ha:PE X a ta)(hb:PE X b tb)(hm:behindInMarks op b=uP:=by first |exact nobehind _ (by decide) (by decide)|rfl):PT X (.Compare a [op] [b] pos) (mTest (tOp r ta tb)):=by
 intro pins s σ H Q I hw;refine wpAny_isTrue_Compare1 (binT ha hb I hw λv u s2 x y H2 I2 rx ry q=>?_) hm
 refine thn (ho pins s2 σ H2 x y v u _ I2 rx ry q) λc s3 af=>?_
 obtain⟨z,H3,I3,r3,q3⟩:=af;cases z with
 |bl k=>cases r3;exact lZ ⟨H3,I3,q3⟩
 |_=>exact q3.elim
theorem znb_ {op:CmpOp}{r:R2}(ho:OpR X (lF op) r)(ha:PE X a ta)(hb:PE X b tb)(hm:behindInMarks op b=uP:=by first |exact nobehind _ (by decide) (by decide)|rfl):PE X (.Compare a [op] [b] pos) (tOp r ta tb):=znE_ ho ha hb hm
def mIf (t:TT)(ta tb:TE):TE:=λσ H Q=>t σ H λc H1=>br c (ta σ H1 Q) (tb σ H1 Q)
theorem zqg_ {c:lq}(hc:PT X c tA)(ha:PE X a ta)(hb:PE X b tb):PE X (.IfExp c a b pos) (mIf tA ta tb):=by
 intro pins s σ H Q I h;refine wpAny_IfExp (thn (hc pins s σ H _ I h) λd s1 af=>?_)
 obtain⟨H1,I1,q1⟩:=af;cases d with
 |true=>exact ha pins s1 σ H1 Q I1 (q1.1 rfl)
 |false=>exact hb pins s1 σ H1 Q I1 (q1.2 rfl)
def mIfS (c:TT)(t u:TS):TS:=λD σ H=>c σ H λb H1=>br b (t D σ H1) (u D σ H1)
theorem zkl_ {c:lq}{a b:List l8}{tc:TT}{t u:TS}(hc:PT X c tc)(ha:PSs X a t)(hb:PSs X b u):PS X (.If c a b pos) (mIfS tc t u):=by
 intro pins s σ H D I h;refine wpAny_If (thn (hc pins s σ H _ I h) λd s1 af=>?_)
 obtain⟨H1,I1,q1⟩:=af;cases d with
 |true=>exact ha pins s1 σ H1 D I1 (q1.1 rfl)
 |false=>exact hb pins s1 σ H1 D I1 (q1.2 rfl)
def mChain (r r':R2)(ta tb tc:TE):TE:=λσ H Q=>ta σ H λx H1=>tb σ H1 λy H2=>r x y H2 λz H3=>match z with |.bl k=>br k (tc σ H3 λw H4=>r' y w H4 Q) (Q (.bl uP) H3)|_=>False
theorem zhQ_ {op aH:CmpOp}{r r':R2}(ho:OpR X (lF op) r)(aJ:OpR X (lF aH) r')(ha:PE X a ta)(hb:PE X b tb)(hc:PE X c tc)
  (hm:lastMarks [op,aH] [b,c]=uP:=by with_unfolding_all rfl):PE X (.Compare a [op,aH] [b,c] pos) (mChain r r' ta tb tc):=by
 intro pins s σ H Q I h;refine Compare_chain (thn (ha pins s σ H _ I h) λv s1 ⟨x,H1,I1,r1,q1⟩=>chain_link (thn (hb pins s1 σ H1 _ I1 q1) λu s2 ⟨y,H2,I2,r2,q2⟩=>
  thn (ho pins s2 σ H2 x y v u _ I2 r1 r2 q2) λd s3 ⟨z,H3,I3,r3,q3⟩=>?_)) hm
 cases z with
 |bl k=>
  cases r3;refine lZ ?_;cases k with
  |false=>exact ite_ff ⟨.bl uP,H3,I3,rfl,q3.2 rfl⟩
  |true=>exact ite_tt (chain_last (thn (hc pins s3 σ H3 _ I3 (q3.1 rfl)) λw' s4 ⟨z',H4,I4,r4,q4⟩=>aJ pins s4 σ H4 y z' u w' Q I4 r2 r4 q4))
 |_=>exact q3.elim
theorem zii_ {op aH:CmpOp}{r r':R2}(ho:OpR X (lF op) r)(aJ:OpR X (lF aH) r')(ha:PE X a ta)(hb:PE X b tb)(hc:PE X c tc)
  (hm:lastMarks [op,aH] [b,c]=uP:=by with_unfolding_all rfl):PT X (.Compare a [op,aH] [b,c] pos) (mTest (mChain r r' ta tb tc)):=by
 intro pins s σ H Q I h;refine isTrue_chain (thn (ha pins s σ H _ I h) λv s1 ⟨x,H1,I1,r1,q1⟩=>test_link (thn (hb pins s1 σ H1 _ I1 q1) λu s2 ⟨y,H2,I2,r2,q2⟩=>
  thn (ho pins s2 σ H2 x y v u _ I2 r1 r2 q2) λd s3 ⟨z,H3,I3,r3,q3⟩=>?_)) hm
 cases z with
 |bl k=>
  cases r3;refine lZ ?_;cases k with
  |false=>exact ite_ff ⟨H3,I3,q3.2 rfl⟩
  |true=>
   refine ite_tt (test_last (thn (hc pins s3 σ H3 _ I3 (q3.1 rfl)) λw' s4 ⟨z',H4,I4,r4,q4⟩=>thn (aJ pins s4 σ H4 y z' u w' _ I4 r2 r4 q4) λd' s5 af=>?_))
   obtain⟨z2,H5,I5,r5,q5⟩:=af;cases z2 with
   |bl k2=>cases r5;exact lZ ⟨H5,I5,q5⟩
   |_=>exact q5.elim
 |_=>exact q3.elim
end
section
variable {X:Cx}{a b c e:lq}{ta:TE}{t:TA}
def mIx (K:Fgg):R2:=λx y H Q=>match y with
 |.int i=>(match x with
  |.ref p=>∃xs,(SqL K H p xs\/SqT K H p xs)/\(match atI xs i with |some v=>Q v H |none=>False)
  |.str z=>z.cps.toList.length<=lg/\(match atI z.cps.toList i with |some c=>Q (tx [c]) H |none=>False)
  |_=>False)
 |_=>False
theorem ix_M:IxR X (mIx X.K):=by
 intro value slice pins s σ H x y v u Q I rx ry h gw;unfold mIx at h;cases y with
 |int i=>
  cases x with
  |ref p=>
   obtain⟨xs,hs,h⟩:=h;cases ev:atI xs i with
   |none=>rw[ev]at h;exact h.elim
   |some w'=>
    rw[ev]at h;rcases hs with hs |hs
    ·exact zne_ value slice pins s σ H _ _ v u Q I rx ry ⟨p,xs,i,w',rfl,rfl,hs,ev,h⟩ gw
    ·exact zoY_ value slice pins s σ H _ _ v u Q I rx ry ⟨p,xs,i,w',rfl,rfl,hs,ev,h⟩ gw
  |str z=>
   obtain⟨hz,h⟩:=h;cases ev:atI z.cps.toList i with
   |none=>rw[ev]at h;exact h.elim
   |some w'=>
    rw[ev]at h;exact zoJ_ value slice pins s σ H _ _ v u Q I rx ry ⟨z,i,w',rfl,rfl,by simpa [ng]using hz,ev,h⟩ gw
  |_=>exact h.elim
 |_=>exact h.elim
def mSl (K:Fgg):V->Option Int->Option Int->Hp->VK->Prop:=λx lo hi H Q=>match x with
 |.str z=>z.cps.toList.length<=lg/\Q (tx (cutL z.cps.toList lo hi)) H
 |.ref a=>∃xs,SqL K H a xs/\∀p,H p=uN->Q (.ref p) (upd H p (.lst (cutV xs lo hi)))
 |_=>False
theorem sl_M:SlR X (mSl X.K):=by
 intro pins s σ H x v vl vu lo hi sl Q I rx hs pl pu h;unfold mSl at h;cases x with
 |str z=>exact zfe_ pins s σ H _ v vl vu lo hi sl Q I rx hs pl pu ⟨by simpa [ng]using h.1,h.2⟩
 |ref p=>
  obtain⟨xs,h1,h2⟩:=h;exact zm6_ pins s σ H _ v vl vu lo hi sl Q I rx hs pl pu ⟨p,xs,rfl,h1,h2⟩
 |_=>exact h.elim
def mPart (t:TE):TO:=λσ H Q=>t σ H λx H1=>match x with |.int i=>Q (uM i) H1 |_=>False
theorem po_M (h:PE X e ta):PO X (uM e) (mPart ta):=by
 intro pins s σ H Q I hw;rw[evalPart_some];refine thn (h pins s σ H _ I hw) λu s1 af=>?_
 obtain⟨x,H1,I1,r1,q1⟩:=af;cases x with
 |int i=>obtain⟨t,rfl⟩:=r1;exact⟨uM i,H1,I1,.int i t,q1⟩
 |_=>exact q1.elim
def mLen (K:Fgg):List V->Hp->VK->Prop:=λxs H Q=>match xs with
 |[.str z]=>z.cps.toList.length<=lg/\Q (.int z.cps.toList.length) H
 |[.ref p]=>∃ys,(SqL K H p ys\/SqT K H p ys)/\Q (.int ys.length) H
 |_=>False
theorem zjT_ {K:Fgg}{xs:List V}{H:Hp}{Q:VK}(h:mLen K xs H Q):(∃z,xs=[.str z]/\z.cps.toList.length<=lg/\Q (.int z.cps.toList.length) H)\/∃p ys,xs=[.ref p]/\(SqL K H p ys\/SqT K H p ys)/\Q (.int ys.length) H:=by
 rcases xs with _ |⟨x,_ |⟨y,t⟩⟩
 ·exact lU h
 ·cases x with
  |str z=>exact .inl ⟨z,rfl,h⟩
  |ref p=>obtain⟨ys,h⟩:=h;exact .inr ⟨p,ys,rfl,h⟩
  |_=>exact lU h
 ·cases x<;>exact lU h
theorem zht_:CallR X (.builtin "len") (mLen X.K):=by
 intro pins s σ H xs us Q I r h;rcases zjT_ h with⟨z,rfl,h⟩|⟨p,ys,rfl,h1,h2⟩
 ·exact zdW_ pins s σ H _ us Q I r ⟨_,rfl,by simpa [ng]using h.1,by simpa [ng]using h.2⟩
 ·exact zd3_ pins s σ H _ us Q I r ⟨_,ys,rfl,h1,h2⟩
def mTwo (g:Int->Int->Int):List V->Hp->VK->Prop:=λxs H Q=>match xs with |[.int i,.int j]=>Q (.int (g i j)) H |_=>False
theorem zk3_ {g:Int->Int->Int}{xs:List V}{H:Hp}{Q:VK}(h:mTwo g xs H Q):∃i j,xs=[.int i,.int j]/\Q (.int (g i j)) H:=by
 rcases xs with _ |⟨x,_ |⟨y,_ |⟨w,t⟩⟩⟩
 ·exact lU h
 ·cases x<;>exact lU h
 ·cases x with
  |int i=>cases y with
   |int j=>exact⟨i,j,rfl,h⟩
   |_=>exact lU h
  |_=>exact lU h
 ·cases x with
  |int i=>cases y<;>exact lU h
  |_=>exact lU h
theorem zhp_ (hc:X.calm=uO):CallR X (.builtin "min") (mTwo min):=by
 intro pins s σ H xs us Q I r h;obtain⟨i,j,rfl,h⟩:=zk3_ h;refine zh4_ hc pins s σ H _ us Q I r ⟨i,j,rfl,?_⟩;have e:(if j<i then j else i)=min i j:=by split<;>lia
 rw[e];exact h
def tyS (K:Fgg)(H:Hp):V->String->Prop:=λx T=>match x with
 |.non=>T="NoneType" |.bl _=>T="bool" |.int _=>T="int" |.str _=>T="str"
 |.ref p=>(T="list" /\ ∃xs,H p=uM (.lst xs))\/(T="tuple" /\ ∃xs,H p=uM (.tup xs))
 |_=>False
theorem zqb_ {K:Fgg}{H:Hp}{x:V}{T:String}(h:tyS K H x T):TyOf K H x (.type T):=by
 unfold tyS at h;cases x with
 |non=>subst h;exact .non
 |bl b=>subst h;exact .bl b
 |int i=>subst h;exact .int i
 |str z=>subst h;exact .str z
 |ref p=>
  rcases h with⟨rfl,xs,h⟩|⟨rfl,xs,h⟩
  ·exact .lst h
  ·exact .tup h
 |_=>exact h.elim
noncomputable def isaB (T c:String):Option Bool:=
 if T=c then uM uO else if T="bool" /\ c="int" then uM uO
 else if(T="bool" \/ T="int" \/ T="str" \/ T="list" \/ T="tuple" \/ T="NoneType")/\(c="bool" \/ c="int" \/ c="str" \/ c="list" \/ c="tuple" \/ c="dict")then uM uP else uN
theorem znr_ {K:Fgg}{T c:String}{b:Bool}(h:isaB T c=uM b):ux K (.type T) (.type c)=uM b:=by
 unfold isaB at h;split at h
 ·rename_i e;subst e;cases h
  unfold ux;rw[if_pos (by simp)]
 ·split at h
  ·rename_i e;obtain⟨rfl,rfl⟩:=e;cases h;rfl
  ·split at h
   ·rename_i h1 h2 e
    cases h;obtain⟨e1,e2⟩:=e;rcases e1 with rfl |rfl |rfl |rfl |rfl |rfl<;>rcases e2 with rfl |rfl |rfl |rfl |rfl |rfl<;>first |rfl |exact absurd rfl h1 |exact absurd ⟨rfl,rfl⟩ h2
   ·cases h
noncomputable def findS (l:List Nat)(t:List Nat):Int:=Txt.find ⟨l.toArray⟩ ⟨t.toArray⟩
theorem zj8_ (l:List Nat)(c:Nat):findS l [c]=(match l.findIdx? (· == c)with |some i=>(i:Int)|none => -1):=by
 unfold findS;rcases find_whole ⟨l.toArray⟩ ⟨[c].toArray⟩with⟨h1,h2⟩|⟨i,h1,h2,h3⟩
 ·rw[h1]
  have:l.findIdx? (· == c)=uN:=by
   rw[List.findIdx?_eq_none_iff];intro x hx;obtain⟨j,hj⟩:=List.mem_iff_getElem?.mp hx;by_cases hxc:x=c
   ·subst hxc
    exact absurd ((p6 ⟨l.toArray⟩ x j).mpr (by simpa using hj)) (h2 j)
   ·simpa using hxc
  rw[this]
 ·rw[h1]
  have hi:l[i]?=uM c:=by simpa using(p6 ⟨l.toArray⟩ c i).mp h2
  have:l.findIdx? (· == c)=uM i:=by
   obtain⟨ay,hget⟩:=lB.mp hi;rw[List.findIdx?_eq_some_iff_getElem];refine⟨ay,by simp[hget],λj hj=>?_⟩
   have gG:j<l.length:=tP hj ay;have hn:=h3 j hj;intro hc;have aB:l[j]=c:=by simpa using hc
   exact hn ((p6 ⟨l.toArray⟩ c j).mpr (by simp[gG,aB]))
  rw[this]
def mIndex:V->List V->Hp->VK->Prop:=λx xs H Q=>match x,xs with |.str l,[.str t]=>findS l.cps.toList t.cps.toList ≠ -1/\Q (.int (findS l.cps.toList t.cps.toList)) H |_,_=>False
theorem zkr_:MtR X "str.index" mIndex:=by
 intro pins s σ H x xs v us Q I rx rv h;unfold mIndex at h;split at h
 ·rename_i l t
  obtain⟨k,rfl⟩:=rx;obtain⟨u,rfl,ru⟩:=rv.one;obtain⟨k',rfl⟩:=ru;have e:Txt.find l t=findS l.cps.toList t.cps.toList:=by unfold findS;rw[<- zag_,<- zag_]
  rw[<- e]at h;unfold Txt.find at h;cases ho:nq l t 0 l.length 1 with
  |nil=>rw[ho]at h;exact absurd rfl h.1
  |cons i rest=>
   rw[ho]at h;exact SC.index ho ⟨.int _,H,I.tok _,⟨_,rfl⟩,h.2⟩
 ·exact h.elim
noncomputable def strsOf:List V->Option (List Str)
 |[]=>uM []
 |.str z::r=>(strsOf r).map (z::·)
 |_::_=>uN
theorem zgy_ {vs:List V}{zs:List Str}:strsOf vs=uM zs->vs=zs.map V.str:=by
 induction vs generalizing zs with
 |nil=>intro h;cases h;rfl
 |cons v r ih=>
  intro h;cases v with
  |str z=>
   unfold strsOf at h;cases e:strsOf r with
   |none=>rw[e]at h;cases h
   |some y=>rw[e]at h;cases h;rw[ih e];rfl
  |_=>cases h
noncomputable def joinS (sep:List Nat)(zs:List Str):List Nat:=(Txt.join ⟨sep.toArray⟩ zs).cps.toList
def mJoin (K:Fgg):V->List V->Hp->VK->Prop:=λx xs H Q=>match x,xs with
 |.str l,[.ref D]=>∃vs,(SqL K H D vs)/\(match strsOf vs with |some zs=>JoinOk l zs=uO/\Q (tx (joinS l.cps.toList zs)) H |none=>False)
 |_,_=>False
theorem zbc_:∀{zs:List Str}{us:List aU},Vals (zs.map V.str) us->∃l:List (Str×Tok),us=strValues l/\l.map (·.1)=zs
 |[],us,r=>by cases r;exact⟨[],rfl,rfl⟩
 |z::zs,us,r=>by
  cases r with
  |cons r rr=>
   obtain⟨t,rfl⟩:=r;obtain⟨l,rfl,hl⟩:=zbc_ rr;exact⟨(z,t)::l,rfl,by rw[kX,hl]⟩
theorem zhZ_ {K:Fgg}{x:V}{xs:List V}{H:Hp}{Q:VK}(h:mJoin K x xs H Q):∃l D,x=.str l/\xs=[.ref D]/\∃vs,(SqL K H D vs)/\(match strsOf vs with |some zs=>JoinOk l zs=uO/\Q (tx (joinS l.cps.toList zs)) H |none=>False):=by
 cases x with
 |str l=>
  rcases xs with _ |⟨y,_ |⟨z,t⟩⟩
  ·exact lU h
  ·cases y with
   |ref t=>exact⟨l,t,rfl,rfl,h⟩
   |_=>exact lU h
  ·cases y<;>exact lU h
 |_=>exact lU h
theorem zob_:MtR X "str.join" (mJoin X.K):=by
 intro pins s σ H x xs v us Q I rx rv h;obtain⟨l,D,rfl,rfl,h⟩:=zhZ_ h
 ·obtain⟨k,rfl⟩:=rx
  obtain⟨u,rfl,ru⟩:=rv.one;cases ru;obtain⟨vs,hs,h⟩:=h;cases ez:strsOf vs with
  |none=>rw[ez]at h;exact h.elim
  |some zs=>
   rw[ez]at h;have ev:=zgy_ ez;subst ev;obtain⟨aa,r,p,hz⟩:=I.list hs;obtain⟨lz,e1,e2⟩:=zbc_ r;subst e1;refine SC.join p.isList e2 h.1 λt' k'=>⟨tx (joinS l.cps.toList zs),H,I.tok _,⟨t',?_⟩,h.2⟩
   unfold joinS;rw[<- zag_,<- zag_]
end
theorem zkN_ (zs:List Str):joinS [] zs=(zs.map λz=>z.cps.toList).flatten:=by
 unfold joinS Txt.join uJ;cases zs with
 |nil=>rfl
 |cons z r=>
  show((r.foldl (λacc p=>acc++#[]++p.cps) z.cps)).toList=_
  have:∀(acc:Array Nat),(r.foldl (λacc p=>acc++#[]++p.cps) acc).toList=acc.toList++(r.map λz=>z.cps.toList).flatten:=by
   induction r with
   |nil=>intro acc;simp
   |cons y r ih=>intro acc;rw[pO,ih];simp
  rw[this];simp
def Gd (P:lN)(w:l7)(K:Fgg)(mg:Str->Option aU)(base:Heap)(CX:CXT)(k:Nat)(x:Str)(ps:List Str)(sp:Sp):Prop:=
 ∃f fd,FnOk P w K mg base CX k f fd ps sp/\mg x=uM (.ref f)/\ox K (.ref f)=uO/\Binds K fd ps []
def Gc (mg:Str->Option aU)(x:Str)(v:V):Prop:=∃u,mg x=uM u/\RelV v u
abbrev Gb (mg:Str->Option aU)(x:Str):Prop:=mg x=uN
section
variable {X:Cx}{x:Str}{p pos:Pos}{e:lq}{es:List lq}{t:TA}{tg:lq}
theorem pe_gc {v:V}(h:Gc X.mg x v)(hg:Gl X x:=by rfl)(hd:(x==("__debug__":Str))=uP:=by decide):PE X (.Name x pos) (tC v):=by
 obtain⟨u,hm,r⟩:=h;exact zlY_ hg hm r hd
theorem pe_ty (T:String)(hm:Gb X.mg x)(hg:Gl X x:=by rfl)(hv:nE x=uM (.type T):=by rfl)(hn:x ≠ "__name__":=by decide)(hd:(x==("__debug__":Str))=uP:=by decide):PE X (.Name x pos) (tC (.ty T)):=
 zn1_ hg hm hv rfl hn hd
theorem zld_ {id:String}{r:List V->Hp->VK->Prop}(hc:CallR X (.builtin id) r)(hm:Gb X.mg x)(ha:PA X (e::es) t)(hg:Gl X x:=by rfl)(hv:nE x=uM (.builtin id):=by rfl)(hn:x ≠ "__name__":=by decide)(aZ:(x==("__debug__":Str))=uP:=by decide)
  (hs:lQ (e::es) X.env=(uP,eval e X.env)::lQ es X.env:=by rfl) (aT:(oj pos (lQ es X.env)).any (·.1)=uP:=by rfl):PE X (.Call (.Name x p) (e::es) [] pos) (tCB r t):=
 zk9_ hc hg hm hv ha hn aZ hs aT
theorem zqI_ {o:lq}{to:TE}{name:Str}{id:String}{r:V->List V->Hp->VK->Prop}{apos ao:Pos}(slot:Slot "str" name id)(d6:typeOf (.builtin id)=pure (.type "method_descriptor"))(hm:MtR X id r)(ho:PE X o to)(ha:PA X (e::es) t)
  (h1:attributeBase o name X.env (eval o X.env)=eval o X.env:=by rfl) (h2:((((oj ao (lQ (e::es) X.env)).all λx=>!x.fst) && (qP ao (pL [] X.env)).all λx=>x.fst.isSome) && decide (((e::es).length+([]:List Keyword).length+if([]:List Keyword).isEmpty=uO then 0 else 1)<30))=uO:=by rfl)
  (h3:(apos.endLine == ao.line)=uO:=by rfl) (h4:lQ (e::es) X.env=(uP,eval e X.env)::lQ es X.env:=by rfl) (h5:((oj ao (lQ es X.env)).any λx=>x.fst)=uP:=by rfl):
  PE X (.Call (.Attribute o name apos) (e::es) [] ao) (tBM X.K "str" r to t):=zos_ PySem.F.plainAttrs_str slot d6 hm ho ha h1 h2 h3 h4 h5
def iAny (K:Fgg)(tl:TE):TI:=λσ H R=>tl σ H λx H1=>match x with
 |.str z=>R (Itp z.cps.toList.length (λi=>tx [z.cps.toList.getD i 0])) H1
 |.ref a=>((∃xs,SqL K H1 a xs)/\R (Itl K a) H1)\/((∃xs,SqT K H1 a xs)/\R (Itt K a) H1)
 |_=>False
theorem zmu_ (z:Str):sgn z=λi=>tx [z.cps.toList.getD i 0]:=by
 funext i;unfold sgn;simp[mW,kY]
theorem zow_ {l:lq}{tl:TE}(hl:PE X l tl):PI X tg l (iAny X.K tl):=by
 intro pins s σ H R I h;refine thn (hl pins s σ H _ I h) λv s1 af=>?_
 obtain⟨x,H1,I1,r1,q1⟩:=af;have pt:∀(v:V),PE X l (tC v)->PE X l (tC v):=λ_ h=>h
 cases x with
 |str z=>
  obtain⟨t,rfl⟩:=r1;refine wpAny_pyIter_strU ?_;have q:R (Itp z.cps.size (sgn z)) H1:=by
   have e:z.cps.toList.length=z.cps.size:=by simp
   rw[zmu_,<- e];exact q1
  refine⟨s1.heap.objs.size,[s1.heap.objs.size],_,_,H1,rfl,I1.kept (t':=s1.toks) λb o e=>kH _ e,zkJ_ _ z t,⟨me _,⟨_,lG _ rfl,rfl,rfl⟩⟩,λb hb=>?_,q⟩
  have e:b=s1.heap.objs.size:=by simpa using hb
  subst e;exact I1.fpOk (kP _) (I1.hok.fresh (kP _))
 |ref a=>
  cases r1;rcases q1 with⟨⟨xs,hq⟩,q⟩|⟨⟨xs,hq⟩,q⟩
  ·obtain⟨aa,rv,p,hz⟩:=I1.list hq
   refine wpAny_pyIter_list p.isList ?_;refine⟨s1.heap.objs.size,[s1.heap.objs.size],_,_,H1,rfl,I1.kept (t':=s1.toks) λb o e=>kH _ e,zhz_ a _,⟨_,lG _ rfl,rfl,rfl⟩,λb hb=>?_,q⟩
   have e:b=s1.heap.objs.size:=by simpa using hb
   subst e;exact I1.fpOk (kP _) (I1.hok.fresh (kP _))
  ·obtain⟨aa,rv,p,hz⟩:=I1.tuple hq
   refine wpAny_pyIter_tuple (show s1.heap.IsTuple a aa.toArray from p) ?_
   refine⟨s1.heap.objs.size,[s1.heap.objs.size],_,_,H1,rfl,I1.kept (t':=s1.toks) λb o e=>kH _ e,zhb_ a _,⟨_,lG _ rfl,rfl,rfl⟩,λb hb=>?_,q⟩
   have e:b=s1.heap.objs.size:=by simpa using hb
   subst e;exact I1.fpOk (kP _) (I1.hok.fresh (kP _))
 |_=>exact q1.elim
def mRng1 (ta:TA):TI:=λσ H R=>ta σ H λvs H1=>match vs with |[.int j] => -(2 ^ 62)<=j/\j<2 ^ 62/\R (Itr 0 j.toNat) H1 |_=>False
def mRng2 (ta:TA):TI:=λσ H R=>ta σ H λvs H1=>match vs with |[.int i,.int j]=>(-(2 ^ 62)<=i/\i<2 ^ 62 /\ -(2 ^ 62)<=j/\j<2 ^ 62)/\R (Itr i (j-i).toNat) H1 |_=>False
end
section
variable {X:Cx}{tg:lq}
theorem zkj_ {a:lq}{ta:TA}{p pos:Pos}(hm:Gb X.mg "range")(ha:PA X [a] ta)(hg:Gl X "range":=by rfl)(hs:lQ [a] X.env=[(uP,eval a X.env)]:=by rfl):PI X tg (.Call (.Name "range" p) [a] [] pos) (mRng1 ta):=by
 intro pins s σ H R I h;refine Call_ (zdq_ I hg hm boot_range (mV (thn (ha pos pins s σ H _ I h) λus s1 af=>?_) hs rfl))
 obtain⟨vs,H1,I1,r1,q1⟩:=af
 try dsimp only at q1
 split at q1
 ·obtain⟨q2,q3,q⟩:=q1
  cases r1 with
  |cons r rr=>
   cases rr;obtain⟨t,rfl⟩:=r;exact call_range_1 (zg6_ I1 (by lia) (by lia) q2 q3 (by simpa using q))
 ·exact q1.elim
theorem zjz_ {a b:lq}{ta:TA}{p pos:Pos}(hm:Gb X.mg "range")(ha:PA X [a,b] ta)(hg:Gl X "range":=by rfl)(hs:lQ [a,b] X.env=[(uP,eval a X.env),(uP,eval b X.env)]:=by rfl)(aQ:lQ [b] X.env=[(uP,eval b X.env)]:=by rfl):
  PI X tg (.Call (.Name "range" p) [a,b] [] pos) (mRng2 ta):=by
 intro pins s σ H R I h;refine Call_ (zdq_ I hg hm boot_range (mV (thn (ha pos pins s σ H _ I h) λus s1 af=>?_) (by rw[hs,aQ]) (by rw[aQ];rfl)))
 obtain⟨vs,H1,I1,r1,q1⟩:=af
 try dsimp only at q1
 split at q1
 ·obtain⟨⟨q1,q2,q3,q4⟩,q⟩:=q1
  cases r1 with
  |cons r rr=>
   cases rr with
   |cons r' rr=>
    cases rr;obtain⟨t,rfl⟩:=r;obtain⟨t',rfl⟩:=r';exact call_range_2 (zg6_ I1 q1 q2 q3 q4 q)
 ·exact q1.elim
variable {elts:List lq}{kk:Nat}{cV:Pos}
def iEnum (K:Fgg)(ta:TA):TI:=λσ H R=>ta σ H λvs H1=>match vs with
 |[.str z]=>R (Ites z.cps.toList.length (λi=>tx [z.cps.toList.getD i 0])) H1
 |[.ref a]=>(∃xs,SqL K H1 a xs)/\R (Ite K a) H1
 |_=>False
theorem zme_ {a:lq}{ta:TA}{p pos:Pos}(hm:Gb X.mg "enumerate")(ha:PA X [a] ta)(hg:Gl X "enumerate":=by rfl)(hs:lQ [a] X.env=[(uP,eval a X.env)]:=by rfl):
  PI X (.Tuple elts kk cV) (.Call (.Name "enumerate" p) [a] [] pos) (iEnum X.K ta):=by
 intro pins s σ H R I h;refine Call_ (zdq_ I hg hm (u:=.type "enumerate") (by rfl) (mV (thn (ha pos pins s σ H _ I h) λus s1 af=>?_) hs rfl))
 obtain⟨vs,H1,I1,r1,q1⟩:=af
 try dsimp only at q1
 split at q1
 ·rename_i z
  cases r1 with
  |cons r rr=>
   cases rr;obtain⟨t,rfl⟩:=r;refine call_enumerate_str λh' he hit hsz hk=>?_
   refine wpAny_pyIter_enum (s:={s1 with heap:=h'}) he ?_;have I2:Inv X pins σ H1 {s1 with heap:=h'}:=I1.kept (t':=s1.toks) hk;have q:R (Ites z.cps.size (sgn z)) H1:=by
    have e:z.cps.toList.length=z.cps.size:=by simp
    rw[zmu_,<- e];exact q1
   refine⟨s1.heap.objs.size+1,[s1.heap.objs.size+1,s1.heap.objs.size],_,_,H1,rfl,I2,zgr_ _ _ z t (by simp),⟨⟨_,he⟩,me _,hit⟩,λb hb=>?_,q⟩
   have dq:s1.heap.objs.size<=b:=by
    rcases lA.mp hb with rfl |hb
    ·exact nj _
    ·have e:b=s1.heap.objs.size:=by simpa using hb
     subst e;exact kP _
   exact I1.fpOk dq (I1.hok.fresh dq)
 ·rename_i l
  obtain⟨⟨xs,hq⟩,q⟩:=q1;cases r1 with
  |cons r rr=>
   cases rr;cases r;obtain⟨aa,rv,p,hz⟩:=I1.list hq;refine call_enumerate_list p.isList λh' he hit hsz hk=>?_
   refine wpAny_pyIter_enum (s:={s1 with heap:=h'}) he ?_;have I2:Inv X pins σ H1 {s1 with heap:=h'}:=I1.kept (t':=s1.toks) hk;refine⟨s1.heap.objs.size+1,[s1.heap.objs.size+1,s1.heap.objs.size],_,_,H1,rfl,I2,zfz_ _ _ l (by simp),⟨⟨_,he⟩,hit⟩,λb hb=>?_,q⟩
   have dq:s1.heap.objs.size<=b:=by
    rcases lA.mp hb with rfl |hb
    ·exact nj _
    ·have e:b=s1.heap.objs.size:=by simpa using hb
     subst e;exact kP _
   exact I1.fpOk dq (I1.hok.fresh dq)
 ·exact q1.elim
def gNilM:TGs:=λvs σ H Q=>match vs with |[]=>Q σ H |_=>False
def gConsM (t:TG)(u:TGs):TGs:=λvs σ H Q=>match vs with |v::r=>t v σ H λai H'=>u r ai H' Q |[]=>False
theorem zk5_:PGs X [] gNilM:=by
 intro pins s σ H vs us Q I r h;cases vs with
 |nil=>exact zlg_ pins s σ H [] us Q I r ⟨rfl,h⟩
 |cons _ _=>exact h.elim
theorem zio_ {e:lq}{es:List lq}{t:TG}{u:TGs}(h1:PG X e t)(h2:PGs X es u)
  (hs:(m9 (e::es) X.env).map (·.2)=assign e X.env::(m9 es X.env).map (·.2):=by rfl):PGs X (e::es) (gConsM t u):=by
 intro pins s σ H vs us Q I r h;cases vs with
 |nil=>exact h.elim
 |cons v vr=>exact zkT_ h1 h2 hs pins s σ H _ us Q I r ⟨v,vr,rfl,h⟩
def gTupM (K:Fgg)(n:Nat)(t:TGs):TG:=λv σ H Q=>match v with |.ref a=>∃xs,SqT K H a xs/\xs.length=n/\t xs σ H Q |_=>False
theorem znY_ {es:List lq}{k:Nat}{t:TGs}{n:Nat}{pos:Pos}(hc:X.calm=uO)(h:PGs X es t)
  (hn:(m9 es X.env).length=n:=by rfl) (gu:(m9 es X.env).findIdx? (·.1)=uN:=by rfl):PG X (.Tuple es k pos) (gTupM X.K n t):=by
 intro pins s σ H v u Q I r hw;cases v with
 |ref a=>
  obtain⟨xs,h1,h2,h3⟩:=hw;exact zqr_ hc h hn gu pins s σ H _ u Q I r ⟨a,xs,rfl,h1,h2,h3⟩
 |_=>exact hw.elim
def mNeg (ta:TE):TE:=λσ H Q=>ta σ H λx H1=>match x with |.int i=>Q (.int (-i)) H1 |_=>False
theorem zoW_ {a:lq}{ta:TE}{pos:Pos}(ha:PE X a ta):PE X (.UnaryOp .USub a pos) (mNeg ta):=by
 intro pins s σ H Q I h;refine UnaryOp_ (thn (ha pins s σ H _ I h) λv s1 af=>?_)
 obtain⟨x,H1,I1,r1,q1⟩:=af;cases x with
 |int i=>exact zqw_ pins s1 σ H1 _ v Q I1 r1 ⟨i,rfl,q1⟩
 |_=>exact q1.elim
end
theorem zW_ {H:Hp}{p:kR}(h:H p=uN)(o:HO):Same H (upd H p o):=λb u q=>by rw[zc_ (zd_ q h)];exact q
theorem zaw_ {n:Nat}(h:n<=100000):n<=lg:=by rw[sizeLine_eq];lia
theorem zdX_ {zs:List Str}{sep:Str}(h:zs.length*(sep.length+1)<=100000)(h1:∀z∈zs,z.length<=1):JoinOk sep zs=uO:=by
 unfold JoinOk;have key:∀(l:List Str) (acc:Nat),(∀z∈l,z.length<=1)->l.foldl (λx1 x2=>x1+x2.length+sep.length) acc<=acc+l.length*(sep.length+1):=by
  intro l;induction l with
  |nil=>intro acc _;simp
  |cons z r ih=>
   intro acc hz;rw[pO];have h2:=ih (acc+z.length+sep.length) λy hy=>hz y (ll _ hy)
   have h3:=hz z lj;rw[lp,Nat.add_mul];omega
 have q:=key zs 0 h1;rw[List.foldl_toArray];unfold pS;simp only[px,decide_eq_false_iff_not];have:zs.foldl (λx1 x2=>x1+x2.length+sep.length) 0<=100000:=by omega
 have hl:(100000:Nat)<=lg:=by rw[sizeLine_eq];omega
 omega
section
variable {X:Cx}
def mSet:TSet:=λo i v H Q=>match i with
 |.int k=>(match o with
  |.ref p=>∃xs,H p=uM (.lst xs)/\(match ixN xs.length k with |some j=>Q (upd H p (.lst (xs.set j v)))|none=>False)
  |_=>False)
 |_=>False
theorem set_M:PSet X mSet:=by
 intro pins s σ H o i v ov iv u Q I ro ri rv h;unfold mSet at h;cases i with
 |int k=>
  cases o with
  |ref p=>
   obtain⟨xs,h1,h⟩:=h;cases e:ixN xs.length k with
   |none=>rw[e]at h;exact h.elim
   |some j=>
    rw[e]at h;exact zkh_ pins s σ H _ _ v ov iv u Q I ro ri rv ⟨p,xs,k,j,rfl,rfl,h1,e,h⟩
  |_=>exact h.elim
 |_=>exact h.elim
noncomputable def strI (i:Int):List Nat:=(nG (toString i)).cps.toList
def mStr:List V->Hp->VK->Prop:=λxs H Q=>match xs with |[.int i]=>i.natAbs.log2<1920/\Q (tx (strI i)) H |_=>False
theorem zij_:CallR X (.type "str") mStr:=by
 intro pins s σ H xs us Q I r h;unfold mStr at h;split at h
 ·rename_i i
  refine zd6_ pins s σ H _ us Q I r ⟨i,rfl,h.1,?_⟩;have e:tx (strI i)=V.str (nG (toString i)):=by unfold strI tx;rw[<- zag_]
  rw[<- e];exact h.2
 ·exact h.elim
def mZfill:V->List V->Hp->VK->Prop:=λx xs H Q=>match x,xs with |.str l,[.int i]=>PadOk i=uO/\Q (tx (Txt.zfill l i).cps.toList) H |_,_=>False
theorem zjX_:MtR X "str.zfill" mZfill:=by
 intro pins s σ H x xs v us Q I rx rv h;have hi:∃l i,x=.str l/\xs=[.int i]/\PadOk i=uO/\Q (tx (Txt.zfill l i).cps.toList) H:=by
  cases x with
  |str l=>
   rcases xs with _ |⟨y,_ |⟨z,t⟩⟩
   ·exact lU h
   ·cases y with
    |int t=>exact⟨l,t,rfl,rfl,h⟩
    |_=>exact lU h
   ·cases y<;>exact lU h
  |_=>exact lU h
 obtain⟨l,i,rfl,rfl,h⟩:=hi;obtain⟨k,rfl⟩:=rx;obtain⟨u,rfl,ru⟩:=rv.one;obtain⟨k',rfl⟩:=ru;exact SC.zfill h.1 λt' k=>⟨tx (Txt.zfill l i).cps.toList,H,I.tok _,⟨t',by rw[<- zag_]⟩,h.2⟩
variable {x:Str}{p pos:Pos}{e:lq}{es:List lq}{t:TA}
theorem zmU_ (T:String){r:List V->Hp->VK->Prop}(hc:CallR X (.type T) r)(hm:Gb X.mg x)(ha:PA X (e::es) t)(hg:Gl X x:=by rfl)(hv:nE x=uM (.type T):=by rfl)(hn:x ≠ "__name__":=by decide)(aZ:(x==("__debug__":Str))=uP:=by decide)
  (hs:lQ (e::es) X.env=(uP,eval e X.env)::lQ es X.env:=by rfl) (aT:(oj pos (lQ es X.env)).any (·.1)=uP:=by rfl):PE X (.Call (.Name x p) (e::es) [] pos) (tCB r t):=
 zhj_ hc hg hm hv ha hn aZ hs aT
end
theorem zfa_ {i:Int}(h0 : -1000<=i)(h1:i<=1000):PadOk i=uO:=by
 unfold PadOk fitsSsize pS;have h3:(100000:Nat)<=lg:=by rw[sizeLine_eq];lia
 simp only[ky,px,decide_eq_true_eq,decide_eq_false_iff_not,Bool.or_eq_false_iff];lia
noncomputable def digs:Nat->Nat->List Nat
 |0,_=>[]
 |w+1,n=>digs w (n / 10)++[48+n % 10]
theorem zcf_:∀(w n:Nat),(digs w n).length=w
 |0,_=>rfl
 |w+1,n=>by rw[digs,lC,zcf_ w];rfl
theorem zeJ_:∀(w:Nat),digs w 0=lu w 48
 |0=>rfl
 |w+1=>by rw[digs,zeJ_ w,List.replicate_succ']
theorem zd0_:∀(w n:Nat),digs w (n % 10 ^ w)=digs w n
 |0,_=>rfl
 |w+1,n=>by
  rw[digs,digs];have e1:n % 10 ^ (w+1) % 10=n % 10:=by
   rw[pz,Nat.mod_mul_left_mod]
  have e2:n % 10 ^ (w+1) / 10=n / 10 % 10 ^ w:=by
   rw[pz,Nat.mod_mul_left_div_self]
  rw[e1,e2,zd0_ w]
def dg (m:Nat):List Nat:=(qz 10 m).map Char.toNat
theorem zd5_ (m:Nat):strI (m:Int)=dg m:=W.KIN.signs_num m
theorem zc8_:∀d:Nat,d<10->(q9 d).toNat=48+d:=by decide
theorem dg_lt {m:Nat}(h:m<10):dg m=[48+m]:=by
 unfold dg;rw[qi h];show[(q9 m).toNat]=_
 rw[zc8_ m h]
theorem dg_ge {m:Nat}(h:¬m<10):dg m=dg (m / 10)++[48+m % 10]:=by
 unfold dg;have hm:m % 10<10:=sV m (by decide)
 have t:qz 10 (m / 10)++qz 10 (m % 10)=qz 10 (10*(m / 10)+m % 10):=Nat.toDigits_append_toDigits (by decide) (by lia) hm
 rw[qH]at t;rw[<- t,mT,qi hm];show _++[(q9 (m % 10)).toNat]=_
 rw[zc8_ _ hm]
theorem zmW_:∀(w m:Nat),m<10 ^ (w+1)->(dg m).length<=w+1/\lu (w+1-(dg m).length) 48++dg m=digs (w+1) m
 |w,m,h=>by
  by_cases hm:m<10
  ·rw[dg_lt hm]
   refine⟨by show 1<=w+1;lia,?_⟩
   rw[digs,show m / 10=0 by lia,zeJ_,show m % 10=m by lia]
   rfl
  ·cases w with
   |zero=>exact absurd h (by simpa using hm)
   |succ w=>
    have hd:m / 10<10 ^ (w+1):=by
     rw[pD (by decide)]
     rw[pz]at h;exact h
    obtain⟨h1,h2⟩:=zmW_ w (m / 10) hd;rw[dg_ge hm];refine⟨by rw[lC];show _+1<=_;lia,?_⟩
    have e:digs (w+1+1) m=digs (w+1) (m / 10)++[48+m % 10]:=rfl;rw[e,<- h2,nr,lC];have e2:w+1+1-((dg (m / 10)).length+[48+m % 10].length)=w+1-(dg (m / 10)).length:=by
     show w+1+1-((dg (m / 10)).length+1)=_
     lia
    rw[e2]
theorem zmE_ (m:Nat):∃c r,dg m=c::r/\48<=c:=by
 induction m using Nat.strongRecOn with
 |_ m ih=>
  by_cases h:m<10
  ·exact⟨48+m,[],dg_lt h,by lia⟩
  ·obtain⟨c,r,e,hc⟩:=ih (m / 10) (by lia)
   exact⟨c,r++[48+m % 10],by rw[dg_ge h,e];rfl,hc⟩
theorem zb8_ {w m:Nat}(hw:1<=w)(h:m<10 ^ w):(Txt.zfill ⟨(dg m).toArray⟩ (w:Int)).cps.toList=digs w m:=by
 obtain⟨w',rfl⟩:∃w',w=w'+1:=⟨w-1,by lia⟩
 obtain⟨h1,h2⟩:=zmW_ w' m h;have hl:(⟨(dg m).toArray⟩:Str).length=(dg m).length:=by simp[ng]
 unfold Txt.zfill;rw[hl];by_cases he:((w'+1:Nat):Int)<=((dg m).length:Int)
 ·rw[if_pos he]
  have e:(dg m).length=w'+1:=by lia
  rw[<- h2,e,rL];simp
 ·rw[if_neg he]
  obtain⟨c,r,ec,hc⟩:=zmE_ m;have e:zfilled ⟨(dg m).toArray⟩ ((((w'+1:Nat):Int)).toNat-(dg m).length)=rA ⟨(dg m).toArray⟩ ((((w'+1:Nat):Int)).toNat-(dg m).length) 0 48:=by
   unfold zfilled;have e0:((⟨(dg m).toArray⟩:Str).cps)[0]?=uM c:=by rw[ec];simp
   rw[e0];split
   ·rename_i h';cases h';lia
   ·rename_i h';cases h';lia
   ·rfl
  rw[e];unfold rA;rw[<- h2];simp
theorem zbT_:∀(j n:Nat),digs (j+1) n=(48+n / 10 ^ j % 10)::digs j n
 |0,n=>by simp[digs]
 |j+1,n=>by
  have e:digs (j+1+1) n=digs (j+1) (n / 10)++[48+n % 10]:=rfl;rw[e,zbT_ j (n / 10),Nat.div_div_eq_div_mul];have e2:10*10 ^ j=10 ^ (j+1):=by rw[pz,rJ]
  rw[e2];rfl
section
end
def DAt (dx:kR)(fs:List (Str×V))(h:Heap):Prop:=∃mA,h.Ns1 dx mA/\(∀f,RelO (fs.lookup f) (mA f))/\qr mA (fs.map (·.1))
abbrev XDO (dx:kR)(fs:List (Str×V)):HO:=.ext (DAt dx fs)
section
end
def gA (K:Fgg)(x:Str):kR:=match m8 K lD x with |some (uM (.ref c))=>c |_=>0
theorem zl4_ {K:Fgg}{x:Str}{c:kR}(h:m8 K lD x=uM (uM (.ref c))):gA K x=c:=by unfold gA;rw[h]
section
end
end L2
namespace LX
open PySem PySem.W PySem.Calls PyProof.Rows Builtin Builtin.ObjectAttr Builtin.Getset_descriptor
section
end
end LX
namespace L2
open PySem PySem.Spec PyProof.Rows
section
variable {X:Cx}
def mAll (K:Fgg):List V->Hp->VK->Prop:=λxs H Q=>match xs with |[.ref p]=>∃bs:List Bool,SqL K H p (bs.map V.bl)/\Q (.bl (bs.all id)) H |_=>False
theorem zc0_:∀{bs:List Bool}{us:List aU},Vals (bs.map V.bl) us->us=bs.map oA
 |[],_,.nil=>rfl
 |b::bs,_,.cons r t=>by rw[zc0_ t];cases r;rfl
theorem zfj_ {P:lN}{w:l7}{A:l9}{bs:List Bool}:TruthOf P w A (λi v=>(bs.map oA).toArray[i]?=uM v) (λi=>bs.getD i uP):=by
 intro i v s Q E h q;have h':(bs.map oA)[i]?=uM v:=by simpa using h
 rw[kZ]at h';cases e:bs[i]? with
 |none=>rw[e]at h';cases h'
 |some b=>
  rw[e]at h';cases h';have:bs.getD i uP=b:=by rw[kY,e];rfl
  have q:Q (bs.getD i uP) s:=q;rw[this]at q;exact lZ q
theorem zcI_ (bs:List Bool):(lK bs.length).all (λi=>bs.getD i uP)=bs.all id:=by
 rw[nY,mm,mm];constructor
 ·intro h b hb
  obtain⟨i,hi,e⟩:=pT hb;have:=h i (l4.mpr hi);rw[kY,kz hi]at this;rw[<- e];exact this
 ·intro h i hi
  have hi:=l4.mp hi;rw[kY,kz hi];exact h _ (mK hi)
theorem zit_ (hc:X.calm=uO):CallR X (.builtin "all") (mAll X.K):=by
 intro pins s σ H xs us Q I r h;unfold mAll at h;split at h
 ·rename_i p
  obtain⟨bs,hS,q⟩:=h;obtain⟨u,rfl,rx⟩:=vals1 r;cases rx;obtain⟨aa,rv,pl,hz⟩:=I.list hS;rw[zc0_ rv]at pl;have hp:=k8 pl.isList.choose_spec.1;have bo:p≠s.heap.objs.size:=lI hp;refine call_all_walk (wpAny_pyIter_list pl.isList ⟨_,_,_,_,_,_,_,rfl,Walks.list (A:=X.A.in1) (I.ok.hd hc) _ p bo (bs.map oA).toArray,⟨⟨_,lG _ rfl,rfl,rfl⟩,pl.isList.at λo e=>kH _ e⟩,zfj_,λh' tk kk=>?_⟩)
  refine⟨.bl (bs.all id),H,I.kept (t':=tk) λb o e=>kk b o (by simpa using lI (k8 e)) (kH _ e),?_,q⟩
  show oA _=_
  rw[kQ,kE,zcI_]
 ·exact h.elim
def mRange:List V->Hp->VK->Prop:=λxs H Q=>match xs with
 |[.int j]=>∀p,H p=uN->Q (.ref p) (upd H p (.rng 0 j))
 |[.int i,.int j]=>∀p,H p=uN->Q (.ref p) (upd H p (.rng i j))
 |_=>False
theorem zfb_:CallR X (.type "range") mRange:=by
 intro pins s σ H xs us Q I r h;unfold mRange at h;split at h
 ·rename_i j
  obtain⟨u,rfl,t,rfl⟩:=vals1 r;refine call_range_1 ⟨.ref s.heap.objs.size,_,I.laid (o:=.rng 0 j) (λb ob q=>kH _ q) (kP _) ?_,rfl,h _ (I.hok.fresh (kP _))⟩
  exact⟨_,_,_,lG _ rfl⟩
 ·rename_i i j
  obtain⟨u,u',rfl,⟨t,rfl⟩,⟨t',rfl⟩⟩:=vals2 r;refine call_range_2 ⟨.ref s.heap.objs.size,_,I.laid (o:=.rng i j) (λb ob q=>kH _ q) (kP _) ?_,rfl,h _ (I.hok.fresh (kP _))⟩
  exact⟨_,_,_,lG _ rfl⟩
 ·exact h.elim
noncomputable def intsV (lo hi:Int):List V:=(lK (hi-lo).toNat).map λ(i:Nat)=>V.int (lo+i)
def mList (K:Fgg):List V->Hp->VK->Prop:=λxs H Q=>match xs with
 | [.ref p]=>(∃ys,(SqL K H p ys\/SqT K H p ys)/\∀l,H l=uN->Q (.ref l) (upd H l (.lst ys))) \/
   (∃lo hi,H p=uM (.rng lo hi)/\(-50000<=lo/\lo<=50000 /\ -50000<=hi/\hi<=50000)/\∀l,H l=uN->Q (.ref l) (upd H l (.lst (intsV lo hi))))
 |_=>False
theorem zjS_ {lo:Int}:∀{n:Nat}{us:List aU},us.length=n->(∀(j:Nat) (v:aU),us[j]?=uM v->∃t,v=qf (lo+j) t)->Vals ((lK n).map λ(i:Nat)=>V.int (lo+i)) us
 |n,us,hl,h=>by
  refine paired_of (by rw[kE,mf,hl]) λj x u hx hu=>?_
  rw[kZ]at hx;cases e:(lK n)[j]? with
  |none=>rw[e]at hx;cases hx
  |some i=>
   rw[e]at hx;cases hx;have:=lB.mp e;obtain⟨hj,ej⟩:=this;rw[rB]at ej;subst ej;exact h j u hu
 where paired_of:∀{xs:List V}{us:List aU},xs.length=us.length->(∀(j:Nat) x u,xs[j]?=uM x->us[j]?=uM u->RelV x u)->Vals xs us
 |[],[],_,_=>.nil
 |x::xs,u::us,hl,h=>.cons (h 0 x u rfl rfl) (paired_of (mR hl) λj x u a b=>h (j+1) x u a b)
theorem zdg_ (hc:X.calm=uO):CallR X (.type "list") (mList X.K):=by
 intro pins s σ H xs us Q I r h;have hv:∃p,xs=[.ref p]:=by
  rcases xs with _ |⟨y,_ |⟨z,t⟩⟩
  ·exact lU h
  ·cases y with
   |ref p=>exact⟨p,rfl⟩
   |_=>exact lU h
  ·cases y<;>exact lU h
 obtain⟨p,rfl⟩:=hv
 ·rcases h with⟨ys,hq,q⟩|⟨lo,hi,hp,⟨h1,h2,h3,h4⟩,q⟩
  ·exact zdT_ pins s σ H _ us Q I r ⟨p,ys,rfl,hq,q⟩
  ·obtain⟨u,rfl,rx⟩:=vals1 r
   cases rx;obtain⟨t,u,v,e⟩:=I.hok p _ hp;have hn:qg lo hi 1=(((hi-lo).toNat:Nat):Int):=by rw[rangeSize_one];split<;>lia
   refine call_list_range (I.ok.hd hc) e (small_one (by lia) (by lia) (by lia) (by lia)) hn (by lia) λh' tk acc c' kp e' af=>?_
   obtain⟨hs,eF⟩:=af;refine⟨.ref s.heap.objs.size,_,I.laid (o:=.lst (intsV lo hi)) (t':=tk) kp (kP _) ?_,rfl,q _ (I.hok.fresh (kP _))⟩;refine⟨?_,acc.toList,c',zjS_ (by simpa using hs) (λj v hv=>?_),by simpa using e'⟩
   ·unfold intsV;rw[kE,mf];exact zaw_ (by lia)
   ·obtain⟨t,ht⟩:=eF j v (by simpa using hv)
    exact⟨t,by rw[ht];simp⟩
end
inductive EqD (K:Fgg) (H:Hp):Nat->V->V->Bool->Prop
 |flat {x y:V}(hx:flatV x=uO) (hy:flatV y=uO):EqD K H 0 x y (eqV x y)
 |lst {n:Nat}{p q:kR}{xs ys:List V}(e:Nat->Bool) (hp:SqL K H p xs) (hq:SqL K H q ys) (hl:xs.length=ys.length) (h:∀(i:Nat) x y,xs[i]?=uM x->ys[i]?=uM y->EqD K H n x y (e i)):EqD K H (n+1) (.ref p) (.ref q) ((lK xs.length).all e)
 |lstN {n:Nat}{p q:kR}{xs ys:List V}(hp:SqL K H p xs) (hq:SqL K H q ys) (hl:xs.length≠ys.length):EqD K H n (.ref p) (.ref q) uP
 |tup {n:Nat}{p q:kR}{xs ys:List V}(e:Nat->Bool) (hp:SqT K H p xs) (hq:SqT K H q ys) (h:∀(i:Nat) x y,xs[i]?=uM x->ys[i]?=uM y->EqD K H n x y (e i)):EqD K H (n+1) (.ref p) (.ref q) ((lK (min xs.length ys.length)).all e && xs.length == ys.length)
 |lt {n:Nat}{p q:kR}{xs ys:List V}(hp:SqL K H p xs) (hq:SqT K H q ys):EqD K H n (.ref p) (.ref q) uP
 |tl {n:Nat}{p q:kR}{xs ys:List V}(hp:SqT K H p xs) (hq:SqL K H q ys):EqD K H n (.ref p) (.ref q) uP
 |lf {n:Nat}{p:kR}{xs:List V}{y:V}(hp:SqL K H p xs) (hy:flatV y=uO):EqD K H n (.ref p) y uP
 |fl {n:Nat}{p:kR}{xs:List V}{y:V}(hp:SqL K H p xs) (hy:flatV y=uO):EqD K H n y (.ref p) uP
 |tf {n:Nat}{p:kR}{xs:List V}{y:V}(hp:SqT K H p xs) (hy:flatV y=uO):EqD K H n (.ref p) y uP
 |ft {n:Nat}{p:kR}{xs:List V}{y:V}(hp:SqT K H p xs) (hy:flatV y=uO):EqD K H n y (.ref p) uP
 |up {n:Nat}{x y:V}{b:Bool}(h:EqD K H n x y b):EqD K H (n+1) x y b
section
variable {X:Cx}{pins:Pnn}{σ:St}{H:Hp}{s:kF}
theorem zbw_ {xs:List V}{us:List aU}(r:Vals xs us){i:Nat}(h:i<us.toArray.size):∃x,xs[i]?=uM x/\RelV x us.toArray[i]:=by
 have hi:i<us.length:=by simpa using h
 have hl:=r.length;obtain⟨u,hu,ru⟩:=r.get (kz (show i<xs.length by lia))
 refine⟨_,kz (by lia),?_⟩
 rw[kz hi]at hu;cases hu
 simpa using ru
theorem zgb_ (I:Inv X pins σ H s){n:Nat}{x y:V}{b:Bool}(h:EqD X.K H n x y b):x=y->b=uO:=by
 induction h with
 |flat hx hy=>
  rename_i x y
  rintro rfl;cases x<;>first |(cases hx;done)|(simp[eqV];done)|rfl
 |lst e hp hq hl h ih=>
  rename_i n p q xs ys
  intro e0;cases e0;have dt:=I.list_inj hp hq;subst dt;rw[mm];intro i hi;have hi:=l4.mp hi;exact ih i _ _ (kz hi) (kz hi) rfl
 |lstN hp hq hl=>
  intro e0;cases e0;exact absurd (by rw[I.list_inj hp hq]) hl
 |tup e hp hq h ih=>
  rename_i n p q xs ys
  intro e0;cases e0;have dt:=I.tuple_inj hp hq;subst dt;rw[ky,mm];refine⟨?_,by simp⟩
  intro i hi;have hi:=l4.mp hi;have hi:i<xs.length:=by lia
  exact ih i _ _ (kz hi) (kz hi) rfl
 |lt hp hq=>
  intro e0;cases e0;obtain⟨aa,r1,p1,z1⟩:=I.list hp;obtain⟨aj,r2,p2,z2⟩:=I.tuple hq;exact absurd rfl (qA p1.isList p2)
 |tl hp hq=>
  intro e0;cases e0;obtain⟨aa,r1,p1,z1⟩:=I.tuple hp;obtain⟨aj,r2,p2,z2⟩:=I.list hq;exact absurd rfl (qA p2.isList p1)
 |lf hp hy=>rintro rfl;cases hy
 |fl hp hy=>rintro rfl;cases hy
 |tf hp hy=>rintro rfl;cases hy
 |ft hp hy=>rintro rfl;cases hy
 |up h ih=>exact ih
theorem zdN_ (I:Inv X pins σ H s){n:Nat}{x y:V}{b:Bool}(h:EqD X.K H n x y b):∀(A:l9) (v u:aU),A.units+n<cLine->RelV x v->RelV y u ->
  rp A s v u b/\(∀p q,x=.ref p->y=.ref q->oF A s v u b):=by
 induction h with
 |flat hx hy=>
  intro A v u _ rx ry;refine⟨znC_ rx ry hx hy,λp q e _=>?_⟩
  subst e;cases hx
 |lst e hp hq hl h ih=>
  rename_i n p q xs ys
  intro A v u hu rx ry;cases rx;cases ry;obtain⟨aa,r1,p1,z1⟩:=I.list hp;obtain⟨aj,r2,p2,z2⟩:=I.list hq;have l1:=r1.length;have l2:=r2.length;have rc:oF A s (.ref p) (.ref q) ((lK xs.length).all e):=by
   have:=SeqAt.RcAt.lists (A:=A) (e:=e) p1.isList p2.isList (by simp only[kQ];lia) (by lia) (λj h1 h2=>by
    obtain⟨x,ex,rx⟩:=zbw_ r1 h1;obtain⟨y,ey,ry⟩:=zbw_ r2 h2;exact(ih j x y ex ey A.in1 _ _ (by show A.units+1+n<_;lia) rx ry).1)
   rw[kQ,<- l1]at this;exact this
  refine⟨?_,λ_ _ _ _=>rc⟩
  by_cases hpq:p=q
  ·subst hpq
   have dt:=I.list_inj hp hq;subst dt;have:(lK xs.length).all e=uO:=by
    rw[mm];intro i hi;have hi:=l4.mp hi;exact zgb_ I (h i _ _ (kz hi) (kz hi)) rfl
   rw[this];exact qG _
  ·exact .of_refs hpq rc
 |lstN hp hq hl=>
  rename_i n p q xs ys
  intro A v u hu rx ry;cases rx;cases ry;obtain⟨aa,r1,p1,z1⟩:=I.list hp;obtain⟨aj,r2,p2,z2⟩:=I.list hq;have l1:=r1.length;have l2:=r2.length;have rc:oF A s (.ref p) (.ref q) uP:=SeqAt.RcAt.lists_lengths p1.isList p2.isList (by simp only[kQ,bne_iff_ne,ne_eq];lia) (by lia)
  refine⟨.of_refs (λe=>?_) rc,λ_ _ _ _=>rc⟩
  subst e;exact hl (by rw[I.list_inj hp hq])
 |tup e hp hq h ih=>
  rename_i n p q xs ys
  intro A v u hu rx ry;cases rx;cases ry;obtain⟨aa,r1,p1,z1⟩:=I.tuple hp;obtain⟨aj,r2,p2,z2⟩:=I.tuple hq;have l1:=r1.length;have l2:=r2.length;have rc:oF A s (.ref p) (.ref q) ((lK (min xs.length ys.length)).all e && xs.length == ys.length):=by
   have:=SeqAt.RcAt.tuples (A:=A) (e:=e) (show s.heap.IsTuple p aa.toArray from p1) (show s.heap.IsTuple q aj.toArray from p2) (by lia) (λj h1 h2=>by
    obtain⟨x,ex,rx⟩:=zbw_ r1 h1;obtain⟨y,ey,ry⟩:=zbw_ r2 h2;exact(ih j x y ex ey A.in1 _ _ (by show A.units+1+n<_;lia) rx ry).1)
   rw[kQ,kQ,<- l1,<- l2]at this;exact this
  refine⟨?_,λ_ _ _ _=>rc⟩
  by_cases hpq:p=q
  ·subst hpq
   have dt:=I.tuple_inj hp hq;subst dt;have:((lK (min xs.length xs.length)).all e && xs.length == xs.length)=uO:=by
    rw[ky,mm];refine⟨?_,by simp⟩
    intro i hi;have hi:=l4.mp hi;have hi:i<xs.length:=by lia
    exact zgb_ I (h i _ _ (kz hi) (kz hi)) rfl
   rw[this];exact qG _
  ·exact .of_refs hpq rc
 |lt hp hq=>
  intro A v u hu rx ry;cases rx;cases ry;obtain⟨aa,r1,p1,z1⟩:=I.list hp;obtain⟨aj,r2,p2,z2⟩:=I.tuple hq;exact⟨.list_tuple p1.isList p2 (by lia),λ_ _ _ _=>.list_tuple p1.isList p2 (by lia)⟩
 |tl hp hq=>
  intro A v u hu rx ry;cases rx;cases ry;obtain⟨aa,r1,p1,z1⟩:=I.tuple hp;obtain⟨aj,r2,p2,z2⟩:=I.list hq;exact⟨.tuple_list p1 p2.isList (by lia),λ_ _ _ _=>.tuple_list p1 p2.isList (by lia)⟩
 |lf hp hy=>
  rename_i n p xs y
  intro A v u hu rx ry;cases rx;obtain⟨aa,r1,p1,z1⟩:=I.list hp;refine⟨?_,λ_ _ _ e=>by subst e;cases hy⟩
  cases y with
  |non=>cases ry;exact .list_none p1.isList (by lia)
  |bl b=>cases ry;exact .list_bool b p1.isList (by lia)
  |int b=>obtain⟨t,rfl⟩:=ry;exact .list_int b t p1.isList (by lia)
  |str b=>obtain⟨t,rfl⟩:=ry;exact .list_str b t p1.isList (by lia)
  |_=>cases hy
 |fl hp hy=>
  rename_i n p xs y
  intro A v u hu rx ry;cases ry;obtain⟨aa,r1,p1,z1⟩:=I.list hp;refine⟨?_,λ_ _ e _=>by subst e;cases hy⟩
  cases y with
  |non=>cases rx;exact .none_list p1.isList (by lia)
  |bl b=>cases rx;exact .bool_list b p1.isList (by lia)
  |int b=>obtain⟨t,rfl⟩:=rx;exact .int_list b t p1.isList (by lia)
  |str b=>obtain⟨t,rfl⟩:=rx;exact .str_list b t p1.isList (by lia)
  |_=>cases hy
 |tf hp hy=>
  rename_i n p xs y
  intro A v u hu rx ry;cases rx;obtain⟨aa,r1,p1,z1⟩:=I.tuple hp;refine⟨?_,λ_ _ _ e=>by subst e;cases hy⟩
  cases y with
  |non=>cases ry;exact .tuple_none p1 (by lia)
  |bl b=>cases ry;exact .tuple_bool b p1 (by lia)
  |int b=>obtain⟨t,rfl⟩:=ry;exact .tuple_int b t p1 (by lia)
  |str b=>obtain⟨t,rfl⟩:=ry;exact .tuple_str b t p1 (by lia)
  |_=>cases hy
 |ft hp hy=>
  rename_i n p xs y
  intro A v u hu rx ry;cases ry;obtain⟨aa,r1,p1,z1⟩:=I.tuple hp;refine⟨?_,λ_ _ e _=>by subst e;cases hy⟩
  cases y with
  |non=>cases rx;exact .none_tuple p1 (by lia)
  |bl b=>cases rx;exact .bool_tuple b p1 (by lia)
  |int b=>obtain⟨t,rfl⟩:=rx;exact .int_tuple b t p1 (by lia)
  |str b=>obtain⟨t,rfl⟩:=rx;exact .str_tuple b t p1 (by lia)
  |_=>cases hy
 |up h ih=>
  intro A v u hu rx ry;exact ih A v u (by lia) rx ry
theorem zfV_ (I:Inv X pins σ H s){n:Nat}{x y:V}{b:Bool}(h:EqD X.K H n x y b):∀(A:l9) (v u:aU),A.units+n<cLine->RelV x v->RelV y u->∀p q,x=.ref p->y=.ref q->oV A s v u (!b):=by
 induction h with
 |flat hx hy=>intro A v u _ rx ry p q e _;subst e;cases hx
 |lst e hp hq hl h ih=>
  rename_i n p q xs ys
  intro A v u hu rx ry _ _ _ _;cases rx;cases ry;obtain⟨aa,r1,p1,z1⟩:=I.list hp;obtain⟨aj,r2,p2,z2⟩:=I.list hq;have l1:=r1.length;have l2:=r2.length;have:=uG (A:=A) (e:=e) p1.isList p2.isList (by simp only[kQ];lia) (by lia) (λj h1 h2=>by
   obtain⟨x,ex,rx⟩:=zbw_ r1 h1;obtain⟨y,ey,ry⟩:=zbw_ r2 h2;exact(zdN_ I (h j x y ex ey) A.in1 _ _ (by show A.units+1+n<_;lia) rx ry).1)
  rw[kQ,<- l1]at this;exact this
 |lstN hp hq hl=>
  intro A v u hu rx ry _ _ _ _;cases rx;cases ry;obtain⟨aa,r1,p1,z1⟩:=I.list hp;obtain⟨aj,r2,p2,z2⟩:=I.list hq;have l1:=r1.length;have l2:=r2.length;exact sW p1.isList p2.isList (by simp only[kQ,bne_iff_ne,ne_eq];lia) (by lia)
 |tup e hp hq h ih=>
  rename_i n p q xs ys
  intro A v u hu rx ry _ _ _ _;cases rx;cases ry;obtain⟨aa,r1,p1,z1⟩:=I.tuple hp;obtain⟨aj,r2,p2,z2⟩:=I.tuple hq;have l1:=r1.length;have l2:=r2.length;have:=uE (A:=A) (e:=e) (show s.heap.IsTuple p aa.toArray from p1) (show s.heap.IsTuple q aj.toArray from p2) (by lia) (λj h1 h2=>by
   obtain⟨x,ex,rx⟩:=zbw_ r1 h1;obtain⟨y,ey,ry⟩:=zbw_ r2 h2;exact(zdN_ I (h j x y ex ey) A.in1 _ _ (by show A.units+1+n<_;lia) rx ry).1)
  rw[kQ,kQ,<- l1,<- l2]at this;exact this
 |lt hp hq=>
  intro A v u hu rx ry _ _ _ _;cases rx;cases ry;obtain⟨aa,r1,p1,z1⟩:=I.list hp;obtain⟨aj,r2,p2,z2⟩:=I.tuple hq;exact .list_tuple p1.isList p2 (by lia)
 |tl hp hq=>
  intro A v u hu rx ry _ _ _ _;cases rx;cases ry;obtain⟨aa,r1,p1,z1⟩:=I.tuple hp;obtain⟨aj,r2,p2,z2⟩:=I.list hq;exact .tuple_list p1 p2.isList (by lia)
 |lf hp hy=>intro A v u hu rx ry _ _ _ e;subst e;cases hy
 |fl hp hy=>intro A v u hu rx ry _ _ e _;subst e;cases hy
 |tf hp hy=>intro A v u hu rx ry _ _ _ e;subst e;cases hy
 |ft hp hy=>intro A v u hu rx ry _ _ e _;subst e;cases hy
 |up h ih=>intro A v u hu rx ry;exact ih A v u (by lia) rx ry
end
end L2
namespace LX
open PySem Builtin Builtin.Str
section
end
end LX
namespace L2
open PySem PySem.Spec PyProof.Rows
section
variable {X:Cx}{a b c d:lq}{ta tb tc td:TE}{pos:Pos}
def mChain3 (r r' ba:R2)(ta tb tc td:TE):TE:=λσ H Q=>ta σ H λx H1=>tb σ H1 λy H2=>r x y H2 λz H3=>match z with
 |.bl k=>br k (tc σ H3 λw H4=>r' y w H4 λz' H5=>match z' with |.bl k'=>br k' (td σ H5 λw' H6=>ba w w' H6 Q) (Q (.bl uP) H5)|_=>False) (Q (.bl uP) H3)
 |_=>False
theorem zfA_ {op aH aG:CmpOp}{r r' ba:R2}(ho:OpR X (lF op) r)(aJ:OpR X (lF aH) r')(bz:OpR X (lF aG) ba)(ha:PE X a ta)(hb:PE X b tb)(hc:PE X c tc)(hd:PE X d td)
  (hm:lastMarks [op,aH,aG] [b,c,d]=uP:=by with_unfolding_all rfl):PE X (.Compare a [op,aH,aG] [b,c,d] pos) (mChain3 r r' ba ta tb tc td):=by
 intro pins s σ H Q I h;refine Compare_chain (thn (ha pins s σ H _ I h) λv s1 ⟨x,H1,I1,r1,q1⟩=>chain_link (thn (hb pins s1 σ H1 _ I1 q1) λu s2 ⟨y,H2,I2,r2,q2⟩=>
  thn (ho pins s2 σ H2 x y v u _ I2 r1 r2 q2) λd s3 ⟨z,H3,I3,r3,q3⟩=>?_)) hm
 cases z with
 |bl k=>
  cases r3;refine lZ ?_;cases k with
  |false=>exact ite_ff ⟨.bl uP,H3,I3,rfl,q3.2 rfl⟩
  |true=>
   refine ite_tt (chain_link (thn (hc pins s3 σ H3 _ I3 (q3.1 rfl)) λw' s4 ⟨z',H4,I4,r4,q4⟩=>thn (aJ pins s4 σ H4 y z' u w' _ I4 r2 r4 q4) λd' s5 af=>?_))
   obtain⟨z2,H5,I5,r5,q5⟩:=af;cases z2 with
   |bl k2=>
    cases r5;refine lZ ?_;cases k2 with
    |false=>exact ite_ff ⟨.bl uP,H5,I5,rfl,q5.2 rfl⟩
    |true=>exact ite_tt (chain_last (thn (hd pins s5 σ H5 _ I5 (q5.1 rfl)) λw2 s6 ⟨z3,H6,I6,r6,q6⟩=>bz pins s6 σ H6 z' z3 w' w2 Q I6 r4 r6 q6))
   |_=>exact q5.elim
 |_=>exact q3.elim
end
section
variable {κ:Type}[DecidableEq κ]
noncomputable def valV (kvs:List (κ×V))(k:κ):Option V:=(kvs.find? λkv=>decide (kv.1=k)).map (·.2)
noncomputable def putK (kvs:List (κ×V))(k:κ)(v:V):List (κ×V):=
 if(kvs.any λkv=>decide (kv.1=k))=uO then kvs.map (λkv=>if kv.1=k then(kv.1,v)else kv)else kvs++[(k,v)]
theorem zdO_ {p:κ×V}{r:List (κ×V)}{k:κ}(e:p.1=k):valV (p::r) k=uM p.2:=by simp[valV,m6,e]
theorem zd2_ {p:κ×V}{r:List (κ×V)}{k:κ}(e:¬p.1=k):valV (p::r) k=valV r k:=by simp[valV,m6,e]
theorem zfH_ (k:κ):∀kvs:List (κ×V),(kvs.any λkv=>decide (kv.1=k))=(valV kvs k).isSome
 |[]=>rfl
 |p::r=>by
  rw[oJ];by_cases e:p.1=k
  ·simp only[zdO_ e,decide_eq_true e,Bool.true_or,rD]
  ·rw[zd2_ e,decide_eq_false e,tm];exact zfH_ k r
theorem zaF_ (kvs:List (κ×V))(k:κ)(v:V):(putK kvs k v).length<=kvs.length+1:=by
 unfold putK;split
 ·rw[kE];lia
 ·rw[lC,lp,pf];lia
theorem RelO.isSome_eq {o:Option V}{u:Option aU}(r:RelO o u):o.isSome=u.isSome:=by
 cases o with
 |none=>cases u with
  |none=>rfl
  |some _=>exact(show False from r).elim
 |some _=>cases u with
  |none=>exact(show False from r).elim
  |some _=>rfl
theorem KV.val {kvs:List (κ×V)}{vs:List (κ×aU)}(r:KV kvs vs)(k:κ):RelO (valV kvs k) (valueAt vs k):=by
 unfold KV at r;induction r with
 |nil=>exact mP
 | @cons p q ps qs h t ih=>
  obtain⟨h1,h2⟩:=h;by_cases e:p.1=k
  ·have e':q.1=k:=h1.symm.trans e
   have b:valueAt (q::qs) k=uM q.2:=by simp[valueAt,m6,e']
   rw[zdO_ e,b];exact h2
  ·have e':¬q.1=k:=λz=>e (h1.trans z)
   have b:valueAt (q::qs) k=valueAt qs k:=by simp[valueAt,m6,e']
   rw[zd2_ e,b];exact ih
theorem KV.any {kvs:List (κ×V)}{vs:List (κ×aU)}(r:KV kvs vs)(k:κ):(kvs.any λkv=>decide (kv.1=k))=vs.any λkv=>decide (kv.1=k):=by
 unfold KV at r;induction r with
 |nil=>rfl
 |cons h t ih=>rw[oJ,oJ,ih,h.1]
theorem KV.repl {kvs:List (κ×V)}{vs:List (κ×aU)}(r:KV kvs vs)(k:κ){y:V}{u:aU}(ry:RelV y u):
  KV (kvs.map λkv=>if kv.1=k then(kv.1,y)else kv) (vs.map λkv=>if kv.1=k then(kv.1,u)else kv):=by
 unfold KV at r ⊢;induction r with
 |nil=>exact .nil
 | @cons p q ps qs h t ih=>
  rw[kX,kX];refine .cons ?_ ih;obtain⟨h1,h2⟩:=h;by_cases e:p.1=k
  ·rw[if_pos e,if_pos (h1.symm.trans e)];exact⟨h1,ry⟩
  ·rw[if_neg e,if_neg (λz=>e (h1.trans z))];exact⟨h1,h2⟩
theorem KV.put {kvs:List (κ×V)}{vs:List (κ×aU)}(r:KV kvs vs)(k:κ){y:V}{u:aU}(ry:RelV y u):KV (putK kvs k y) (stored vs k u):=by
 unfold putK stored;rw[r.any k];by_cases e:(vs.any λkv=>decide (kv.1=k))=uO
 ·rw[if_pos e,if_pos e];exact r.repl k ry
 ·rw[if_neg e,if_neg e];exact Paired.snoc r ⟨rfl,ry⟩
theorem KV.length {kvs:List (κ×V)}{vs:List (κ×aU)}(r:KV kvs vs):kvs.length=vs.length:=Paired.length r
end
theorem zj1_ {P:lN}{w:l7}{k:Key}{u:aU}(r:RelV (kV k) u):(mixKind P w).is k u=uO:=by
 cases k with
 |inl i=>obtain⟨t,e⟩:=(show∃t,u=qf i t from r);subst e;exact zfh_ P w i t
 |inr x=>obtain⟨t,e⟩:=(show∃t,u=pq x t from r);subst e;exact ze7_ P w x t
theorem zeX_ {P:lN}{w:l7}:∀{ks:List Key}{us:List aU},Vals (ks.map kV) us->ItemsAre (mixKind P w) ks us
 |[],_,r=>by rw[n6]at r;cases r;exact .nil
 |k::ks,_,r=>by
  rw[kX]at r;cases r with
  |cons h t=>exact .cons (zj1_ h) (zeX_ t)
abbrev KT (H:Hp):List (List Key×V)->List (List Key×kR×aU)->Prop:=Paired λp q=>p.1=q.1/\H q.2.1=uM (.tup (p.1.map kV))/\RelV p.2 q.2.2
theorem KT.val {H:Hp}{kvs:List (List Key×V)}{xs:List (List Key×kR×aU)}(r:KT H kvs xs)(k:List Key):RelO (valV kvs k) ((atKey xs k).map (·.2)):=by
 induction r with
 |nil=>exact mP
 | @cons p q ps qs h t ih=>
  obtain⟨h1,_,h2⟩:=h;by_cases e:p.1=k
  ·have e':q.1=k:=h1.symm.trans e
   have b:atKey (q::qs) k=uM q.2:=by simp[atKey,m6,e']
   rw[zdO_ e,b];exact h2
  ·have e':¬q.1=k:=λz=>e (h1.trans z)
   have b:atKey (q::qs) k=atKey qs k:=by simp[atKey,m6,e']
   rw[zd2_ e,b];exact ih
theorem KT.repl {H:Hp}{kvs:List (List Key×V)}{xs:List (List Key×kR×aU)}(r:KT H kvs xs)(k:List Key){y:V}{u:aU}(ry:RelV y u):
  KT H (kvs.map λkv=>if kv.1=k then(kv.1,y)else kv) (xs.map (putAt k u)):=by
 induction r with
 |nil=>exact .nil
 | @cons p q ps qs h t ih=>
  rw[kX,kX];refine .cons ?_ ih;obtain⟨h1,h2,h3⟩:=h;unfold putAt;by_cases e:p.1=k
  ·rw[if_pos e,if_pos (h1.symm.trans e)];exact⟨h1,h2,ry⟩
  ·rw[if_neg e,if_neg (λz=>e (h1.trans z))];exact⟨h1,h2,h3⟩
theorem KT.put {H:Hp}{kvs:List (List Key×V)}{xs:List (List Key×kR×aU)}(r:KT H kvs xs)(k:List Key){b:kR}{y:V}{u:aU}(hb:H b=uM (.tup (k.map kV)))(ry:RelV y u):
  KT H (putK kvs k y) (storedH xs k b u):=by
 have e:(kvs.any λkv=>decide (kv.1=k))=(atKey xs k).isSome:=by
  rw[zfH_,(r.val k).isSome_eq,pA]
 unfold putK storedH;rw[e];by_cases q:(atKey xs k).isSome=uO
 ·rw[if_pos q,if_pos q];exact r.repl k ry
 ·rw[if_neg q,if_neg q];exact Paired.snoc r ⟨rfl,hb,ry⟩
theorem KT.keeps {H H':Hp}{kvs:List (List Key×V)}{xs:List (List Key×kR×aU)}(r:KT H kvs xs)(ht:∀b ys,H b=uM (.tup ys)->H' b=uM (.tup ys)):KT H' kvs xs:=
 Paired.mapP r λ_ _ z=>⟨z.1,ht _ _ z.2.1,z.2.2⟩
section
variable {P:lN}{w:l7}{H:Hp}{h:Heap}{a:kR}
theorem rd_of {u:HO}(ok:HOk P w H h)(e:Rd H a u):ObjOk P w H h a u:=e.ok ok
theorem zhV_ {kvs:List (Key×V)}(ok:HOk P w H h)(e:Rd H a (.dK kvs)):kvs.length<=lg/\(a == sysModules)=uP/\∃vs,KV kvs vs/\h.DictOf (mixKind P w) a vs:=
 show ObjOk P w H h a (.dK kvs)from rd_of ok e
theorem zlE_ {kvs:List (Key×V)}(ok:HOk P w H h)(e:H a=uM (.dK kvs)):kvs.length<=lg/\(a == sysModules)=uP/\∃vs,KV kvs vs/\h.DictOf (mixKind P w) a vs:=zhV_ ok (.inl e)
theorem zgC_ {ks:List Key}(ok:HOk P w H h)(e:H a=uM (.tup (ks.map kV))):(tupleKind (mixKind P w)).is h ks a:=by
 obtain⟨_,aa,r,o,h1,h2,n,h3⟩:=(show ObjOk P w H h a (.tup (ks.map kV))from ok a _ e)
 exact⟨o,aa.toArray,n,h1,h2,h3,by simpa using zeX_ r⟩
theorem zle_ {kvs:List (List Key×V)}(ok:HOk P w H h)(e:Rd H a (.dT kvs)):kvs.length<=lg/\(a == sysModules)=uP /\
  ∃xs,KT H kvs xs/\h.DictOfH (tupleKind (mixKind P w)) a xs:=by
 obtain⟨z,y,xs,r,o,es,ep,h1,h2,h3,h4,h5⟩:=(show ObjOk P w H h a (.dT kvs)from rd_of ok e)
 refine⟨z,y,xs,r,o,es,ep,h1,h2,h3,h4,λx hx=>?_,h5⟩
 have all:∀{l:List (List Key×V)}{m:List (List Key×kR×aU)},KT H l m->∀x∈m,(tupleKind (mixKind P w)).is h x.1 x.2.1:=by
  intro l m q;induction q with
  |nil=>intro x hx;exact nomatch hx
  | @cons p q ps qs hq t ih=>
   intro x hx;rcases lA.mp hx with e |hx
   ·subst e
    exact zgC_ ok (by rw[<- hq.1];exact hq.2.1)
   ·exact ih x hx
 exact all r x hx
theorem dt_of {kvs:List (List Key×V)}(ok:HOk P w H h)(e:H a=uM (.dT kvs)):kvs.length<=lg/\(a == sysModules)=uP /\
  ∃xs,KT H kvs xs/\h.DictOfH (tupleKind (mixKind P w)) a xs:=zle_ ok (.inl e)
end
def DGet (H:Hp)(a:kR)(y:V)(r:Option V):Prop:=
 (∃kvs k,Rd H a (.dK kvs)/\y=kV k/\r=valV kvs k)\/∃kvs k b,Rd H a (.dT kvs)/\y=.ref b/\H b=uM (.tup (k.map kV))/\r=valV kvs k
def DPut (H:Hp)(a:kR)(y v:V)(H':Hp):Prop:=
 (∃kvs k,H a=uM (.dK kvs)/\y=kV k/\kvs.length<lg/\H'=upd H a (.dK (putK kvs k v))) \/
 ∃kvs k b,H a=uM (.dT kvs)/\y=.ref b/\H b=uM (.tup (k.map kV))/\kvs.length<lg/\H'=upd H a (.dT (putK kvs k v))
theorem DGet.k {H:Hp}{a:kR}{kvs:List (Key×V)}{k:Key}(e:H a=uM (.dK kvs)):DGet H a (kV k) (valV kvs k):=.inl ⟨kvs,k,.inl e,rfl,rfl⟩
theorem DPut.k {H:Hp}{a:kR}{kvs:List (Key×V)}{k:Key}{v:V}(e:H a=uM (.dK kvs))(hl:kvs.length<lg):DPut H a (kV k) v (upd H a (.dK (putK kvs k v))):=.inl ⟨kvs,k,e,rfl,hl,rfl⟩
section
variable {X:Cx}{pins:Pnn}{σ:St}{H:Hp}{s:kF}{a:kR}{y v:V}{u r:aU}{o:Option V}{A:l9}{E:aU->kF->Prop}
theorem Inv.big (I:Inv X pins σ H s):sysModules<s.heap.objs.size:=by
 have h:lD<s.heap.objs.size:=(I.mod.glob.keeps I.bk).lt;exact tP (by decide) h
theorem zhl_ {Q:aU->kF->Prop}(hu:A.units+1<cLine)(I:Inv X pins σ H s)(g:DGet H a y (uM v))(ry:RelV y u)(h:∀w' s',Inv X pins σ H s'->RelV v w'->Q w' s'):
  lJ (model X.prog X.w) A (getItem (.ref a) u) Q E s:=by
 rcases g with⟨kvs,k,e,ey,l⟩|⟨kvs,k,b,e,ey,eb,l⟩
 ·subst ey
  obtain⟨z,hd,vs,rel,dd⟩:=zhV_ I.hok e;obtain⟨w',hw,bK⟩:=RelO.some_of (v:=v) (o:=valueAt vs k) (by rw[l];exact rel.val k)
  exact wpAny_getItem_of (zj1_ ry) dd.mapOf hw (h w' _ (I.tok _) bK)
 ·subst ey
  cases(show u=mE b from ry)
  obtain⟨z,hd,xs,rel,dd⟩:=zle_ I.hok e;obtain⟨w',hw,bK⟩:=RelO.some_of (v:=v) (o:=(atKey xs k).map (·.2)) (by rw[l];exact rel.val k)
  obtain⟨p,hp,bj⟩:=lh.mp hw;refine wpAny_getItem_heap (tupleKind_room_in1 hu) (zgC_ I.hok eb) dd hp ?_;rw[bj];exact h w' _ (I.tok _) bK
theorem d_in {Q:aU->kF->Prop}(hu:A.units+1<cLine)(I:Inv X pins σ H s)(g:DGet H a y o)(ry:RelV y u)(h:∀s',Inv X pins σ H s'->Q (.bool o.isSome) s'):
  lJ (model X.prog X.w) A (lF .In u (.ref a)) Q E s:=by
 rcases g with⟨kvs,k,e,ey,l⟩|⟨kvs,k,b,e,ey,eb,l⟩
 ·subst ey
  obtain⟨z,hd,vs,rel,dd⟩:=zhV_ I.hok e;refine wpAny_in_of (zj1_ ry) hd dd.mapOf ?_;rw[<- (rel.val k).isSome_eq,<- l];exact h _ (I.tok _)
 ·subst ey
  cases(show u=mE b from ry)
  obtain⟨z,hd,xs,rel,dd⟩:=zle_ I.hok e;refine wpAny_in_heap (tupleKind_room_in1 hu) (zgC_ I.hok eb) hd dd ?_;have q:=(rel.val k).isSome_eq;rw[pA]at q;rw[<- q,<- l];exact h _ (I.tok _)
theorem zmK_ {Q:aU->kF->Prop}(hu:A.units+1<cLine)(I:Inv X pins σ H s)(g:DGet H a y o)(ry:RelV y u)(h:∀s',Inv X pins σ H s'->Q (.bool (!o.isSome)) s'):
  lJ (model X.prog X.w) A (lF .NotIn u (.ref a)) Q E s:=by
 rcases g with⟨kvs,k,e,ey,l⟩|⟨kvs,k,b,e,ey,eb,l⟩
 ·subst ey
  obtain⟨z,hd,vs,rel,dd⟩:=zhV_ I.hok e;refine wpAny_notIn_of (zj1_ ry) hd dd.mapOf ?_;rw[<- (rel.val k).isSome_eq,<- l];exact h _ (I.tok _)
 ·subst ey
  cases(show u=mE b from ry)
  obtain⟨z,hd,xs,rel,dd⟩:=zle_ I.hok e;refine wpAny_notIn_heap (tupleKind_room_in1 hu) (zgC_ I.hok eb) hd dd ?_;have q:=(rel.val k).isSome_eq;rw[pA]at q;rw[<- q,<- l];exact h _ (I.tok _)
theorem zew_ {h':Heap}{t':Nat}{ob:HO}(I:Inv X pins σ H s)(mu:Mut (H a))(hs:oT a s.heap h')(he:∃q,h'.get? a=uM q)(new:ObjOk X.prog X.w (upd H a ob) h' a ob):
  Inv X pins σ (upd H a ob) {s with heap:=h',toks:=t'}:=
 I.write (x:=a) (e:=a) mu (.inl rfl) (λb q hb z=>(hs.2 b hb).trans z) he new
theorem zjI_ {P:lN}{w:l7}{H':Hp}{h':Heap}{kvs:List (Key×V)}{vs:List (Key×aU)}(z:kvs.length<=lg)(hd:(a == sysModules)=uP)(rel:KV kvs vs)(dd:h'.DictOf (mixKind P w) a vs):
  ObjOk P w H' h' a (.dK kvs):=⟨z,hd,vs,rel,dd⟩
theorem zik_ {H':Hp}{Q:Unit->kF->Prop}(hu:A.units+1<cLine)(I:Inv X pins σ H s)(g:DPut H a y v H')(ry:RelV y u)(rv:RelV v r)(h:∀s',Inv X pins σ H' s'->Q () s'):
  lJ (model X.prog X.w) A (setItem (.ref a) u r) Q E s:=by
 rcases g with⟨kvs,k,e,ey,l,eH⟩|⟨kvs,k,b,e,ey,eb,l,eH⟩
 ·subst ey eH
  obtain⟨z,hd,vs,rel,dd⟩:=zlE_ I.hok e;have hz:vs.length<=lg:=by rw[<- rel.length];exact z
  have hl:(putK kvs k v).length<=lg:=by have:=zaF_ kvs k v;lia
  refine wpAny_setItem_pairs (hsz:=hz) (zj1_ ry) dd λh' cj hs=>h _ ?_
  have he:∃q,h'.get? a=uM q:=let⟨q,_,_,hq,_⟩:=cj;⟨q,hq⟩
  exact zew_ I (by rw[e];exact mP) hs he (zjI_ hl hd (rel.put k rv) cj)
 ·subst ey eH
  cases(show u=mE b from ry)
  obtain⟨z,hd,xs,rel,dd⟩:=dt_of I.hok e;have hz:xs.length<=lg:=by rw[<- Paired.length rel];exact z
  have hl:(putK kvs k v).length<=lg:=by have:=zaF_ kvs k v;lia
  refine wpAny_setItem_heap (hsz:=hz) (tupleKind_room_in1 hu) (zgC_ I.hok eb) dd λh' cj hs=>h _ ?_
  obtain⟨q,es,ep,hq,h2,h3,h4,_,h5⟩:=cj;refine zew_ I (by rw[e];exact mP) hs ⟨q,hq⟩ ⟨hl,hd,_,(rel.put k eb rv).keeps λc ys ec=>?_,q,es,ep,hq,h2,h3,h4,h5⟩
  rw[zc_ (ne_of ec e (λz=>nomatch z))]
  exact ec
variable {kvs:List (Key×V)}
theorem d_len {Q:aU->kF->Prop}(I:Inv X pins σ H s)(e:Rd H a (.dK kvs))(h:∀t s',Inv X pins σ H s'->Q (.int kvs.length t) s'):lJ (model X.prog X.w) A (call (.builtin "len") [.ref a]) Q E s:=by
 obtain⟨z,hd,vs,rel,dd⟩:=zhV_ I.hok e;refine call_len_dict hd dd (by rw[<- rel.length];rw[sizeLine_eq]at z;lia) ?_
 rw[<- rel.length];exact h _ _ (I.tok _)
end
def NoSl (i:lq):Prop:=∀ov iv,subscripted i uP ov iv=operate [ov,iv] (getItem ov iv)
theorem subD_of {prog:lN}{w:l7}{A:l9}{E:aU->kF->Prop}{s:kF}{env:Env}{value slice:lq}{pos:Pos}{T id:String}{Q:aU->kF->Prop}
  (hl:typeLookup (.type T) "__getitem__"=pure (uM (.builtin id))) (hs:NoSl slice)
  (h:lJ (model prog w) A (eval value env) (λo ab=>lJ (model prog w) A (eval slice env) (λi aO=>aO.TypeIs o T/\lJ (model prog w) A (getItem o i) Q E aO) E ab) E s):
  lJ (model prog w) A (eval (.Subscript value slice pos) env) Q E s:=by
 refine Subscript_ (mM h (λo ab aC=>mM aC (λi aO bR=>?_) λ_ _ x=>x) λ_ _ x=>x)
 obtain⟨hT,bR⟩:=bR;unfold subscriptTail;refine kJ ?_;rw[getitemInPython_of_ne hT.not_modules];refine kJ (wpAny_specialOf hT hl ?_);have fin:lJ (model prog w) A (subscripted slice uP o i) (λr az=>lJ (model prog w) A (letTemporaryGo value o r>>=λ_=>pure r) Q E az) E aO:=by
  rw[hs o i];exact wpAny_operating (mM bR (λr az bQ=>kJ (wpAny_letTemporaryGo (lE bQ))) λ_ _ x=>x)
 first
  |exact lE (kJ fin)
  |exact kJ (lE (kJ fin))
  |exact kJ fin
theorem ze9_ {X:Cx}{pins:Pnn}{σ:St}{H:Hp}{s:kF}{a:kR}{y:V}{o:Option V}(I:Inv X pins σ H s)(g:DGet H a y o):s.TypeIs (.ref a) "dict":=by
 rcases g with⟨kvs,k,e,_,_⟩|⟨kvs,k,b,e,_,_,_⟩
 ·obtain⟨_,_,vs,_,dd⟩:=zhV_ I.hok e
  exact dd.typeIs
 ·obtain⟨_,_,xs,_,dd⟩:=zle_ I.hok e
  exact dd.typeIs
section
end
theorem zg7_ {P:lN}{w:l7}{H:Hp}(h:Heap)(hb:sysModules<h.objs.size):ObjOk P w H (h.push {cls:=.type "dict",data:=.dict #[]}) h.objs.size (.dK []):=
 ⟨me _,beq_eq_false_iff_ne.mpr (pb (lI hb)),[],.nil,uL h⟩
def tDNewK:TE:=λ_ H Q=>∀p,H p=uN->Q (.ref p) (upd H p (.dK []))
section
variable {X:Cx}{pos:Pos}
theorem zko_:PE X (.Dict [] [] pos) tDNewK:=λpins s σ H Q I h=>
 wpAny_Dict_empty ⟨.ref s.heap.objs.size,_,I.laid (a:=s.heap.objs.size) (o:=.dK []) (t':=s.toks) (λ_ _ q=>kH _ q) (kP _) (zg7_ s.heap I.big),rfl,h _ (I.hok.fresh (kP _))⟩
end
def tPairs:List (TE×TE)->St->Hp->(List (V×V)->Hp->Prop)->Prop
 |[],_,H,Q=>Q [] H
 |(tk,tv)::r,σ,H,Q=>tk σ H λx H1=>tv σ H1 λy H2=>tPairs r σ H2 λps H3=>Q ((x,y)::ps) H3
abbrev VV:List (V×V)->List (aU×aU)->Prop:=Paired λp q=>RelV p.1 q.1/\RelV p.2 q.2
def PPs (X:Cx)(pos:Pos)(keys:List (Option lq))(values:List lq)(trs:List (TE×TE)):Prop:=
 ∀(pins:Pnn) (s:kF) (σ:St) (H:Hp) (Q:List (V×V)->Hp->Prop),Inv X pins σ H s->tPairs trs σ H Q ->
  lJ (model X.prog X.w) X.A (evalPairs (pairTrees keys values X.env pos)) (λvs s'=>∃ps H',Inv X pins σ H' s'/\VV ps vs/\Q ps H') X.xe s
theorem zjl_ {X:Cx}{pos:Pos}:PPs X pos [] [] []:=λpins s σ H Q I h=>pairTrees_nil_walk ⟨[],H,I,.nil,h⟩
theorem zej_ {X:Cx}{pos:Pos}{k v:lq}{ks:List (Option lq)}{vs:List lq}{tk tv:TE}{trs:List (TE×TE)}(hk:PE X k tk)(hv:PE X v tv)(hr:PPs X pos ks vs trs):
  PPs X pos (uM k::ks) (v::vs) ((tk,tv)::trs):=λpins s σ H Q I h=>
 pairTrees_cons_walk (thn (hk pins s σ H _ I h) λu s1 ⟨x,H1,I1,rx,q1⟩=>thn (hv pins s1 σ H1 _ I1 q1) λw2 s2 ⟨y,H2,I2,ry,q2⟩=>
  thn (hr pins s2 σ H2 _ I2 q2) λws s3 ⟨ps,H3,I3,rel,q3⟩=>⟨(x,y)::ps,H3,I3,.cons ⟨rx,ry⟩ rel,q3⟩)
def mergeK (kvs more:List (Key×V)):List (Key×V):=more.foldl (λacc kv=>putK acc kv.1 kv.2) kvs
theorem KV.merge:∀{more:List (Key×V)}{rs:List (Key×aU)}{kvs:List (Key×V)}{vs:List (Key×aU)},KV more rs->KV kvs vs->KV (mergeK kvs more) (merged vs rs):=by
 intro more rs kvs vs r;unfold KV at r;induction r generalizing kvs vs with
 |nil=>intro q;exact q
 | @cons p q ps qs h t ih=>
  intro r0;have e:KV (putK kvs p.1 p.2) (stored vs q.1 q.2):=by
   have:=r0.put p.1 h.2;rw[<- h.1];exact this
  exact ih e
theorem zbs_:∀(more kvs:List (Key×V)),(mergeK kvs more).length<=kvs.length+more.length
 |[],kvs=>by show kvs.length<=kvs.length+0;lia
 |p::r,kvs=>by
  have h1:=zbs_ r (putK kvs p.1 p.2);have h2:=zaF_ kvs p.1 p.2;show(mergeK (putK kvs p.1 p.2) r).length<=_
  rw[lp];lia
theorem zdz_ {P:lN}{w:l7}:∀{kvs:List (Key×V)}{ws:List (aU×aU)},VV (kvs.map λkv=>(kV kv.1,kv.2)) ws->∃rs,Carries (mixKind P w) ws rs/\KV kvs rs
 |[],_,r=>by rw[n6]at r;cases r;exact⟨[],mP,.nil⟩
 |p::kvs,_,r=>by
  rw[kX]at r;cases r with
  | @cons a b as bs h t=>
   obtain⟨rs,c,q⟩:=zdz_ (P:=P) (w:=w) t;obtain⟨b1,b2⟩:=b;exact⟨(p.1,b2)::rs,⟨zj1_ h.1,rfl,c⟩,.cons ⟨rfl,h.2⟩ q⟩
def tDisp (trs:List (TE×TE)):TE:=λσ H Q=>∀p,H p=uN->tPairs trs σ (upd H p (.dK [])) λps H2=>H2 p=uM (.dK [])/\∃kvs:List (Key×V),ps=kvs.map (λkv=>(kV kv.1,kv.2))/\kvs.length<=15/\Q (.ref p) (upd H2 p (.dK (mergeK [] kvs)))
theorem ziS_ {X:Cx}{pos:Pos}{keys:List (Option lq)}{values:List lq}{trs:List (TE×TE)}(h:PPs X pos keys values trs)(bB:keys.all (·.isSome)=uO)(hl:keys.length=values.length)(h0:keys≠[])
  (gW:keys.length<=15):PE X (.Dict keys values pos) (tDisp trs):=by
 intro pins s σ H Q I q;have hn:=I.hok.fresh (kP s.heap.objs.size);have I1:=I.laid (a:=s.heap.objs.size) (o:=.dK []) (h':=s.heap.push {cls:=.type "dict",data:=.dict #[]}) (t':=s.toks) (λ_ _ q=>kH _ q) (kP _) (zg7_ s.heap I.big)
 refine wpAny_Dict_walk (knd:=mixKind X.prog X.w) bB hl h0 gW (thn (h pins _ σ _ _ I1 (q _ hn)) λws s2 af=>?_)
 obtain⟨ps,H2,I2,rel,e,kvs,ep,lk,q2⟩:=af;subst ep;obtain⟨rs,c,rk⟩:=zdz_ (P:=X.prog) (w:=X.w) rel;obtain⟨z,hd,vs0,r0,dd⟩:=zlE_ I2.hok e;cases r0;refine⟨rs,c,dd,λh' cj hs=>⟨.ref s.heap.objs.size,_,?_,rfl,q2⟩⟩
 have hz:(mergeK [] kvs).length<=lg:=by
  have h1:=zbs_ kvs [];rw[pf]at h1;rw[sizeLine_eq];lia
 have he:∃q,h'.get? s.heap.objs.size=uM q:=let⟨q,_,_,hq,_⟩:=cj;⟨q,hq⟩
 exact zew_ I2 (by rw[e];exact mP) hs he (zjI_ hz hd (rk.merge .nil) cj)
structure M2 (X:Cx)(o:lq)(m:Str)(apos:Pos)(e f:lq)(ao:Pos):Prop where
 base:attributeBase o m X.env (eval o X.env)=eval o X.env
 few:((oj ao (lQ [e,f] X.env)).all (λx=>!x.1) && (qP ao (pL [] X.env)).all (λx=>x.1.isSome)
  && decide (([e,f]:List lq).length+([]:List Keyword).length+(if([]:List Keyword).isEmpty then 0 else 1)<30))=uO
 line:(apos.endLine == ao.line)=uO
 trees:oj ao (lQ [e,f] X.env)=[(uP,eval e X.env),(uP,eval f X.env)]
def IsD (H:Hp)(a:kR):Prop:=(∃kvs,Rd H a (.dK kvs))\/∃kvs,Rd H a (.dT kvs)
theorem zpt_ {X:Cx}{pins:Pnn}{σ:St}{H:Hp}{s:kF}{a:kR}(I:Inv X pins σ H s)(d:IsD H a):
  s.TypeIs (.ref a) "dict" /\ (∀b,mE a=.ref b->∃ob,s.heap.get? b=uM ob/\ob.dict=uN)/\(a==sysModules)=uP:=by
 rcases d with⟨kvs,e⟩|⟨kvs,e⟩
 ·obtain⟨_,hd,vs,_,dd⟩:=zhV_ I.hok e
  refine⟨dd.typeIs,λb q=>?_,hd⟩
  cases q;obtain⟨ob,_,_,h1,h2,_⟩:=dd;exact⟨ob,h1,h2.2.1⟩
 ·obtain⟨_,hd,xs,_,dd⟩:=zle_ I.hok e
  refine⟨dd.typeIs,λb q=>?_,hd⟩
  cases q;obtain⟨ob,_,_,h1,h2,_⟩:=dd;exact⟨ob,h1,h2.2.1⟩
section
end
section
namespace L2
open PySem PySem.Spec PyProof.Rows
section
end
section
variable {κ:Type}[DecidableEq κ]
end
end L2
end
section
end
def Itz (K:Fgg)(l m:kR):It:=
 ⟨λi H=>∃xs ys x y,SqL K H l xs/\SqL K H m ys/\xs[i]?=uM x/\ys[i]?=uM y,
  λi H v H'=>∃p x y,(∀xs,SqL K H l xs->xs[i]?=uM x)/\(∀ys,SqL K H m ys->ys[i]?=uM y)/\H p=uN/\v=.ref p/\H'=upd H p (.tup [x,y]),
  λi H=>∃xs ys,SqL K H l xs/\SqL K H m ys/\(xs.length<=i\/ys.length<=i)⟩
theorem zkt_ {P:lN}{w:l7}{K:Fgg}{elts:List lq}{kk:Nat}{pos:Pos}(z TI TO i1 i2 l m:kR)(D:ZipApart z TI TO i1 i2 l m):
  Turn P w K (.Tuple elts kk pos) (Itz K l m) [z,TI,TO,i1,i2] z (λi h=>IsZip h z TI TO .none/\IsPair h TI (.ref i1) (.ref i2)/\(∃a b,IsPair h TO a b)/\h.IsListIter i1 l i/\h.IsListIter i2 m i) where
 mem:=by simp
 obj:=λi h st b hb=>by
  obtain⟨hz,bX,⟨a,c,b_⟩,⟨o1,ho1,c1,d1⟩,⟨o2,bx,c2,d2⟩⟩:=st;rcases lA.mp hb with rfl |hb
  ·exact⟨_,hz,λv z=>by cases z⟩
  rcases lA.mp hb with rfl |hb
  ·exact⟨_,bX,λv z=>by cases z⟩
  rcases lA.mp hb with rfl |hb
  ·exact⟨_,b_,λv z=>by cases z⟩
  rcases lA.mp hb with rfl |hb
  ·exact⟨o1,ho1,λv z=>by rw[d1]at z;cases z⟩
  ·have e:b=i2:=by simpa using hb
   subst e;exact⟨o2,bx,λv z=>by rw[d2]at z;cases z⟩
 keep:=λi h h' st k=>by
  obtain⟨hz,bX,⟨a,c,b_⟩,h1,h2⟩:=st;exact⟨k z (by simp) _ hz,k TI (by simp) _ bX,⟨a,c,k TO (by simp) _ b_⟩,h1.at λo q=>k i1 (by simp) o q,h2.at λo q=>k i2 (by simp) o q⟩
 item:=by
  intro X hP hw hK hc i pins s σ H E I hf st hg;subst hP hw hK;obtain⟨xs,ys,x,y,hq,hq2,hx,hy⟩:=hg;obtain⟨aa,rv,p,hz0⟩:=I.list hq;obtain⟨aj,rv2,p2,hz2⟩:=I.list hq2;obtain⟨u,hu,ru⟩:=rv.get hx;obtain⟨v,hv,bK⟩:=rv2.get hy;obtain⟨hz,bX,⟨a,c,b_⟩,h1,h2⟩:=st;have lt:∀{c o},s.heap.get? c=uM o->c<s.heap.objs.size:=λe=>k8 e
  have lz:=lt hz;have i5:=lt bX;have i4:=lt b_;have l1:i1<s.heap.objs.size:=by obtain⟨o,e,_⟩:=id h1;exact lt e
  have l2:i2<s.heap.objs.size:=by obtain⟨o,e,_⟩:=id h2;exact lt e
  refine wpAny_pyNext_zip_item D hz bX b_ h1 h2 p.isList p2.isList (x:=u) (y:=v) (by simpa using hu) (by simpa using hv) λh3 z3 j_ gd f_ iW kd iE=>?_
  refine⟨_,rfl,?_⟩;refine wpAny_letOwnedTupleGo_zip z3 λh4 z4 cZ=>?_
  replace cZ:oT z h3 h4:=cZ;have hp:H s.heap.objs.size=uN:=I.hok.fresh (kP _);have I1:Inv X pins σ (upd H s.heap.objs.size (.tup [x,y])) {s with heap:=s.heap.push {cls:=.type "tuple",data:=.seq #[u,v]},toks:=s.toks}:=by
   refine I.laid (λb u q=>kH _ q) (kP _) ⟨?_,[u,v],.cons ru (.cons bK .nil),⟨_,lG _ rfl,rfl,_,rfl⟩⟩
   show 2<=lg
   decide
  have ay:∀b∈[z,TI,TO,i1,i2],b<s.heap.objs.size:=λb hb=>by
   rcases lA.mp hb with rfl |hb
   ·exact lz
   rcases lA.mp hb with rfl |hb
   ·exact i5
   rcases lA.mp hb with rfl |hb
   ·exact i4
   rcases lA.mp hb with rfl |hb
   ·exact l1
   ·have e:b=i2:=by simpa using hb
    rw[e];exact l2
  have eG:∀b∈[z,TI,TO,i1,i2],FpOk X pins (upd H s.heap.objs.size (.tup [x,y])) b:=λb hb=>by
   obtain⟨f0,r⟩:=hf b hb;refine⟨?_,r⟩;rw[zc_ (lI (ay b hb))];exact f0
  have I2:Inv X pins σ (upd H s.heap.objs.size (.tup [x,y])) {s with heap:=h4,toks:=s.toks}:=by
   refine Inv.turnedL (s:={s with heap:=s.heap.push {cls:=.type "tuple",data:=.seq #[u,v]},toks:=s.toks}) (ch:=[z,TI,TO,i1,i2]) I1 (λb o hb q=>?_) eG
   have n1:b≠z:=λe=>hb (by simp[e])
   have n2:b≠TO:=λe=>hb (by simp[e])
   have n3:b≠i1:=λe=>hb (by simp[e])
   have n4:b≠i2:=λe=>hb (by simp[e])
   refine(cZ.2 b n1).trans ?_;rcases qQ q with⟨rfl,rfl⟩|q'
   ·exact iW
   ·exact iE b o n1 n2 n3 n4 q'
  refine⟨.ref s.heap.objs.size,_,I2,rfl,⟨s.heap.objs.size,x,y,λzs cJ=>by rw[I.list_inj cJ hq];exact hx,λzs cJ=>by rw[I.list_inj cJ hq2];exact hy,hp,rfl,rfl⟩,⟨z4,?_,⟨u,v,?_⟩,?_,?_⟩,λb hb=>(eG b hb).1⟩
  ·exact(cZ.2 TI D.TIz).trans (iE TI _ D.TIz D.TITO D.TIi1 D.TIi2 bX)
  ·exact(cZ.2 TO D.TOz).trans j_
  ·exact gd.extBut cZ.extBut D.i1z
  ·exact f_.extBut cZ.extBut D.i2z
 done:=by
  intro X hP hw hK hc i pins s σ H E I hf st hg;subst hP hw hK;obtain⟨xs,ys,hq,hq2,hx⟩:=hg;obtain⟨aa,rv,p,hz0⟩:=I.list hq;obtain⟨aj,rv2,p2,hz2⟩:=I.list hq2;obtain⟨hz,bX,⟨a,c,b_⟩,h1,h2⟩:=st;have hl:=rv.length;have fI:=rv2.length;refine wpAny_pyNext_zip_end (I.ok.hd hc) D hz bX b_ h1 h2 p.isList p2.isList ?_ λh' eb=>⟨rfl,?_⟩
  ·rcases hx with hx |hx
   ·exact .inl (by simp;lia)
   ·exact .inr (by simp;lia)
  ·refine Inv.turnedL (s:=s) (t':=s.toks) (ch:=[z,TI,TO,i1,i2]) I (λb o hb q=>eb b o (λe=>hb (by simp[e])) (λe=>hb (by simp[e])) (λe=>hb (by simp[e])) (λe=>hb (by simp[e])) q) hf
 self:=λ_ _ _ _ _ st h=>wpAny_pyIter_zip st.1 h
theorem zhS_ {N l m:Nat}(hl:l<N)(hm:m<N):ZipApart (N+4) (N+2) (N+3) N (N+1) l m:=by
 constructor<;>(intro e;have e':(_:Nat)=_:=congrArg (λx:Nat=>x) e;lia)
section
end
def keyV:V->Option Key
 |.int i=>uM (.inl i)
 |.str z=>uM (.inr z)
 |_=>uN
theorem zm3_ {y:V}{k:Key}(h:keyV y=uM k):y=kV k:=by
 cases y<;>first |(cases h;rfl)|cases h
def atD (x y:V)(H:Hp)(R:kR->List (Key×V)->Key->Prop):Prop:=match x with
 |.ref a=>(match keyV y with |some k=>∃kvs,H a=uM (.dK kvs)/\R a kvs k |none=>False)
 |_=>False
theorem zgW_ {x y:V}{H:Hp}{R:kR->List (Key×V)->Key->Prop}(h:atD x y H R):∃a kvs k,x=.ref a/\y=kV k/\H a=uM (.dK kvs)/\R a kvs k:=by
 unfold atD at h;cases x with
 |ref a=>
  cases e:keyV y with
  |none=>rw[e]at h;exact h.elim
  |some k=>
   rw[e]at h;obtain⟨kvs,h1,h2⟩:=h;exact⟨a,kvs,k,rfl,zm3_ e,h1,h2⟩
 |_=>exact h.elim
section
variable {X:Cx}
def mLenD:List V->Hp->VK->Prop:=λxs H Q=>match xs with |[.ref a]=>∃kvs,H a=uM (.dK kvs)/\Q (.int kvs.length) H |_=>False
theorem zhg_:CallR X (.builtin "len") mLenD:=by
 intro pins s σ H xs us Q I r h;unfold mLenD at h;split at h
 ·rename_i a
  obtain⟨kvs,ha,q⟩:=h;obtain⟨u,rfl,ru⟩:=vals1 r;cases ru;exact d_len I (.inl ha) λt s' I'=>⟨.int kvs.length,H,I',⟨t,rfl⟩,q⟩
 ·exact h.elim
end
inductive Av where
 |i (n:Int)|p (a b:Int)
inductive Xc where
 |pl (c:String)|at(c:String) (as:List (Str×Av))
instance:Coe String Xc:=⟨Xc.pl⟩
inductive Mo (α:Type) where
 |ok (a:α)|ex (c:Xc)|no
namespace Mo
variable {α β γ:Type}
noncomputable def bind (x:Mo α)(f:α->Mo β):Mo β:=match x with |.ok a=>f a |.ex c=>.ex c |.no=>.no
theorem bind_assoc (x:Mo α)(f:α->Mo β)(g:β->Mo γ):(x.bind f).bind g=x.bind λa=>(f a).bind g:=by cases x<;>rfl
noncomputable def noex (x:Mo α):Mo α:=match x with |.ok a=>.ok a |_=>.no
noncomputable def lim (n:Nat)(k:Mo α):Mo α:=if n<=lg then k else .no
theorem lim_ok {n:Nat}{k:Mo α}(h:n<=100000):lim n k=k:=if_pos (zaw_ h)
noncomputable def grd (p:Prop)[Decidable p](k:Mo α):Mo α:=if p then k else .no
theorem grd_ok {p:Prop}[Decidable p]{k:Mo α}(h:p):grd p k=k:=if_pos h
noncomputable def opt (x:Option α):Mo α:=match x with |some a=>.ok a |none=>.no
end Mo
def un (F h:Hp):Hp:=λp=>match F p with |some o=>uM o |none=>h p
def Dj (F h:Hp):Prop:=∀p,F p=uN\/h p=uN
def Jn (h1 h2 h:Hp):Prop:=∀p,(h1 p=uN/\h p=h2 p)\/(h2 p=uN/\h p=h1 p)
def Ext (F H F' H':Hp):Prop:=Same F F'/\Same F' H'/\Same H H'/\∀p,F p=uN->F' p≠uN->H p=uN
theorem Ext.refl {F H:Hp}(h:Same F H):Ext F H F H:=⟨Same.refl _,h,Same.refl _,λp a b=>absurd a b⟩
theorem Ext.trans {F H F1 H1 F2 H2:Hp}(a:Ext F H F1 H1)(b:Ext F1 H1 F2 H2):Ext F H F2 H2:=by
 obtain⟨a1,a2,a3,a4⟩:=a;obtain⟨b1,b2,b3,b4⟩:=b;refine⟨a1.trans b1,b2,a3.trans b3,λp hp hq=>?_⟩
 cases e:F1 p with
 |none=>exact a3.free (b4 p e hq)
 |some o=>exact a4 p hp (by rw[e];exact sN _)
theorem Ext.heap {F H H':Hp}(h:Same F H)(g:Same H H'):Ext F H F H':=⟨Same.refl _,h.trans g,g,λp a b=>absurd a b⟩
theorem Ext.new {F H:Hp}(h:Same F H){p:kR}{o:HO}(hp:H p=uN):Ext F H (upd F p o) (upd H p o):=by
 refine⟨zW_ (h.free hp) _,λb u e=>?_,zW_ hp _,λq a b=>?_⟩
 ·unfold upd at e ⊢
  split
  ·rename_i z;rw[if_pos z]at e;exact e
  ·rename_i z;rw[if_neg z]at e;exact h _ _ e
 ·unfold upd at b
  split at b
  ·rename_i z;rw[z];exact hp
  ·exact absurd a b
structure Ty (α:Type) where
 R:α->V->Hp->Prop
 mono:∀{a v H H'},Same H H'->R a v H->R a v H'
def Tups (H H':Hp):Prop:=∀p xs,H p=uM (.tup xs)->H' p=uM (.tup xs)
theorem Same.tups {H H':Hp}(h:Same H H'):Tups H H':=λp xs e=>h _ _ e
abbrev tyInt:Ty Int:=⟨λa v _=>v=.int a,λ_ h=>h⟩
structure Cs (γ:Type) where
 R:γ->List V->Hp->Prop
 mono:∀{c vs H H'},Same H H'->R c vs H->R c vs H'
abbrev Prs {α:Type}(T:Ty α)(H:Hp)(xs:List α)(vs:List V):Prop:=Paired (λx v=>T.R x v H) xs vs
theorem zb6_ {α β:Type}{R R':α->β->Prop}(h:∀a b,R a b->R' a b):∀{xs:List α}{ys:List β},Paired R xs ys->Paired R' xs ys
 |_,_,.nil=>.nil
 |_,_,.cons a t=>.cons (h _ _ a) (zb6_ h t)
theorem Prs.mono {α:Type}{T:Ty α}{H H':Hp}{xs:List α}{vs:List V}(g:Same H H')(h:Prs T H xs vs):Prs T H' xs vs:=zb6_ (λ_ _ r=>T.mono g r) h
noncomputable abbrev tyL {α:Type}(T:Ty α):Ty (List α):=⟨λxs v H=>∃p vs,v=.ref p/\H p=uM (.lst vs)/\Prs T H xs vs,λg ⟨p,vs,e,h,q⟩=>⟨p,vs,e,g _ _ h,q.mono g⟩⟩
structure Own (α:Type) where
 O:α->V->Hp->Hp->Prop
 fr:Ty α
 mono:∀{a v F F' h},Same F F'->O a v F h->O a v F' h
 frz:∀{a v F h},Dj F h->O a v F h->fr.R a v (un F h)
 notup:∀{a v F h},O a v F h->∀p xs,h p≠uM (.tup xs)
theorem z1_ {F h:Hp}:Same F (un F h):=λp o e=>by unfold un;rw[e]
theorem zd1_ {F h:Hp}(d:Dj F h):Same h (un F h):=λp o e=>by
 unfold un;rcases d p with z |z
 ·rw[z];exact e
 ·rw[z]at e;cases e
def one (p:kR)(o:HO):Hp:=λq=>if q=p then uM o else uN
theorem zq_ {p:kR}{o:HO}:one p o p=uM o:=if_pos rfl
inductive Sl:Type 1 where
 |dead
 |fz {α:Type}(T:Ty α) (a:α)
 |ow {α:Type}(O:Own α) (a:α)
def Sl.P:Sl->Option V->Hp->Hp->Prop
 |.dead,_,_,_=>True
 |.fz T a,o,F,_=>∃v,o=uM v/\T.R a v F
 |.ow O a,o,F,h=>∃v,o=uM v/\O.O a v F h
def Sl.Z:Sl->Option V->Hp->Prop
 |.dead,_,_=>True
 |.fz T a,o,F=>∃v,o=uM v/\T.R a v F
 |.ow O a,o,F=>∃v,o=uM v/\O.fr.R a v F
def Hold:List Sl->St->Hp->Hp->Prop
 |[],[],_,_=>True
 |s::L,o::σ,F,h=>∃h1 h2,Jn h1 h2 h/\s.P o F h1/\Hold L σ F h2
 |_,_,_,_=>False
def HoldF (L:List Sl)(σ:St)(F:Hp):Prop:=∀(i:Nat) (s:Sl),L[i]?=uM s->s.Z (σ[i]?.join) F
theorem Sl.P.mono {s:Sl}{o:Option V}{F F' h:Hp}(g:Same F F')(q:s.P o F h):s.P o F' h:=by
 cases s with
 |dead=>exact q
 |fz T a=>obtain⟨v,e,r⟩:=q;exact⟨v,e,T.mono g r⟩
 |ow O a=>obtain⟨v,e,r⟩:=q;exact⟨v,e,O.mono g r⟩
theorem Sl.Z.mono {s:Sl}{o:Option V}{F F':Hp}(g:Same F F')(q:s.Z o F):s.Z o F':=by
 cases s with
 |dead=>exact q
 |fz T a=>obtain⟨v,e,r⟩:=q;exact⟨v,e,T.mono g r⟩
 |ow O a=>obtain⟨v,e,r⟩:=q;exact⟨v,e,O.fr.mono g r⟩
theorem HoldF.mono {L:List Sl}{σ:St}{F F':Hp}(g:Same F F')(q:HoldF L σ F):HoldF L σ F':=λi s e=>(q i s e).mono g
theorem Hold.mono:∀{L:List Sl}{σ:St}{F F' h:Hp},Same F F'->Hold L σ F h->Hold L σ F' h
 |[],[],_,_,_,_,q=>q
 |s::L,o::σ,F,F',h,g,q_=>by obtain⟨h1,h2,j,p,r⟩:=q_;exact⟨h1,h2,j,p.mono g,r.mono g⟩
 |[],_::_,_,_,_,_,q=>q.elim
 |_::_,[],_,_,_,_,q=>q.elim
theorem Jn.l {h1 h2 h:Hp}(j:Jn h1 h2 h):Same h1 h:=λp o e=>by
 rcases j p with⟨a,b⟩|⟨a,b⟩
 ·rw[a]at e;cases e
 ·rw[b];exact e
theorem Jn.r {h1 h2 h:Hp}(j:Jn h1 h2 h):Same h2 h:=λp o e=>by
 rcases j p with⟨a,b⟩|⟨a,b⟩
 ·rw[b];exact e
 ·rw[a]at e;cases e
theorem Jn.dj {h1 h2 h:Hp}(j:Jn h1 h2 h):Dj h1 h2:=λp=>by
 rcases j p with⟨a,b⟩|⟨a,b⟩
 ·exact .inl a
 ·exact .inr a
theorem zai_ {h1 h2:Hp}(d:Dj h1 h2):Jn h1 h2 (un h1 h2):=λp=>by
 unfold un;rcases d p with a |a
 ·rw[a];exact .inl ⟨rfl,rfl⟩
 ·refine .inr ⟨a,?_⟩
  cases h1 p with
  |none=>exact a
  |some o=>rfl
theorem Hold.at:∀{L:List Sl}{σ:St}{F h:Hp}(i:Nat) {s:Sl},Hold L σ F h->L[i]?=uM s ->
  ∃o h1 h2,σ[i]?=uM o/\Jn h1 h2 h/\s.P o F h1/\∀s' o' h1' h',Jn h1' h2 h'->s'.P o' F h1'->Hold (L.set i s') (σ.set i o') F h'
 |[],_,_,_,_,_,_,e=>by cases e
 |s::L,[],_,_,_,_,q,_=>q.elim
 |s::L,o::σ,F,h,0,t,q_,e=>by
  obtain⟨h1,h2,j,p,r⟩:=q_;cases e;exact⟨o,h1,h2,rfl,j,p,λs' o' h1' h' j' p'=>⟨h1',h2,j',p',r⟩⟩
 |s::L,o::σ,F,h,i+1,t,q_,e=>by
  obtain⟨h1,h2,j,p,r⟩:=q_;obtain⟨o1,k1,k2,e1,j1,p1,f⟩:=Hold.at i r (by simpa using e)
  have d1:Dj h1 k1:=λp=>by
   rcases j.dj p with a |a
   ·exact .inl a
   ·exact .inr (j1.l.free a)
  have d2:Dj h1 k2:=λp=>by
   rcases j.dj p with a |a
   ·exact .inl a
   ·exact .inr (j1.r.free a)
  refine⟨o1,k1,un h1 k2,by simpa using e1,λp=>?_,p1,λs' o' b7 h' j' p'=>?_⟩
  ·rcases j p with⟨a,b⟩|⟨a,b⟩
   ·rcases j1 p with⟨c,d⟩|⟨c,d⟩
    ·refine .inl ⟨c,?_⟩;unfold un;rw[a,b,d]
    ·refine .inr ⟨?_,by rw[b,d]⟩;unfold un;rw[a,c]
   ·refine .inl ⟨j1.l.free a,?_⟩
    have:k2 p=uN:=j1.r.free a;unfold un;rw[b];cases h1 p with
    |none=>rw[this]
    |some u=>rfl
  ·have dd:Dj b7 k2:=λp=>by
    rcases j' p with⟨a,b⟩|⟨a,b⟩
    ·exact .inl a
    ·right;unfold un at a
     cases z:h1 p with
     |none=>rw[z]at a;exact a
     |some u=>rw[z]at a;cases a
   refine⟨h1,un b7 k2,λp=>?_,p,f s' o' b7 _ (zai_ dd) p'⟩
   rcases j' p with⟨a,b⟩|⟨a,b⟩
   ·unfold un at b ⊢
    cases z:h1 p with
    |none=>rw[z]at b;exact .inl ⟨rfl,by rw[b,a]⟩
    |some u=>
     rw[z]at b;refine .inr ⟨?_,b⟩;rw[a];rcases d2 p with y |y
     ·rw[y]at z;cases z
     ·exact y
   ·unfold un at a
    cases z:h1 p with
    |some u=>rw[z]at a;cases a
    |none=>
     rw[z]at a;refine .inl ⟨rfl,?_⟩;unfold un;rw[b];cases b7 p with
     |none=>exact a.symm
     |some u=>rfl
theorem Hold.froz {L:List Sl}{σ:St}{F h:Hp}(d:Dj F h)(q:Hold L σ F h):HoldF L σ (un F h):=by
 intro i s e;obtain⟨o,h1,h2,e1,j,p,_⟩:=q.at i e;rw[e1];have d1:Dj F h1:=λp=>by
  rcases d p with a |a
  ·exact .inl a
  ·exact .inr (j.l.free a)
 cases s with
 |dead=>trivial
 |fz T a=>obtain⟨v,e2,r⟩:=p;exact⟨v,e2,T.mono z1_ r⟩
 |ow O a=>
  obtain⟨v,e2,r⟩:=p;refine⟨v,e2,O.fr.mono (λp u z=>?_) (O.frz d1 r)⟩
  unfold un at z ⊢;cases y:F p with
  |some w=>rw[y]at z;exact z
  |none=>rw[y]at z;exact j.l _ _ z
end L2
namespace L2
open PySem PySem.Spec PyProof.Rows
def Av.R:Av->V->Hp->Prop
 |.i n,v,_=>v=.int n
 |.p a b,v,H=>∃q,v=.ref q/\H q=uM (.tup [.int a,.int b])
theorem Av.imm {x:Av}{v:V}{H H':Hp}(g:Tups H H')(h:x.R v H):x.R v H':=by
 cases x with
 |i n=>exact h
 |p a b=>obtain⟨q,e,z⟩:=h;exact⟨q,e,g _ _ z⟩
def AtR (as:List (Str×Av))(fs:List (Str×V))(F:Hp):Prop:=Paired (λa f=>a.1=f.1/\a.2.R f.2 F) as fs
theorem AtR.imm {as:List (Str×Av)}{fs:List (Str×V)}{H H':Hp}(g:Tups H H')(h:AtR as fs H):AtR as fs H':=zb6_ (λ_ _ r=>⟨r.1,Av.imm g r.2⟩) h
def Tell (K:Fgg)(E:XK)(x:Xc)(H0 F H:Hp):Prop:=match x with
 |.pl c=>E (.ref (gA K c)) uN H
 |.at c as=>∀dx fs,H0 dx=uN->F dx=uM (XDO dx fs)->AtR as fs F->E (.ref (gA K c)) (uM dx) H
theorem Tell.up {K:Fgg}{E:XK}{x:Xc}{H0 H1 F H:Hp}(s:Same H0 H1)(h:Tell K E x H0 F H):Tell K E x H1 F H:=by
 cases x with
 |pl c=>exact h
 |«at» c as=>exact λdx fs e=>h dx fs (s.free e)
def After {α:Type}(K:Fgg)(r:Mo α)(E:XK)(F H:Hp)(k:α->Hp->Hp->Prop):Prop:=match r with
 |.ok a=>∀F' H',Ext F H F' H'->k a F' H'
 |.ex c=>∀F' H',Ext F H F' H'->Tell K E c H F' H'
 |.no=>False
section
variable {K:Fgg}{E:XK}{α β γ:Type}{F H:Hp}
theorem After.bind {r:Mo α}{f:α->Mo β}{k:β->Hp->Hp->Prop}(h:After K (r.bind f) E F H k):After K r E F H λa F1 H1=>After K (f a) E F1 H1 k:=by
 cases r with
 |ok a=>
  intro F1 H1 x;have h':After K (f a) E F H k:=h;cases e:f a with
  |ok b=>rw[e]at h';exact λF2 H2 y=>h' F2 H2 (x.trans y)
  |ex c=>rw[e]at h';exact λF2 H2 y=>(h' F2 H2 (x.trans y)).up x.2.2.1
  |no=>rw[e]at h';exact h'
 |ex c=>exact h
 |no=>exact h
theorem After.imp {r:Mo α}{k k':α->Hp->Hp->Prop}(h:After K r E F H k)(g:∀a F' H',Ext F H F' H'->k a F' H'->k' a F' H'):After K r E F H k':=by
 cases r with
 |ok a=>exact λF' H' x=>g a F' H' x (h F' H' x)
 |ex c=>exact h
 |no=>exact h
theorem After.ok {a:α}{k:α->Hp->Hp->Prop}(hs:Same F H)(h:After K (.ok a) E F H k):k a F H:=h F H (.refl hs)
theorem After.lim {n:Nat}{r:Mo α}{k:α->Hp->Hp->Prop}(h:After K (Mo.lim n r) E F H k):n<=lg/\After K r E F H k:=by
 unfold Mo.lim at h;split at h
 ·exact⟨by assumption,h⟩
 ·exact h.elim
theorem After.grd {p:Prop}[Decidable p]{r:Mo α}{k:α->Hp->Hp->Prop}(h:After K (Mo.grd p r) E F H k):p/\After K r E F H k:=by
 unfold Mo.grd at h;split at h
 ·exact⟨by assumption,h⟩
 ·exact h.elim
theorem After.opt {x:Option α}{k:α->Hp->Hp->Prop}(h:After K (Mo.opt x) E F H k):∃a,x=uM a/\After K (.ok a) E F H k:=by
 cases x with
 |none=>exact h.elim
 |some a=>exact⟨a,rfl,h⟩
def EvF (K:Fgg)(e:TE)(E:XK)(L:List Sl)(r:Mo α)(T:Ty α):Prop:=
 ∀σ F H (Q:VK),HoldF L σ F->Same F H->After K r E F H (λa F' H'=>∀v,T.R a v F'->Q v H')->e σ H Q
def OwnK (O:Own α)(H:Hp)(Q:VK)(a:α)(F' H':Hp):Prop:=∀v h,(∀p,h p≠uN->H p=uN)->Dj F' h->Same h H'->O.O a v F' h->Q v H'
def EvO (K:Fgg)(e:TE)(E:XK)(L:List Sl)(r:Mo α)(O:Own α):Prop:=
 ∀σ F H (Q:VK),HoldF L σ F->Same F H->After K r E F H (OwnK O H Q)->e σ H Q
def EvT (K:Fgg)(t:TT)(E:XK)(L:List Sl)(r:Mo Bool):Prop:=
 ∀σ F H (Q:Bool->Hp->Prop),HoldF L σ F->Same F H->After K r E F H (λb _ H'=>Q b H')->t σ H Q
def EvA (K:Fgg)(t:TA)(E:XK)(L:List Sl)(r:Mo γ)(C:Cs γ):Prop:=
 ∀σ F H (Q:List V->Hp->Prop),HoldF L σ F->Same F H->After K r E F H (λc F' H'=>∀vs,C.R c vs F'->Q vs H')->t σ H Q
variable {L:List Sl}{e e1 e2:TE}{T:Ty α}{r:Mo α}
theorem EvO.fr {O:Own α}(h:EvO K e E L r O):EvF K e E L r O.fr:=by
 intro σ F H Q hL hs q;refine h σ F H Q hL hs ?_;cases r with
 |ok a=>
  intro F' H' x v h' fresh d s o;refine q (un F' h') H' ⟨x.1.trans z1_,λp o e=>?_,x.2.2.1,λp a b=>?_⟩ v (O.frz d o)
  ·unfold un at e
   cases z:F' p with
   |some w=>rw[z]at e;cases e;exact x.2.1 _ _ z
   |none=>rw[z]at e;exact s _ _ e
  ·unfold un at b
   cases z:F' p with
   |some w=>exact x.2.2.2 p a (by rw[z];exact sN _)
   |none=>rw[z]at b;exact fresh p b
 |ex c=>exact q
 |no=>exact q
def Op2O (K:Fgg)(m:R2)(E:XK)(T1:Ty α)(T2:Ty β)(g:α->β->Mo γ)(O:Own γ):Prop:=
 ∀a b x y F H (Q:VK),Same F H->T1.R a x F->T2.R b y F->After K (g a b) E F H (OwnK O H Q)->m x y H Q
theorem OwnK.back {O:Own α}{H H1:Hp}{Q:VK}{a:α}{F' H':Hp}(g:Same H H1)(h:OwnK O H Q a F' H'):OwnK O H1 Q a F' H':=
 λv k fresh d s o=>h v k (λp z=>g.free (fresh p z)) d s o
theorem zox_ {m:R2}{T1:Ty α}{T2:Ty β}{O:Own γ}{g:α->β->Mo γ}{r1:Mo α}{r2:Mo β}(ju:Op2O K m E T1 T2 g O)(h1:EvF K e1 E L r1 T1)(h2:EvF K e2 E L r2 T2):
  EvO K (tOp m e1 e2) E L (r1.bind λa=>r2.bind λb=>g a b) O:=by
 intro σ F H Q hL hs q;refine h1 σ F H _ hL hs (q.bind.imp λa F1 H1 x1 k1 v1 aN=>?_)
 refine h2 σ F1 H1 _ (hL.mono x1.1) x1.2.1 (k1.bind.imp λb F2 H2 x2 k2 v2 cX=>?_)
 exact ju a b v1 v2 F2 H2 Q x2.2.1 (T1.mono x2.1 aN) cX (k2.imp λc F3 H3 x3 k3=>k3.back (x1.2.2.1.trans x2.2.2.1))
noncomputable instance (i j:Int):Decidable (CMul i j):=inferInstanceAs (Decidable (_\/_))
noncomputable instance (i j:Int):Decidable (CDiv i j):=inferInstanceAs (Decidable (_/\_))
noncomputable instance (i j:Int):Decidable (CPow i j):=inferInstanceAs (Decidable (_/\_/\_))
theorem Prs.append {xs ys:List α}{vs us:List V}(a:Prs T H xs vs)(b:Prs T H ys us):Prs T H (xs++ys) (vs++us):=by
 induction a with
 |nil=>exact b
 |cons r t ih=>exact .cons r ih
theorem Prs.len {xs:List α}{vs:List V}(a:Prs T H xs vs):xs.length=vs.length:=Paired.length a
theorem Prs.get {xs:List α}{vs:List V}(a:Prs T H xs vs)(i:Nat):(xs[i]?=uN/\vs[i]?=uN)\/∃x v,xs[i]?=uM x/\vs[i]?=uM v/\T.R x v H:=by
 induction a generalizing i with
 |nil=>exact .inl ⟨rfl,rfl⟩
 |cons r t ih=>
  cases i with
  |zero=>exact .inr ⟨_,_,rfl,rfl,r⟩
  |succ i=>simpa using ih i
theorem Prs.take {xs:List α}{vs:List V}(a:Prs T H xs vs)(n:Nat):Prs T H (xs.take n) (vs.take n):=by
 induction a generalizing n with
 |nil=>rw[rd,rd];exact .nil
 |cons r t ih=>
  cases n with
  |zero=>exact .nil
  |succ n=>exact .cons r (ih n)
theorem Prs.drop {xs:List α}{vs:List V}(a:Prs T H xs vs)(n:Nat):Prs T H (xs.drop n) (vs.drop n):=by
 induction a generalizing n with
 |nil=>rw[tq,tq];exact .nil
 |cons r t ih=>
  cases n with
  |zero=>exact .cons r t
  |succ n=>exact ih n
def BlO (K:Fgg)(m:List V->Hp->VK->Prop)(E:XK)(C:Cs γ)(g:γ->Mo α)(O:Own α):Prop:=
 ∀c vs F H (Q:VK),Same F H->C.R c vs F->After K (g c) E F H (OwnK O H Q)->m vs H Q
theorem zpw_ {m:List V->Hp->VK->Prop}{C:Cs γ}{g:γ->Mo α}{O:Own α}{ta:TA}{r:Mo γ}(hb:BlO K m E C g O)(h:EvA K ta E L r C):EvO K (tCB m ta) E L (r.bind g) O:=by
 intro σ F H Q hL hs q;exact h σ F H _ hL hs (q.bind.imp λc F1 H1 x1 k1 vs cz=>hb c vs F1 H1 Q x1.2.1 cz (k1.imp λa F2 H2 x2 k2=>k2.back x1.2.2.1))
theorem zlq_ {xs:List α}{vs:List V}(r:Prs T H xs vs){i:Int}{x:α}(e:atI xs i=uM x):∃v,atI vs i=uM v/\T.R x v H:=by
 unfold atI at e ⊢;rw[<- r.len];cases e1:ixN xs.length i with
 |none=>rw[e1]at e;cases e
 |some j=>
  rw[e1]at e;rcases r.get j with⟨a,b⟩|⟨y,v,a,b,c⟩
  ·have:xs[j]?=uM x:=e
   rw[a]at this;cases this
  ·have:xs[j]?=uM x:=e
   rw[a]at this;cases this;exact⟨v,b,c⟩
end
section
variable {K:Fgg}{E:XK}{α γ:Type}{F H:Hp}{L:List Sl}{e1 e2:TE}{T:Ty α}{r:Mo α}{t:TT}{b:Mo Bool}
theorem zp2_ {r1 r2:Mo α}{O:Own α}(ht:EvT K t E L b)(h1:EvO K e1 E L r1 O)(h2:EvO K e2 E L r2 O):EvO K (mIf t e1 e2) E L (b.bind λc=>if c then r1 else r2) O:=by
 intro σ F H Q hL hs q;refine ht σ F H _ hL hs (q.bind.imp λa F1 H1 x k=>⟨λc=>?_,λc=>?_⟩)
 ·rw[if_pos c]at k;exact h1 σ F1 H1 _ (hL.mono x.1) x.2.1 (k.imp λa F2 H2 y z=>z.back x.2.2.1)
 ·rw[if_neg (by rw[c];decide)]at k;exact h2 σ F1 H1 _ (hL.mono x.1) x.2.1 (k.imp λa F2 H2 y z=>z.back x.2.2.1)
theorem After.more {k:α->Hp->Hp->Prop}(h:After K r E F H k):After K r E F H λa F1 H1=>∀F2 H2,Ext F1 H1 F2 H2->k a F2 H2:=by
 cases r with
 |ok a=>exact λF1 H1 x F2 H2 y=>h F2 H2 (x.trans y)
 |ex c=>exact h
 |no=>exact h
def EvP (K:Fgg)(t:TO)(E:XK)(L:List Sl)(r:Mo (Option Int)):Prop:=
 ∀σ F H (Q:Option Int->Hp->Prop),HoldF L σ F->Same F H->After K r E F H (λb _ H'=>Q b H')->t σ H Q
theorem ep_no:EvP K tNoPart E L (.ok uN):=λσ F H Q hL hs q=>q.ok hs
def cutG (xs:List α)(lo hi:Option Int):List α:=(xs.drop (HT.sIx xs.length 0 lo)).take (HT.sIx xs.length xs.length hi-HT.sIx xs.length 0 lo)
theorem znu_ {xs:List α}{vs:List V}(q:Prs T H xs vs)(lo hi:Option Int):Prs T H (cutG xs lo hi) (cutV vs lo hi):=by
 unfold cutG cutV;rw[<- q.len];exact(q.drop _).take _
theorem EqD.le {H:Hp}{n m:Nat}{x y:V}{b:Bool}(h:EqD K H n x y b)(g:n<=m):EqD K H m x y b:=by
 induction g with
 |refl=>exact h
 |step _ ih=>exact .up ih
def MeO (K:Fgg)(m:V->List V->Hp->VK->Prop)(E:XK)(C:Cs γ)(g:List Nat->γ->Mo α)(O:Own α):Prop:=
 ∀l c vs F H (Q:VK),Same F H->C.R c vs F->After K (g l c) E F H (OwnK O H Q)->m (tx l) vs H Q
noncomputable def zfL (l:List Nat)(i:Int):List Nat:=(Txt.zfill ⟨l.toArray⟩ i).cps.toList
end
section
variable {K:Fgg}{E:XK}{α β:Type}{F H:Hp}{L:List Sl}{e:TE}{T:Ty α}{r:Mo α}
noncomputable def setL (L:List Sl)(ss:List (Nat×Sl)):List Sl:=ss.foldl (λL q=>L.set q.1 q.2) L
def setS (σ:St)(ss:List (Nat×Option V)):St:=ss.foldl (λL q=>L.set q.1 q.2) σ
inductive Plain (F:Hp):List (Nat×Sl)->List (Nat×Option V)->Prop
 |nil:Plain F [] []
 |cons {α:Type}{T:Ty α}{a:α}{i:Nat}{v:V}{ss vs} (h:T.R a v F) (t:Plain F ss vs):Plain F ((i,.fz T a)::ss) ((i,uM v)::vs)
def TgR (K:Fgg)(g:TG)(T:Ty α)(ss:α->List (Nat×Sl)):Prop:=
 ∀a v σ F H (Q:St->Hp->Prop),Same F H->T.R a v F->(∀vs,Plain F (ss a) vs->Q (setS σ vs) H)->g v σ H Q
theorem zf0_ {σ:St}{i j:Nat}{o:Option V}(h:i<σ.length):((σ.set i o)[j]?).join=if i=j then o else(σ[j]?).join:=by
 rw[nu];split
 ·rename_i e;subst e;first |rfl |(rw[if_pos h];rfl)
 ·rfl
theorem zie_ {σ:St}{i:Nat}{s:Sl}{o:Option V}(hl:L.length=σ.length)(h:HoldF L σ F)(hs:s.Z o F):HoldF (L.set i s) (σ.set i o) F:=by
 intro j t e;rw[nu]at e;split at e
 ·rename_i z;subst z
  split at e
  ·rename_i y;cases e
   rw[zf0_ (by rw[<- hl];exact y),if_pos rfl];exact hs
  ·cases e
 ·rename_i z
  by_cases y:i<σ.length
  ·rw[zf0_ y,if_neg z];exact h j t e
  ·rw[List.set_eq_of_length_le (by lia)];exact h j t e
theorem zfn_ {ss:List (Nat×Sl)}{vs:List (Nat×Option V)}(p:Plain F ss vs):∀{L:List Sl}{σ:St},L.length=σ.length->HoldF L σ F->HoldF (setL L ss) (setS σ vs) F/\(setS σ vs).length=σ.length/\(setL L ss).length=L.length:=by
 induction p with
 |nil=>exact λhl h=>⟨h,rfl,rfl⟩
 |cons hv t ih=>
  rename_i T a i v ss vs
  intro L σ hl h;obtain⟨a1,b,c⟩:=ih (L:=L.set i (.fz T a)) (σ:=σ.set i (uM v)) (by rw[mS,mS];exact hl) (zie_ (s:=.fz T a) hl h ⟨v,rfl,hv⟩)
  exact⟨a1,b.trans (by rw[mS]),c.trans (by rw[mS])⟩
def DeadAt (L:List Sl)(is:List Nat):Prop:=∀i∈is,∀s,L[i]?=uM s->s=.dead
theorem zk8_ {ss:List (Nat×Sl)}{vs:List (Nat×Option V)}(p:Plain F ss vs){j:Nat}:∀{σ:St},j∉ss.map (·.1)->(setS σ vs)[j]?=σ[j]?:=by
 induction p with
 |nil=>exact λ_=>rfl
 |cons hv t ih=>
  rename_i i v ss vs
  intro σ hj;have h1:i≠j:=λz=>hj (by rw[<- z];exact lj)
  have h2:=ih (σ:=σ.set i (uM v)) λz=>hj (ll _ z)
  exact h2.trans (lL h1)
structure Yl (K:Fgg)(J:It)(xs:List α)(T:Ty α)(F1:Hp):Prop where
 go:∀i H x,Same F1 H->xs[i]?=uM x->J.go i H/\∀v H',J.yld i H v H'->∀F,Same F1 F->Same F H->∃F',Ext F H F' H'/\T.R x v F'
 stop:∀H,Same F1 H->J.stop xs.length H
def EvI (K:Fgg)(wi:TI)(E:XK)(L:List Sl)(r:Mo (List α))(T:Ty α):Prop:=
 ∀σ F H (R:It->Hp->Prop),HoldF L σ F->Same F H->After K r E F H (λxs F' H'=>∀J,Yl K J xs T F'->R J H')->wi σ H R
noncomputable def rngI (lo:Int)(n:Nat):List Int:=(lK n).map λ(i:Nat)=>lo+i
theorem zrb_ {lo:Int}{n:Nat}{F1:Hp}:Yl K (Itr lo n) (rngI lo n) tyInt F1:=by
 refine⟨λi H x hH hx=>?_,λH hH=>?_⟩
 ·unfold rngI at hx
  rw[kZ]at hx;cases e:(lK n)[i]? with
  |none=>rw[e]at hx;cases hx
  |some c=>
   rw[e]at hx;cases hx;obtain⟨hi,e⟩:=lB.mp e;rw[rB]at e;subst e;rw[mf]at hi;refine⟨hi,?_⟩;rintro v H' ⟨rfl,rfl⟩ F _ hF;exact⟨F,.refl hF,rfl⟩
 ·show n<=_
  unfold rngI;rw[kE,mf];exact kP _
noncomputable def enumL (xs:List α):List (Int×α):=(lK xs.length).zip xs |>.map λq=>((q.1:Int),q.2)
theorem zbD_ (xs:List α)(i:Nat):(enumL xs)[i]?=(xs[i]?).map λx=>((i:Int),x):=by
 unfold enumL;rw[kZ];cases e:xs[i]? with
 |none=>
  have:=p4.mp e;rw[nR (by rw[mB,mf];lia)];rfl
 |some x=>
  have hi:=(lB.mp e).1;have:((lK xs.length).zip xs)[i]?=uM (i,x):=oX.mpr ⟨by rw[qZ hi],e⟩
  rw[this];rfl
theorem zJ_ (xs:List α):(enumL xs).length=xs.length:=by unfold enumL;rw[kE,mB,mf,og]
def compM (f:α->Mo (Option β)):List α->List β->Mo (List β)
 |[],acc=>.ok acc
 |x::xs,acc=>(f x).bind λo=>match o with |none=>compM f xs acc |some y=>.lim (acc.length+1) (compM f xs (acc++[y]))
noncomputable def cL (lv:List Str)(fr:List (Str×Nat))(L:List Sl):List Sl:=lv.map (λ_=>Sl.dead)++fr.map λq=>(L[q.2]?).getD .dead
theorem zgu_ {lv:List Str}{fr:List (Str×Nat)}{σ:St}(h:HoldF L σ F):HoldF (cL lv fr L) (cS lv fr σ) F:=by
 intro i s e;unfold cL at e;unfold cS;by_cases hi:i<lv.length
 ·rw[mF (by rw[kE];exact hi),kZ,kz hi]at e
  cases e;trivial
 ·rw[mD (by rw[kE];lia),kE,kZ]at e
  rw[mD (by rw[kE];lia),kE,kZ]
  cases z:fr[i-lv.length]? with
  |none=>rw[z]at e;cases e
  |some q=>
   rw[z]at e;have e:(L[q.2]?).getD .dead=s:=by simpa using e
   show Sl.Z s (σ[q.2]?).join F
   cases y:L[q.2]? with
   |none=>rw[y]at e;rw[<- e];trivial
   |some t=>rw[y]at e;cases e;exact h _ _ y
theorem zkm_ {lv:List Str}{fr:List (Str×Nat)}{σ:St}:(cL lv fr L).length=(cS lv fr σ).length:=by unfold cL cS;simp
def cond1 (c:Mo Bool)(f:Mo β):Mo (Option β):=(c.bind λb=>if b then f.bind λy=>.ok (uM y)else .ok uN).noex
end
def Okk (F0 H0 F h H:Hp):Prop:=Ext F0 H0 F H/\Dj F h/\Same h H/\(∀p,h p≠uN->H0 p=uN)/\∀p xs,h p≠uM (.tup xs)
section
variable {K:Fgg}{E:XK}{α:Type}{F0 H0 F h H:Hp}{e:TE}{r:Mo α}{t:TS}
theorem Okk.thaw (ok:Okk F0 H0 F h H):Same (un F h) H:=λp o e=>by
 unfold un at e;cases z:F p with
 |some w=>rw[z]at e;cases e;exact ok.1.2.1 _ _ z
 |none=>rw[z]at e;exact ok.2.2.1 _ _ e
def less (G h:Hp):Hp:=λp=>match h p with |none=>G p |some _=>uN
theorem z8_ {G h:Hp}{p:kR}(e:h p=uN):less G h p=G p:=by unfold less;rw[e]
theorem Okk.back (ok:Okk F0 H0 F h H){G' H':Hp}(x:Ext (un F h) H G' H'):Okk F0 H0 (less G' h) h H'/\Same F (less G' h)/\Tups G' (less G' h):=by
 obtain⟨o1,o2,o3,o4,o5⟩:=ok;have hs:Same F (less G' h):=λp o e=>by
  have hp:h p=uN:=by
   rcases o2 p with z |z
   ·rw[z]at e;cases e
   ·exact z
  rw[z8_ hp];exact x.1 _ _ (z1_ _ _ e)
 refine⟨⟨⟨o1.1.trans hs,λp o e=>?_,o1.2.2.1.trans x.2.2.1,λp a b=>?_⟩,λp=>?_,λp o e=>?_,o4,o5⟩,hs,λp xs e=>?_⟩
 ·unfold less at e
  split at e
  ·exact x.2.1 _ _ e
  ·cases e
 ·unfold less at b
  split at b
  ·rename_i z
   cases y:un F h p with
   |none=>exact o1.2.2.1.free (x.2.2.2 p y b)
   |some o=>
    unfold un at y;cases w:F p with
    |some _=>exact o1.2.2.2 p a (by rw[w];exact sN _)
    |none=>rw[w,z]at y;cases y
  ·exact absurd rfl b
 ·unfold less
  cases z:h p with
  |none=>exact .inr rfl
  |some o=>exact .inl rfl
 ·exact x.2.1 _ _ (x.1 _ _ (zd1_ o2 _ _ e))
 ·unfold less
  cases z:h p with
  |none=>exact e
  |some o=>
   have:=x.1 _ _ (zd1_ o2 _ _ z);rw[e]at this;cases this;exact absurd z (o5 p xs)
theorem Tell.back {x:Xc}(ok:Okk F0 H0 F h H){G' H':Hp}(y:Ext (un F h) H G' H')(t:Tell K E x H0 (less G' h) H'):Tell K E x H G' H':=by
 cases x with
 |pl c=>exact t
 |«at» c as=>
  refine λdx fs e q r=>t dx fs (ok.1.2.2.1.free e) ?_ (r.imm (ok.back y).2.2)
  rw[z8_ (ok.2.2.1.free e)];exact q
theorem Okk.cold (ok:Okk F0 H0 F h H){F' H':Hp}(x:Ext F H F' H'):Okk F0 H0 F' h H':=by
 refine⟨ok.1.trans x,λp=>?_,ok.2.2.1.trans x.2.2.1,ok.2.2.2.1,ok.2.2.2.2⟩
 cases z:h p with
 |none=>exact .inr rfl
 |some o=>
  left;rcases ok.2.1 p with y |y
  ·cases w:F' p with
   |none=>rfl
   |some o'=>have:=x.2.2.2 p y (by rw[w];exact sN _);rw[ok.2.2.1 _ _ z]at this;cases this
  ·rw[y]at z;cases z
theorem zkM_ {hn h:Hp}(hh:Same h H)(fresh:∀p,hn p≠uN->H p=uN):Dj hn h:=λp=>by
 cases z:hn p with
 |none=>exact .inl rfl
 |some w=>
  have:=fresh p (by rw[z];exact sN _)
  exact .inr (hh.free this)
theorem zkv_ {α:Type}{l:List α}{i:Nat}{o:α}(h:l[i]?=uM o):l.set i o=l:=by
 obtain⟨hi,e⟩:=lB.mp h;rw[<- e];exact List.set_getElem_self hi
theorem Okk.rebase {F1 H1:Hp}(x:Ext F0 H0 F1 H1)(ok:Okk F0 H0 F h H)(s:Same F1 F):Okk F1 H0 F h H:=by
 obtain⟨o1,o2,o3,o4,o5⟩:=ok;refine⟨⟨s,o1.2.1,o1.2.2.1,λp a b=>o1.2.2.2 p (x.1.free a) b⟩,o2,o3,o4,o5⟩
theorem Okk.unbase {F1 H1:Hp}(x:Ext F0 H0 F1 H1)(ok:Okk F1 H0 F h H):Okk F0 H0 F h H:=by
 obtain⟨o1,o2,o3,o4,o5⟩:=ok;refine⟨⟨x.1.trans o1.1,o1.2.1,o1.2.2.1,λp a b=>?_⟩,o2,o3,o4,o5⟩
 cases z:F1 p with
 |none=>exact o1.2.2.2 p z b
 |some w=>exact x.2.2.2 p a (by rw[z];exact sN _)
variable {L:List Sl}
def CDivG (i j:Int):Prop:=0<j/\pP i j=uP
noncomputable instance (i j:Int):Decidable (CDivG i j):=inferInstanceAs (Decidable (_/\_))
noncomputable instance (i j:Int):Decidable (IntMulOk i j):=inferInstanceAs (Decidable (¬_))
abbrev mMulG:R2:=mI IntMulOk λi j=>.int (i*j)
abbrev mDivG:R2:=mI CDivG λi j=>.int (i / j)
theorem zod_ {X:Cx}:OpR X (nz .Mult) mMulG:=opM (opI λ_ _ _ _ _ _ _ hc q=>mul_int q hc)
theorem zmT_ {X:Cx}:OpR X (nz .FloorDiv) mDivG:=opM (opI λi j _ _ _ _ _ hc q=>by
 have h1:(0:Int)<j:=hc.1;exact floordiv_int (by lia) (by rw[Int.fdiv_eq_ediv_of_nonneg i (by lia)];exact q) (.inl hc.2))
theorem zlO_:EvT K tTrue E L (.ok uO):=λσ F H Q hL hs q=>q.ok hs
end
section
variable {α:Type}
open PySem PySem.Spec PyProof.Rows in
theorem zl6_ {a j:Int}(h0:0<j)(h:j.natAbs.log2<9000):CDivG a j:=by
 refine⟨h0,?_⟩;unfold pP;simp only;rw[Bool.and_eq_false_iff];left;rw[decide_eq_false_iff_not];split<;>lia
theorem log2_lt {n k:Nat}(h:n<2 ^ k):n.log2<k\/n=0:=by
 by_cases hz:n=0
 ·exact .inr hz
 ·exact .inl ((Nat.log2_lt hz).mpr h)
theorem zlr_ {a j:Int}(h0:0<j)(h:j<2 ^ 1000):CDivG a j:=by
 refine zl6_ h0 ?_;have h1:j.natAbs<2 ^ 1000:=by
  have:((2:Int) ^ 1000)=((2 ^ 1000:Nat):Int):=by rw[Int.natCast_pow];rfl
  rw[this]at h;lia
 rcases log2_lt h1 with h |h
 ·lia
 ·rw[h];decide
open PySem PySem.Spec PyProof.Rows in
theorem zc6_ {i j:Int}(h : -(2 ^ 64)<i/\i<2 ^ 64 \/ -(2 ^ 64)<j/\j<2 ^ 64):IntMulOk i j:=CMul.ok h
theorem zk7_ (lo:Int)(n:Nat):(rngI lo n).length=n:=by unfold rngI;rw[kE,mf]
theorem zk6_ {lo x:Int}{n:Nat}:x∈rngI lo n↔lo<=x/\x<lo+n:=by
 unfold rngI;simp only[mz,l4];constructor
 ·rintro⟨a,h,rfl⟩;lia
 ·rintro⟨h1,h2⟩;exact⟨(x-lo).toNat,by lia,by lia⟩
theorem zfl_ {xs:List α}{k:Int}(h0:0<=k):atI xs k=xs[k.toNat]?:=by
 unfold atI ixN;rw[if_pos h0];split
 ·rfl
 ·rename_i h
  rw[nR (by omega)];rfl
theorem zgJ_ {xs:List α}{k:Int}(h0:0<=k)(h1:k<xs.length):∃x,atI xs k=uM x/\x∈xs:=by
 rw[zfl_ h0,kz (show k.toNat<xs.length by lia)]
 exact⟨_,rfl,mK _⟩
theorem zjR_ (xs:List α)(lo hi:Option Int):(cutG xs lo hi).length<=xs.length:=by
 unfold cutG;rw[mC,mJ];lia
end
section
variable {F0 H0 F h H:Hp}
theorem zf9_ {p:kR}{o':HO}{h1' hr h':Hp}(ok:Okk F0 H0 F h H)(hp:h p≠uN)(nt:∀xs,o'≠.tup xs)(h':Hp)(hh:∀q,h' q=if q=p then uM o' else h q):Okk F0 H0 F h' (upd H p o'):=by
 obtain⟨o1,o2,o3,o4,o5⟩:=ok;have Fp:F p=uN:=by
  rcases o2 p with z |z
  ·exact z
  ·exact absurd z hp
 have iR:H0 p=uN:=o4 p hp;refine⟨⟨o1.1,λq o z=>?_,λq o z=>?_,o1.2.2.2⟩,λq=>?_,λq o z=>?_,λq z=>?_,λq ys z=>?_⟩
 ·unfold upd;split
  ·rename_i w;rw[w,Fp]at z;cases z
  ·exact o1.2.1 _ _ z
 ·unfold upd;split
  ·rename_i w;rw[w,iR]at z;cases z
  ·exact o1.2.2.1 _ _ z
 ·rw[hh];split
  ·rename_i w;rw[w];exact .inl Fp
  ·exact o2 q
 ·rw[hh]at z;unfold upd
  split at z
  ·rename_i w;rw[if_pos w];exact z
  ·rename_i w;rw[if_neg w];exact o3 _ _ z
 ·rw[hh]at z;split at z
  ·rename_i w;rw[w];exact iR
  ·exact o4 q z
 ·rw[hh]at z;split at z
  ·exact nt ys (by injection z)
  ·exact o5 q ys z
variable {u:TS}
@[irreducible] def fuelW:Nat:=100000
def mLtS:R2:=λx y H Q=>match x,y with
 |.int i,.int j=>Q (.bl (decide (i<j))) H
 |.str i,.str j=>Q (.bl (decide (i.cps.toList<j.cps.toList))) H
 |_,_=>False
theorem zl0_ {X:Cx}:OpR X (lF .Lt) mLtS:=by
 intro pins s σ H x y v u Q I rx ry h
 cases x<;>cases y<;>first
  |exact h.elim
  |exact op_lt pins s σ H _ _ v u Q I rx ry ⟨_,_,rfl,rfl,h⟩
  |exact zeR_ pins s σ H _ _ v u Q I rx ry ⟨_,_,rfl,rfl,h⟩
end
open PySem.SeqAt
open PySem.AutoSeq1 (wpAny_loadPart')
open PySem.MeetsSeq PySem.MeetsSeq2 PySem.MeetsSeq3
theorem zfQ_:entryFor table "list.__eq__.loop"=uM qY.«list.__eq__.loop»:=by kernel_rfl!
theorem zdh_ (A:l9)(args:uH):A.under (Code.builtin "list.__eq__.loop" args)=A.in1:=by rfl
theorem zc1_ (args:uH):(Code.builtin "list.__eq__.loop" args).quiet=uO:=by first |kernel_rfl! |simp[Code.quiet]|(unfold Code.quiet;decide +kernel)
theorem zb1_:∀{vs:List aU}{ns:List Int},IntsAre vs ns->∀i:Nat,(vs[i]?=uN/\ns[i]?=uN)\/∃a t,vs[i]?=uM (.int a t)/\ns[i]?=uM a
 |_,_,.nil,i=>.inl ⟨rfl,rfl⟩
 |_,_,.cons a t h,0=>.inr ⟨a,t,rfl,rfl⟩
 |_,_,.cons a t h,i+1=>by simpa using zb1_ h i
theorem zbp_ {α:Type}{xs:List α}{i:Nat}{a:α}(h:xs[i]?=uM a):xs.drop i=a::xs.drop (i+1):=by
 obtain⟨hi,e⟩:=lB.mp h;rw[<- e];exact oY hi
theorem zcP_ {α:Type}{xs:List α}{i:Nat}(h:xs[i]?=uN):xs.drop i=[]:=qB (p4.mp h)
theorem zeh_ (l b:kR)(items ah:Array aU)(n n2:Nat)(dd bY:Option kR)(sl bJ:Array (Option aU))(ns ms:List Int)(hi:IntsAre items.toList ns)(hj:IntsAre ah.toList ms):∀(k i:Nat),items.size-i=k->i<=items.size->i<=ah.size ->
  Meets (qY.«list.__eq__.loop» ⟨[.ref l,.ref b,rawInt (i:Nat),rawInt 0],[]⟩)
   (λ_ R s=>s.heap.get? l=uM {cls:=.type "list",dict:=dd,data:=.seq items n,slots:=sl}/\s.heap.get? b=uM {cls:=.type "list",dict:=bY,data:=.seq ah n2,slots:=bJ} /\
    R (.ok (.ret (.bool (HT.lexLt (ns.drop i) (ms.drop i))))) s):=by
 intro k;induction k with
 |zero=>
  intro i hk b1 b2 prog w A R s h;obtain⟨hl,hb,h⟩:=h
  wp_walk using wpAny_listItems hl rfl,wpAny_listItems hb rfl
  have e1:items[i]?=uN:=Array.getElem?_eq_none (by lia)
  have j3:ns[i]?=uN:=by
   rcases zb1_ hi i with⟨_,z⟩|⟨a,t,z,_⟩
   ·exact z
   ·rw[mx,e1]at z;cases z
  rw[p7,e1];rw[zcP_ j3]at h;rcases zb1_ hj i with⟨z1,z2⟩|⟨c,u,z1,z2⟩
  ·rw[mx]at z1
   rw[z1];rw[zcP_ z2]at h
   wp_walk using wpAny_listItems hl rfl,wpAny_listItems hb rfl
   show R (.ok (.ret (.bool (decide (items.size<ah.size))))) s
   have z1:=oQ.mp z1;rw[decide_eq_false (by lia)];exact h
  ·rw[mx]at z1
   rw[z1];rw[zbp_ z2]at h
   wp_walk using wpAny_listItems hl rfl,wpAny_listItems hb rfl
   show R (.ok (.ret (.bool (decide (items.size<ah.size))))) s
   have z3:=(nM.mp z1).1;rw[decide_eq_true (by lia)];exact h
 |succ k ih=>
  intro i hk b1 b2 prog w A R s h;obtain⟨hl,hb,h⟩:=h
  wp_walk using wpAny_listItems hl rfl,wpAny_listItems hb rfl
  rw[p7];rcases zb1_ hi i with⟨z1,z2⟩|⟨a,t,z1,z2⟩
  ·rw[mx]at z1
   rw[oQ]at z1;lia
  rw[mx]at z1;rw[z1];rw[zbp_ z2]at h;rcases zb1_ hj i with⟨y1,y2⟩|⟨c,u,y1,y2⟩
  ·rw[mx]at y1
   rw[y1];rw[zcP_ y2]at h
   wp_walk using wpAny_listItems hl rfl,wpAny_listItems hb rfl
   show R (.ok (.ret (.bool (decide (items.size<ah.size))))) s
   have z3:=(nM.mp z1).1;have y3:=oQ.mp y1;rw[decide_eq_false (by lia)];exact h
  rw[mx]at y1;rw[y1];rw[zbp_ y2,HT.lexLt_cons]at h;obtain⟨e,he,hiff⟩:=HT.eqAt_int A.in1 s a t c u;refine kJ (he prog w _ _ ?_);cases e with
  |true=>
   rw[if_pos (hiff.mp rfl)]at h
   wp_walk
   refine⟨zc1_ _,codeAny_builtin zfQ_ ?_⟩;rw[zdh_];have q1:=(nM.mp z1).1;have q2:=(nM.mp y1).1;exact ih (i+1) (by lia) (by lia) (by lia) prog w A R s ⟨hl,hb,h⟩
  |false=>
   rw[if_neg (λq=>absurd (hiff.mpr q) mq)]at h
   have jq:=HT.rcLt_int A.in1 s a t c u prog w
   wp_walk using wpAny_listItems hl rfl,wpAny_listItems hb rfl
   rw[z1,y1]
   wp_walk using jq
   exact h
theorem zbJ_ (l b:kR)(items ah:Array aU)(n n2:Nat)(dd bY:Option kR)(sl bJ:Array (Option aU))(ns ms:List Int)(hi:IntsAre items.toList ns)(hj:IntsAre ah.toList ms):
  Meets (qY.«list.__lt__» ⟨[.ref l,.ref b],[]⟩)
   (λ_ R s=>s.heap.get? l=uM {cls:=.type "list",dict:=dd,data:=.seq items n,slots:=sl}/\s.heap.get? b=uM {cls:=.type "list",dict:=bY,data:=.seq ah n2,slots:=bJ} /\
    R (.ok (.ret (.bool (HT.lexLt ns ms)))) s):=by
 intro prog w A R s h;obtain⟨hl,hb,h⟩:=h;have f2:=AutoSeq1.sub_list_list
 wp_walk using wpAny_loadPart' hl,wpAny_loadPart' hb
 refine⟨zc1_ _,codeAny_builtin zfQ_ ?_⟩;rw[zdh_];exact zeh_ l b items ah n n2 dd bY sl bJ ns ms hi hj _ 0 rfl (me _) (me _) prog w A R s ⟨hl,hb,h⟩
theorem zfm_ {prog:lN}{w:l7}{A:l9}{E:aU->kF->Prop}{s:kF}{l b:kR}{items ah:Array aU}{ns ms:List Int}{Q:aU->kF->Prop}(hl:s.heap.IsList l items)(hb:s.heap.IsList b ah)(hi:IntsAre items.toList ns)(hj:IntsAre ah.toList ms)
  (hu:A.units<cLine) (h:Q (.bool (HT.lexLt ns ms)) s):lJ (model prog w) A (lF .Lt (.ref l) (.ref b)) Q E s:=by
 obtain⟨⟨cls,dd,data,sl⟩,ho,hc,n,hd⟩:=id hl;obtain⟨⟨fc,bY,data2,bJ⟩,bx,a7,n2,hd2⟩:=id hb;simp only at hc hd a7 hd2;subst hc hd a7 hd2
 exact richCompare_meets_room (op:=.Lt) ⟨_,ho,rfl⟩ ⟨_,bx,rfl⟩ pM qJ (qC _ _) (zbJ_ l b items ah n n2 dd bY sl bJ ns ms hi hj)
  ⟨ho,bx,show oA (HT.lexLt ns ms)≠Value.notImplemented/\Q (.bool (HT.lexLt ns ms)) s from⟨(λx=>nomatch x),h⟩⟩ hu
def mLtK (K:Fgg):R2:=λx y H Q=>match x,y with
 |.ref a,.ref b=>∃ns ms,SqL K H a (ns.map V.int)/\SqL K H b (ms.map V.int)/\Q (.bl (HT.lexLt ns ms)) H
 |_,_=>mLtS x y H Q
theorem zoM_ {X:Cx}(hu:X.A.units+60<cLine):OpR X (lF .Lt) (mLtK X.K):=by
 intro pins s σ H x y v u Q I rx ry h
 cases x<;>cases y<;>first
  |exact zl0_ pins s σ H _ _ v u Q I rx ry h
  | (obtain⟨ns,ms,ha,hb,q⟩:=h
     cases rx;cases ry;obtain⟨aa,r1,p1,_⟩:=I.list ha;obtain⟨aj,r2,p2,_⟩:=I.list hb;have i1:IntsAre aa.toArray.toList ns:=zbI_ r1;have i2:IntsAre aj.toArray.toList ms:=zbI_ r2;exact zfm_ p1.isList p2.isList i1 i2 (by lia) ⟨.bl (HT.lexLt ns ms),H,I,rfl,q⟩)
section
variable {α:Type}
theorem znL_ {n d:Nat}{i:Int}(h:0<=i):HT.sIx n d (uM i)=min i.toNat n:=by
 unfold HT.sIx;simp only;split<;>lia
theorem ziZ_ {xs:List α}{i:Int}(h:0<=i):cutG xs uN (uM i)=xs.take i.toNat:=by
 unfold cutG;rw[znL_ h,show HT.sIx xs.length 0 uN=0 from rfl,qR,tQ,<- List.take_take,List.take_length]
theorem zeO_ {xs:List α}{i:Int}(h:0<=i):cutG xs (uM i) uN=xs.drop i.toNat:=by
 unfold cutG;rw[znL_ h,show HT.sIx xs.length xs.length uN=xs.length from rfl]
 by_cases hl:i.toNat<=xs.length
 ·rw[sL hl,oE (by rw[mJ];exact kP _)]
 ·rw[Nat.min_eq_right (by lia),qj,qB (by lia),rd]
theorem zhP_ {xs:List α}{q:Int×α}(h:q∈enumL xs):∃i:Nat,i<xs.length/\q.1=i/\xs[i]?=uM q.2:=by
 obtain⟨i,hi,e⟩:=oS.mp h;rw[zJ_]at hi;have:=zbD_ xs i;rw[kz (by rw[zJ_];exact hi),e]at this
 refine⟨i,hi,?_⟩;cases e2:xs[i]? with
 |none=>rw[e2]at this;cases this
 |some x=>rw[e2]at this;injection this with this;rw[this];exact⟨rfl,rfl⟩
end
noncomputable def repL {α:Type}(xs:List α)(n:Int):List α:=(lu n.toNat xs).flatten
def CRep (m:Nat)(n:Int):Prop:=0<=n/\n<=100000/\m<=100000/\m*n.toNat<=100000
noncomputable instance (m:Nat) (n:Int):Decidable (CRep m n):=inferInstanceAs (Decidable (_/\_))
def mMulX:R2:=λx y H Q=>match x,y with
 |.int i,.int j=>IntMulOk i j/\Q (.int (i*j)) H
 |.str z,.int n=>CRep z.cps.toList.length n/\Q (tx (repL z.cps.toList n)) H
 |.ref l,.int k=>∃xs,H l=uM (.lst xs)/\CRep xs.length k/\∀p,H p=uN->Q (.ref p) (upd H p (.lst (repL xs k)))
 |_,_=>False
theorem ziJ_ (z:Array Nat)(n:Nat):(qy (λx1 x2=>x1++x2) #[] (lu n z)).toList=(lu n z.toList).flatten:=by
 have:∀(l:List (Array Nat)) (acc:Array Nat),(l.foldl (λx1 x2=>x1++x2) acc).toList=acc.toList++(l.map pU).flatten:=by
  intro l;induction l with
  |nil=>intro acc;simp
  |cons a l ih=>intro acc;rw[pO,ih];simp
 rw[this];simp
theorem zmt_ {X:Cx}:OpR X (nz .Mult) mMulX:=by
 intro pins s σ H x y v u Q I rx ry h
 cases x<;>cases y<;>first
  |exact h.elim
  |exact zod_ pins s σ H _ _ v u Q I rx ry h
  | (obtain⟨xs,hl,⟨c1,c2,c3,c4⟩,q⟩:=h
     exact zqF_ pins s σ H _ _ v u Q I rx ry ⟨_,_,xs,rfl,rfl,hl,by lia,by lia,zaw_ c4,q⟩)
  | (rename_i z n
     obtain⟨⟨c1,c2,c3,c4⟩,q⟩:=h;obtain⟨t,rfl⟩:=rx;obtain⟨t',rfl⟩:=ry;have hz:z.length=z.cps.toList.length:=by simp[ng]
     refine PySem.P.mul_str (by simp;lia) (λh1 h2=>?_) (λh1 h2=>?_) ?_
     ·rw[hz]
      have hn:0<n:=by lia
      have:(z.cps.toList.length:Int)*n<=2 ^ 63-1:=by
       have e:n=(n.toNat:Int):=by lia
       rw[e,<- Int.natCast_mul];lia
      have:=Int.le_ediv_of_mul_le hn this;lia
     ·unfold pS
      rw[hz];have:=zaw_ c4;exact decide_eq_false (by lia)
     ·by_cases h1:n<1
      ·rw[if_pos h1]
       have:n=0:=by lia
       subst this;exact⟨me _,tx [],H,I.tok _,⟨_,rfl⟩,q⟩
      ·rw [if_neg h1]
       by_cases h2:(n == 1 ||z.length == 0)=uO
       ·rw[if_pos h2]
        have e:repL z.cps.toList n=z.cps.toList:=by
         unfold repL;rw[n5]at h2;rcases h2 with h2 |h2
         ·have:n=1:=by simpa using h2
          subst this;simp
         ·have:z.cps.toList=[]:=ml.mp (by rw[<- hz];simpa using h2)
          rw[this];simp
        rw[e]at q;refine⟨tx z.cps.toList,H,I,⟨t,?_⟩,q⟩;show pq z t=pq ⟨z.cps.toList.toArray⟩ t
        rw[<- zag_]
       ·rw[if_neg h2]
        refine⟨?_,tx (repL z.cps.toList n),H,I.tok _,⟨s.toks,?_⟩,q⟩
        ·have e:(⟨qy (λx1 x2=>x1++x2) #[] (lu n.toNat z.cps)⟩:Str).length=(lu n.toNat z.cps.toList).flatten.length:=by
          rw[<- ziJ_];simp[ng]
         rw[e,zjf_];exact zaw_ (by rw[rJ];exact c4)
        show pq _ _=pq _ _
        congr 1;unfold repL;rw[<- ziJ_])
section
variable {α:Type}{H:Hp}{T:Ty α}
theorem zlx_ {xs:List α}{vs:List V}(hr:Prs T H xs vs)(n:Int):Prs T H (repL xs n) (repL vs n):=by
 unfold repL;induction n.toNat with
 |zero=>exact .nil
 |succ m ih=>rw[mL,mL,oe,oe];exact hr.append ih
noncomputable def strsL (l:List (List Nat)):List Str:=l.map λz=>⟨z.toArray⟩
end
section
variable {κ:Type}
variable [DecidableEq κ]
end
section
variable {κ:Type}[DecidableEq κ]
end
section
end
theorem zgp_:∀(w m n:Nat),m<10 ^ w->n<10 ^ w->digs w m=digs w n->m=n
 |0,m,n,h1,h2,_=>by simp at h1 h2;lia
 |w+1,m,n,h1,h2,h=>by
  rw[zbT_,zbT_]at h;injection h with a b;have hm:m / 10 ^ w<10:=by rw[pD (qS (by decide))];rw[pz]at h1;lia
  have hn:n / 10 ^ w<10:=by rw[pD (qS (by decide))];rw[pz]at h2;lia
  rw[rX hm,rX hn]at a;have a':m / 10 ^ w=n / 10 ^ w:=by lia
  have b':digs w (m % 10 ^ w)=digs w (n % 10 ^ w):=by rw[zd0_,zd0_];exact b
  have:=zgp_ w (m % 10 ^ w) (n % 10 ^ w) (sV _ (qS (by decide))) (sV _ (qS (by decide))) b'
  rw[<- qH m (10 ^ w),<- qH n (10 ^ w),a',this]
theorem zqC_:isSubtype (oO "int") (oO "int")=pure uO:=by first |rfl |exact AutoSeq1.sub_int_int
theorem zpc_:typeLookup (oO "str") (nG "__int__")=pure uN:=by kernel_rfl!
theorem zpC_:typeLookup (oO "str") (nG "__index__")=pure uN:=by kernel_rfl!
theorem zpS_:typeLookup (oO "str") (nG "__trunc__")=pure uN:=by kernel_rfl!
theorem znd_ {t:Tok}{c:Nat}(h0:48<=c)(h1:c<=57):Meets (qY.«int.__new__» ⟨[.type "int",.str ⟨#[c]⟩ t],[]⟩) (λ_ R s=>R (.ok (.ret (.int ((c:Int)-48) s.toks))) {s with toks:=s.toks+1}):=by
 intro prog w A R s h;have f2:=zqC_;have f3:=PySem.F.madeHere_int;have f4:=zpc_;have f5:=zpC_;have f6:=zpS_
 wp_walk
 refine Eq.mp (congrArg (λt=>lJ (model prog w) A.in1 t _ _ _) (?e:mkInt ((c:Int)-48)=_)) ?_
 case e=>
  have:c=48\/c=49\/c=50\/c=51\/c=52\/c=53\/c=54\/c=55\/c=56\/c=57:=by lia
  clear h f2 f3 f4 f5 f6 h0 h1;rcases this with rfl |rfl |rfl |rfl |rfl |rfl |rfl |rfl |rfl |rfl<;>kernel_rfl!
 wp_walk
 exact h
noncomputable def figB (z:List Nat):Bool:=match z with |[c]=>decide (48<=c/\c<=57)|_=>uP
noncomputable def figV (z:List Nat):Int:=match z with |[c]=>(c:Int)-48 |_=>0
def mIntC:List V->Hp->VK->Prop:=λxs H Q=>match xs with
 |[.str z]=>figB z.cps.toList=uO/\Q (.int (figV z.cps.toList)) H
 |[.bl b]=>Q (.int (if b=uO then 1 else 0)) H
 |_=>False
theorem zho_ {X:Cx}:CallR X (.type "int") mIntC:=by
 intro pins s σ H xs us Q I r h;unfold mIntC at h;split at h
 ·rename_i z
  obtain⟨u,rfl,t,rfl⟩:=vals1 r;obtain⟨hf,q⟩:=h;unfold figB at hf;split at hf
  ·rename_i c hc
   have hz:z=⟨#[c]⟩:=by rw[zag_ z,hc]
   subst hz;have hf:=of_decide_eq_true hf;refine call_int_1 (znd_ hf.1 hf.2) ?_;refine⟨?_,.int ((c:Int)-48),H,I.tok _,⟨_,rfl⟩,q⟩;exact rfl
  ·cases hf
 ·rename_i b
  obtain⟨u,rfl,ru⟩:=vals1 r;cases ru;exact call_int_bool ⟨.int (if b=uO then 1 else 0),H,I.tok _,⟨_,rfl⟩,h⟩
 ·exact h.elim
section
end
end L2
namespace Att
open PySem PySem.W PySem.Calls PyProof.Rows
theorem zjW_ {ns:List Int}(h:WData.layableAll [WData.list (ns.map WData.int)]=uO):∀x∈ns,o7 x<=1048576:=by
 intro x hx;have h1:=layableW_arg h _ (l5.mpr rfl);have h2:=layableW_item h1 (.int x) (mz.mpr ⟨x,hx,rfl⟩);exact PyData.bits_of_layable (layable_int h2)
theorem attach_callB {l:OpenLaw}{n:Nat}{q:lN}{loose:List Str}{XP:(Str->Option aU)->Heap->Prop}{YP:l7->Heap->Prop}{d:DefRec}
  (hn:l.most=uM n) (eL:d.params.defaults=[])
  (call:∀(w:l7) (s₀ ab:kF) (mg mb:Str->Option aU) (fa:kR) (o:tF) (pm cd doc:aU) (a:kR) (vs:List aU) (ns:List Int),
   (∀x∈ns,o7 x<=1048576) ->
   Ground q loose [] XP w s₀ mg mb ab.heap->YP w ab.heap ->
   ab.heap.get? fa=uM o->o.data=.func (docDef d.name d.params d.body d.scope pm cd doc)->ab.heap.CodeRec cd d.name->mg d.name=uM (.ref fa) ->
   ab.heap.get? a=uM {cls:=.type "list",data:=.seq vs.toArray}->IntsAre vs ns->ns.length<=n->ab.gens=#[] ->
   codeAny (model l.prog w) callerA (.call (.ref fa) ⟨[.ref a],[]⟩) (λr s'=>r=.ok (.ret (.bool uO))/\OldK ab.heap s'.heap/\s'.os=ab.os/\AllBare s'.gens) ab):
  WalkO q loose XP YP l.row.toRowW d [] (λf vs=>sX f vs):=by
 intro w s₀ ab mg mb G Y fa o pm cd doc dV kV ho hd au hD eo hg args vals as cB gD ki gm km;obtain rfl:dV=.none:=Dflts.none hD eL;obtain rfl:kV=.none:=Dflts.noKw hD;obtain⟨a,vs,ns,rfl,rfl,dc,hints,hlen⟩:=zh0_ hn cB gm;refine enter_call (codeAny_mono (call w s₀ ab mg mb fa o pm cd doc a vs ns (zjW_ gD) G Y ho (fd_plain hd) au eo dc hints hlen hg) λr s' hq=>?_)
 obtain⟨rfl,h2,h3,h4⟩:=hq;exact⟨.inl ⟨.bool uO,.bool uO,[],rfl,λ_=>rfl,.bool uO,zhn_ l _,λ_=>⟨uK,λ_ hm=>(nomatch hm)⟩⟩,h2,h3,h4⟩
end Att
namespace L2
open PySem PySem.Spec PyProof.Rows
theorem zjr_ {l:tI}{n k:Nat}{q:lN}{loose:List Str}{XP:(Str->Option aU)->Heap->Prop}{YP:l7->Heap->Prop}{d:DefRec}{K:Params->Fgg}{CX:l7->CXT}{sp:l7->Sp}{x:Str}
  (hn:l.most=uM n) (fG:n<=lg) (eL:d.params.defaults=[]) (hr:Room k callerA) (bU:∀p,lamOk q (K p)=uO)
  (hY:∀(w:l7) (h:Heap),YP w h->(K w.params).In h)
  (F:∀(w:l7) (mg:Str->Option aU) (fa:kR) (h:Heap),(K w.params).In h->h.Ns lD mg->mg d.name=uM (.ref fa) ->
   ∃fd:mH,(∀(s:kF) (u:aU),BindsTo s fd ⟨[u],[]⟩ [(x,u)]) /\
    ∀base:Heap,(K w.params).In base->base.Ns lD mg->FnOk l.prog w (K w.params) mg base (CX w) k fa fd [x] (sp w))
  (dG:∀(w:l7) (H:Hp) (a:kR) (ns:List Int),ns.length<=n->(∀x∈ns,o7 x<=1048576)->Only H->SqL (K w.params) H a (ns.map V.int)->sp w [.ref a] H (λv _=>v=.bl uO) λ_ _ _=>False)
  (gV:∀(w:l7) (H:Hp) (s:kF) (e:aU) (s':kF),CX w [] H s (λ_ _ _=>False) e s'->False):
  W.WalkO q loose XP YP l.row.toRowW d [] (λf vs=>sX f vs):=by
 refine Att.attach_callB hn eL λw s₀ ab mg mb fa o pm cd doc a vs ns eQ G Y ho hd au eo dc hints hlen hg=>?_
 have KX:=hY w _ Y;obtain⟨fd,hb,hF⟩:=F w mg fa _ KX G.T.g eo;exact zkf_ KX G.T.g G.T.b G.T.builtins G.T.nolimit G.T.bmain hg dc hints (mN hlen fG) hr hF hb (λH hO hS=>dG w H a ns hlen eQ hO hS) (λH e s'=>gV w H ab e s') (znH_ G.T KX (bU _))
abbrev BitsOk (ns:List Int):Prop:=∀x∈ns,o7 x<=1048576
open PySem PySem.Spec PyProof.Rows PySem.W
section
variable {α β:Type}
def okT (lt:Nat->Nat->Bool)(n:Nat):KasT α->(α->Prop)->Prop
 |.ret a,P=>P a
 |.ask i j k,P=>i<n/\j<n/\okT lt n (k (lt i j)) P
variable {lt:Nat->Nat->Bool}{n:Nat}
theorem zbq_ {f:α->KasT β}{P:β->Prop}:∀(t:KasT α),okT lt n t (λa=>okT lt n (f a) P)->okT lt n (t.bind f) P
 |.ret _,h=>h
 |.ask i j k,h=>⟨h.1,h.2.1,zbq_ (k (lt i j)) h.2.2⟩
theorem zaO_ {P Q:α->Prop}(hq:∀a,P a->Q a):∀(t:KasT α),okT lt n t P->okT lt n t Q
 |.ret _,h=>hq _ h
 |.ask i j k,h=>⟨h.1,h.2.1,zaO_ hq (k (lt i j)) h.2.2⟩
theorem znx_ {prog:lN}{w:l7}{A:l9}{κ:SortKind}{vs:List aU}{s:kF}{P:α->Prop}{Q:α->kF->Prop}
  (cm:∀i j (C:Bool->kF->Prop),i<n->j<n->C (lt i j) s->kas_ask prog w A κ vs i j C s) (hq:∀a,P a->Q a s):∀t:KasT α,okT lt n t P->t.kasWp (kas_ask prog w A κ vs) Q s
 |.ret a,h=>hq a h
 |.ask i j k,h=>cm i j (λb s'=>(k b).kasWp (kas_ask prog w A κ vs) Q s') h.1 h.2.1 (znx_ cm hq (k (lt i j)) h.2.2)
structure WOr (lt:Nat->Nat->Bool):Prop where
 asym:∀{a b},lt a b=uO->lt b a=uP
 tr:∀{a b c},lt b a=uP->lt c b=uP->lt c a=uP
abbrev le (lt:Nat->Nat->Bool)(a b:Nat):Prop:=lt b a=uP
theorem WOr.refl (w:WOr lt)(a:Nat):le lt a a:=by
 cases h:lt a a with
 |false=>exact h
 |true=>exact w.asym h
abbrev Pm (p:Array Nat)(n:Nat):Prop:=p.toList.Perm (lK n)
theorem zbe_ {p:Array Nat}(h:Pm p n):p.size=n:=by have:=h.length_eq;rwa[mf,my]at this
theorem zgA_ {p:Array Nat}(h:Pm p n){i:Nat}(hi:i<n):p.getD i 0<n:=by
 have hs:=zbe_ h;have:p.getD i 0=p[i]'(by lia):=by simp[rE,hs,hi]
 rw[this];exact l4.mp (h.mem_iff.mp (by simp))
theorem zat_ {p q:Array Nat}{i j:Nat}(h:p[i]?=q[j]?):p.getD i 0=q.getD j 0:=by
 rw[mW,mW,h]
theorem zgv_ {p:Array Nat}(h:Pm p n)(i j:Nat):Pm (kas_rev p i j) n:=(pW.mp (mirror_perm p i j _)).trans h
theorem zb5_ {p:Array Nat}{i j:Nat}(hj:j<=p.size)(k:Nat):(kas_rev p i j).getD k 0=if i<=k/\k<j then p.getD (i+j-1-k) 0 else p.getD k 0:=by
 have:=getElem?_mirror_all (xs:=p) (i:=i) hj k;split
 ·rename_i q;rw[if_pos q]at this;exact zat_ this
 ·rename_i q;rw[if_neg q]at this;exact zat_ this
end
section
end
theorem zeW_ {ys:List V}{us:List aU}(r:Vals ys us){i:Nat}(h:i<us.length):∃y,ys[i]?=uM y/\RelV y (us.getD i mY)/\y∈ys:=by
 have hl:=Vals.length r;have e:ys[i]?=uM ys[i]:=kz (by omega)
 obtain⟨u,eu,ru⟩:=Vals.get r e;refine⟨_,e,?_,mK _⟩;rw[kY,eu];exact ru
theorem zg0_ {ys:List V}{us:List aU}(r:Vals ys us):∀(idx:List Nat),(∀i∈idx,i<us.length)->Vals (idx.map λi=>ys.getD i .non) (idx.map λi=>us.getD i mY)
 |[],_=>.nil
 |i::idx,h=>by
  obtain⟨y,e,ry,_⟩:=zeW_ r (h i (lj ..));refine .cons ?_ (zg0_ r idx λj hj=>h j (ll _ hj))
  show RelV (ys.getD i V.non) _
  rw[kY,e];exact ry
section
variable {α:Type}
structure LOr (lt:α->α->Bool):Prop where
 asym:∀{a b},lt a b=uO->lt b a=uP
 tr:∀{a b c},lt b a=uP->lt c b=uP->lt c a=uP
 anti:∀{a b},lt a b=uP->lt b a=uP->a=b
noncomputable def srtL (lt:α->α->Bool)(xs:List α):List α:=xs.mergeSort (λa b=>!lt b a)
theorem zbC_ (lt:α->α->Bool)(xs:List α):(srtL lt xs).Perm xs:=List.mergeSort_perm _ _
theorem zcm_ {lt:α->α->Bool}(o:LOr lt)(xs:List α):(srtL lt xs).Pairwise λa b=>lt b a=uP:=by
 have:=List.pairwise_mergeSort (le:=λa b=>!lt b a) (λa b c h1 h2=>by simp only[px]at *;exact o.tr h1 h2) (λa b=>by
  cases h:lt b a with
  |false=>simp
  |true=>simp[o.asym h]) xs
 exact this.imp (λh=>by simpa using h)
theorem zgO_ {lt:α->α->Bool}(o:LOr lt):∀{ws ys:List α},ws.Perm ys->ws.Pairwise (λa b=>lt b a=uP)->ys.Pairwise (λa b=>lt b a=uP)->ws=ys
 |[],ys,hp,_,_=>by rw[List.Perm.nil_eq hp]
 |w::ws,[],hp,_,_=>by have:=hp.length_eq;simp at this
 |w::ws,y::ys,hp,h1,h2=>by
  obtain⟨a1,a2⟩:=ph.mp h1;obtain⟨b1,b2⟩:=ph.mp h2;have e:w=y:=by
   have m1:w∈y::ys:=hp.mem_iff.mp (lj ..);have m2:y∈w::ws:=hp.mem_iff.mpr (lj ..);rcases lA.mp m1 with e |m1
   ·exact e
   ·rcases lA.mp m2 with e |m2
    ·exact e.symm
    ·exact o.anti (b1 w m1) (a1 y m2)
  subst e;rw[zgO_ o (List.Perm.cons_inv hp) a2 b2]
theorem zbf_ {lt:α->α->Bool}(o:LOr lt){ws xs:List α}(hp:ws.Perm xs)(hs:ws.Pairwise λa b=>lt b a=uP):ws=srtL lt xs:=
 zgO_ o (hp.trans (zbC_ lt xs).symm) hs (zcm_ o xs)
noncomputable def ltI (a b:Int):Bool:=decide (a<b)
noncomputable def ltS (a b:List Nat):Bool:=decide (a<b)
theorem zoj_:LOr ltI:=by
 unfold ltI;refine⟨λh=>?_,λh h'=>?_,λh h'=>?_⟩<;>simp only[decide_eq_true_eq,decide_eq_false_iff_not]at*<;> lia
theorem zmC_:LOr ltS:=by
 unfold ltS;refine⟨λh=>?_,λh h'=>?_,λh h'=>?_⟩<;>simp only[decide_eq_true_eq,decide_eq_false_iff_not]at *
 ·exact λh2=>pX _ (List.lt_trans h h2)
 ·exact p8.mpr (tu (p8.mp h) (p8.mp h'))
 ·exact qk (p8.mp h') (p8.mp h)
end
end L2
universe u
namespace L2
open PySem PySem.Spec PyProof.Rows
section
end
open PySem PySem.Spec PyProof.Rows PySem.W
section
variable {prog:lN}{w:l7}{A:l9}{E:aU->kF->Prop}{s:kF}{T:String}{rr dd:kR}{n:Nat}{PP:Nat->aU->Prop}{OK:Heap->Prop}
theorem zjK_ {R:List aU->kF->Prop}(Kd:KdlSrc prog w T rr dd n PP OK)(hh:A.handled=uN)(hok:OK s.heap)(hn:n<=lg)
  (hR:∀(h':Heap) (tk:Nat) (acc:Array aU),s.heap.objs.size<h'.objs.size->(∀b o,s.heap.get? b=uM o->h'.get? b=uM o)->ItemsOf PP acc n->R acc.toList {s with heap:=h',toks:=tk}):
  lJ (model prog w) A (collect (.ref rr)) R E s:=by
 obtain⟨lr,ld⟩:=Kd.there _ hok;unfold collect;refine kJ (wpAny_runValue (codeAny_builtin entry_proto_collect' ?_));rw[Around.under_plainId PySem.F.plain_proto_collect _];show lJ _ A.in1 (newList []>>=λl=>again (.builtin "list.__iadd__" ⟨[l,.ref rr],[]⟩)) _ _ s;refine kJ (wpAny_newObj_type ?_)
 refine lE ⟨plainId_quiet ql _,codeAny_builtin entry_list_iadd' ?_⟩;rw[Around.under_plainId ql _];have h0:(s.heap.push {cls:=.type "list",data:=.seq ([]:List aU).toArray}).get? s.heap.objs.size=uM {cls:=.type "list",data:=.seq #[]}:=lG _ rfl;show lJ _ A.in1 (sS (.ref s.heap.objs.size) (.ref rr) (.ref s.heap.objs.size)) _ _ _
 have key:=kdl_extend (A:=A) (s:={s with heap:=s.heap.push {cls:=.type "list",data:=.seq ([]:List aU).toArray}})
  (R:=λ(q:Result) (s':kF)=>∃(h':Heap) (tk:Nat) (acc:Array aU) (c:Nat),q=.ok (.ret (.ref s.heap.objs.size))/\s'={s with heap:=h',toks:=tk}/\(∀b o,s.heap.get? b=uM o->h'.get? b=uM o)/\h'.get? s.heap.objs.size=uM {cls:=.type "list",dict:=uN,data:=.seq acc c,slots:=#[]}/\ItemsOf PP acc n)
  Kd hh (Kd.keep _ _ hok λb _ o e=>kH _ e) s.heap.objs.size (oU lr) (oU ld) (.ref s.heap.objs.size) 0 h0
  (λh' tk acc c hk hS aD=>⟨h',tk,acc,c,rfl,rfl,λb o e=>hk b o (lI (k8 e)) (kH _ e),hS,aD⟩) hn
 refine mM key (λfin s' x=>?_) λe s' x=>?_
 ·cases fin with
  |done f=>
   obtain⟨h',tk,acc,c,e,rfl,hk,hS,aD⟩:=x;cases e;show lJ _ A (load s.heap.objs.size>>=_) _ _ _
   exact kJ (wpAny_load hS (lE (hR h' tk acc (k8 hS) hk aD)))
  |again c1=>
   refine⟨x.1,codeAny_mono x.2 λq s2 y=>?_⟩;obtain⟨h',tk,acc,c,rfl,rfl,hk,hS,aD⟩:=y
   show lJ _ A (load s.heap.objs.size>>=_) _ _ _;exact kJ (wpAny_load hS (lE (hR h' tk acc (k8 hS) hk aD)))
 ·obtain⟨_,_,_,_,e',_⟩:=x;cases e'
end
section
theorem is_kV {P:lN}{w:l7}{k:Key}{u:aU}(h:(mixKind P w).is k u=uO):RelV (kV k) u:=by
 rw[zgt_]at h;rcases zp_ h with⟨i,t,rfl,rfl⟩|⟨x,t,rfl,rfl⟩<;>exact⟨_,rfl⟩
end
section
variable {α:Type}
def OwAll (O:Own α)(F:Hp):List α->List V->Hp->Prop
 |[],[],h=>∀p,h p=uN
 |x::xs,v::vs,h=>∃h1 h2,Jn h1 h2 h/\O.O x v F h1/\OwAll O F xs vs h2
 |_,_,_=>False
variable {O:Own α}
theorem OwAll.mono:∀{xs:List α}{vs:List V}{F F' h:Hp},Same F F'->OwAll O F xs vs h->OwAll O F' xs vs h
 |[],[],_,_,_,_,q=>q
 |x::xs,v::vs,F,F',h,g,q_=>by obtain⟨h1,h2,j,o,r⟩:=q_;exact⟨h1,h2,j,O.mono g o,r.mono g⟩
 |[],_::_,_,_,_,_,q=>q.elim
 |_::_,[],_,_,_,_,q=>q.elim
theorem OwAll.notup:∀{xs:List α}{vs:List V}{F h:Hp},OwAll O F xs vs h->∀p ys,h p≠uM (.tup ys)
 |[],[],_,_,q,p,ys=>by rw[q p];exact λz=>by cases z
 |x::xs,v::vs,F,h,q_,p,ys=>by
  obtain⟨h1,h2,j,o,r⟩:=q_;rcases j p with⟨_,b⟩|⟨_,b⟩
  ·rw[b];exact r.notup p ys
  ·rw[b];exact O.notup o p ys
 |[],_::_,_,_,q,_,_=>q.elim
 |_::_,[],_,_,q,_,_=>q.elim
theorem OwAll.len:∀{xs:List α}{vs:List V}{F h:Hp},OwAll O F xs vs h->xs.length=vs.length
 |[],[],_,_,_=>rfl
 |x::xs,v::vs,F,h,q_=>by obtain⟨h1,h2,j,o,r⟩:=q_;rw[lp,lp,r.len]
 |[],_::_,_,_,q=>q.elim
 |_::_,[],_,_,q=>q.elim
theorem zg1_ {F h1 h:Hp}(d:Dj F h)(s:Same h1 h):Same (un F h1) (un F h):=λp o e=>by
 unfold un at e ⊢;cases z:F p with
 |some w=>rw[z]at e;exact e
 |none=>rw[z]at e;exact s _ _ e
theorem OwAll.prs:∀{xs:List α}{vs:List V}{F h G:Hp},Dj F h->Same (un F h) G->OwAll O F xs vs h->Prs O.fr G xs vs
 |[],[],_,_,_,_,_,_=>.nil
 |x::xs,v::vs,F,h,G,d,g,q_=>by
  obtain⟨h1,h2,j,o,r⟩:=q_;have d1:Dj F h1:=λp=>by
   rcases d p with z |z
   ·exact .inl z
   ·exact .inr (j.l.free z)
  have d2:Dj F h2:=λp=>by
   rcases d p with z |z
   ·exact .inl z
   ·exact .inr (j.r.free z)
  exact .cons (O.fr.mono ((zg1_ d j.l).trans g) (O.frz d1 o)) (r.prs d2 ((zg1_ d j.r).trans g))
 |[],_::_,_,_,_,_,_,q=>q.elim
 |_::_,[],_,_,_,_,_,q=>q.elim
theorem zaa_ {h1 h2 h:Hp}(j:Jn h1 h2 h):Jn h2 h1 h:=λp=>by
 rcases j p with⟨a,b⟩|⟨a,b⟩
 ·exact .inr ⟨a,b⟩
 ·exact .inl ⟨a,b⟩
theorem zk_ {h1 h2 iO h3 h:Hp}(j:Jn h1 h2 iO)(k:Jn iO h3 h):∃iN,Jn h2 h3 iN/\Jn h1 iN h:=by
 have d:Dj h2 h3:=λp=>by
  rcases k.dj p with z |z
  ·exact .inl (j.r.free z)
  ·exact .inr z
 refine⟨un h2 h3,zai_ d,λp=>?_⟩
 unfold un;rcases k p with⟨a,b⟩|⟨a,b⟩
 ·refine .inl ⟨j.l.free a,?_⟩
  rw[j.r.free a];exact b
 ·rcases j p with⟨c,e⟩|⟨c,e⟩
  ·refine .inl ⟨c,?_⟩
   rw[b,e];cases z:h2 p with
   |none=>exact a.symm ▸ rfl
   |some w=>rfl
  ·refine .inr ⟨?_,by rw[b,e]⟩
   rw[c];exact a
theorem OwAll.snoc:∀{xs:List α}{vs:List V}{F h:Hp}{x:α}{v:V}{hn:Hp},OwAll O F xs vs h->O.O x v F hn->Dj h hn->OwAll O F (xs++[x]) (vs++[v]) (un h hn)
 |[],[],F,h,x,v,hn,q,o,d=>by
  refine⟨hn,λ_=>uN,λp=>.inr ⟨rfl,?_⟩,o,λ_=>rfl⟩
  unfold un;rw[q p]
 |y::xs,w::vs,F,h,x,v,hn,q_,o,d=>by
  obtain⟨h1,h2,j,o1,r⟩:=q_;obtain⟨m,jm,jh⟩:=zk_ j (zai_ d);have d2:Dj h2 hn:=jm.dj;have e:m=un h2 hn:=by
   funext p;unfold un;rcases jm p with⟨a,b⟩|⟨a,b⟩
   ·rw[a];exact b
   ·rw[b]
    cases z:h2 p with
    |none=>exact a.symm ▸ rfl
    |some w=>rfl
  rw[e]at jh;exact⟨h1,_,jh,o1,r.snoc o d2⟩
 |[],_::_,_,_,_,_,_,q,_,_=>q.elim
 |_::_,[],_,_,_,_,_,q,_,_=>q.elim
abbrev owLO (O:Own α):Own (List α):=⟨λxs v F h=>∃p vs h2,v=.ref p/\Jn (one p (.lst vs)) h2 h/\OwAll O F xs vs h2,tyL O.fr,λg ⟨p,vs,h2,e,j,q⟩=>⟨p,vs,h2,e,j,q.mono g⟩,
 λ{a v F h} d ⟨p,vs,h2,e,j,q⟩=>⟨p,vs,e,zd1_ d _ _ (j.l _ _ zq_),q.prs (λb=>by
  rcases d b with z |z
  ·exact .inl z
  ·exact .inr (j.r.free z)) (zg1_ d j.r)⟩,
 λ⟨p,vs,h2,e,j,q⟩ b xs y=>by
  rcases j b with⟨_,z⟩|⟨_,z⟩
  ·rw[z]at y;exact q.notup b xs y
  ·rw[z]at y;unfold one at y;split at y<;>cases y⟩
end
section
end
def mFld (C:kR)(te:TE)(f:Str):TE:=λσ H Q=>te σ H λx H1=>match x with
 |.ref a=>∃dx fs v,H1 a=uM (.ins C dx fs)/\fs.lookup f=uM v/\Q v H1
 |_=>False
def mSFld (C:kR)(te tv:TE)(f:Str):TS:=λD σ H=>tv σ H λy H1=>te σ H1 λx H2=>match x with
 |.ref a=>∃dx fs,H2 a=uM (.ins C dx fs)/\fs.length<1000/\D.nx σ (upd H2 a (.ins C dx (putF f y fs)))
 |_=>False
section
variable {X:Cx}{e value o:lq}{f x:Str}{pos pos':Pos}{ta tv:TE}{C:kR}
theorem zlk_ (c:Cls X.K C)(n:NoAttr X.K C f)(he:PE X e ta)(hb:attributeBase e f X.env (eval e X.env)=eval e X.env:=by rfl):PE X (.Attribute e f pos) (mFld C ta f):=by
 intro pins s σ H Q I h;refine zmv_ hb (thn (he pins s σ H _ I h) λu s1 af=>?_)
 obtain⟨x,H1,I1,rx,q1⟩:=af;cases x with
 |ref a=>
  obtain⟨dx,fs,v,ea,l,q⟩:=q1;obtain rfl:u=mE a:=rx;exact zfr_ I1 ea c n l λu' s2 I2 ru=>⟨v,H1,I2,ru,q⟩
 |_=>exact q1.elim
theorem zlI_ (c:Cls X.K C)(n:NoAttr X.K C f)(ha:PE X o ta)(hv:PE X value tv)(hs:swapsWith value (uM (.Attribute o f pos')) pos.line X.env=pure uP:=by rfl):PS X (.Assign [.Attribute o f pos'] value pos) (mSFld C ta tv f):=by
 intro pins s σ H D I h;refine plainObj_wpAny_Assign_Attribute (thn (hv pins s σ H _ I h) λu s1 ⟨y,H1,I1,ry,q⟩=>thn (ha pins s1 σ H1 _ I1 q) λov s2 af=>?_) hs
 obtain⟨x,H2,I2,rx,q2⟩:=af;cases x with
 |ref a=>
  obtain⟨dx,fs,ea,l,q3⟩:=q2;obtain rfl:ov=mE a:=rx;exact zgw_ I2 ea c n l ry λs3 I3=>⟨σ,_,I3,q3⟩
 |_=>exact q2.elim
end
theorem zf1_:∀{ns:List Str}{vs:List V}{f:Str}(v:V),f∉ns->vs.length=ns.length->putF f v (ns.zip vs)=(ns++[f]).zip (vs++[v])
 |[],[],f,v,_,_=>rfl
 |[],_::_,_,_,_,h=>by simp at h
 |_::_,[],_,_,_,h=>by simp at h
 |n::ns,w::vs,f,v,h,hl=>by
  have bo:¬n=f:=λz=>h (z ▸ lj ..)
  rw[lV,putF,if_neg bo,zf1_ v (λz=>h (ll _ z)) (by simpa using hl)];rfl
section
variable {α:Type}
theorem dj_l {F h1 h2 h:Hp}(d:Dj F h)(j:Jn h1 h2 h):Dj F h1:=λp=>by
 rcases d p with z |z
 ·exact .inl z
 ·exact .inr (j.l.free z)
theorem dj_r {F h1 h2 h:Hp}(d:Dj F h)(j:Jn h1 h2 h):Dj F h2:=λp=>by
 rcases d p with z |z
 ·exact .inl z
 ·exact .inr (j.r.free z)
def two (p dx:kR)(o:HO):Hp:=λq=>if q=p then uM o else if q=dx then uM (.own p)else uN
theorem zqn_ {p dx:kR}{o:HO}:two p dx o p=uM o:=if_pos rfl
noncomputable abbrev owAt (u:V)(O:Own α):Own α:=⟨λa v F h=>v=u/\O.O a v F h,O.fr,λg q=>⟨q.1,O.mono g q.2⟩,λd q=>O.frz d q.2,λq=>O.notup q.2⟩
theorem jn_re {b t m a h:Hp}(jm:Jn b t m)(j:Jn a m h):Jn t (un a b) h:=λq=>by
 rcases j q with⟨x,y⟩|⟨x,y⟩
 ·rcases jm q with⟨c,e⟩|⟨c,e⟩
  ·right
   refine⟨by unfold un;rw[x,c],by rw[y,e]⟩
  ·left
   refine⟨c,by unfold un;rw[x,y,e]⟩
 ·left
  refine⟨jm.r.free x,?_⟩;unfold un;rw[y];cases z:a q with
  |none=>exact(jm.l.free x).symm ▸ rfl
  |some w=>rfl
theorem dj_of {a b t m h:Hp}(jm:Jn b t m)(j:Jn a m h):Dj a b:=λq=>by
 rcases j.dj q with z |z
 ·exact .inl z
 ·exact .inr (jm.l.free z)
variable {F0 H0 F h H:Hp}
theorem zdy_ {k:Hp}(ok:Okk F0 H0 F h H)(s:Same k h):Okk F0 H0 F k H:=by
 refine⟨ok.1,λp=>?_,s.trans ok.2.2.1,λp z=>ok.2.2.2.1 p λy=>z (s.free y),λp xs z=>ok.2.2.2.2 p xs (s _ _ z)⟩
 rcases ok.2.1 p with z |z
 ·exact .inl z
 ·exact .inr (s.free z)
theorem zhB_ {h:Hp}(p:kR)(z:h p≠uN):less H h p=uN:=by
 unfold less;cases y:h p with
 |none=>exact absurd y z
 |some w=>rfl
theorem zms_:Same (less H h) H:=λp o z=>by
 unfold less at z;split at z
 ·exact z
 ·cases z
theorem zbr_ (hs:Same F H)(dj:Dj F h)(hh:Same h H)(nt:∀p xs,h p≠uM (.tup xs)):Okk F (less H h) F h H:=by
 refine⟨⟨Same.refl _,hs,zms_,λp a b=>absurd a b⟩,dj,hh,λp z=>zhB_ p z,nt⟩
end
section
variable {X:Cx}
def mTrL (K:Fgg)(t:TE):TT:=λσ H Q=>t σ H λx H'=>match x with
 |.bl k=>Q k H'
 |.ref a=>∃xs,SqL K H' a xs/\Q (!xs.isEmpty) H'
 |_=>False
theorem zo6_ {e:lq}{t:TE}(h:PE X e t)(he:∀whole,isTrue e X.env whole=(do let v <- whole;standAt e.pos;holding [v] (truthy v)):=by intro _;rfl):PT X e (mTrL X.K t):=by
 intro pins s σ H Q I hw;refine isTrue_plain (thn (h pins s σ H _ I hw) λv s1 af=>?_) (he _)
 obtain⟨x,H1,I1,r1,q1⟩:=af;cases x with
 |bl c=>cases r1;exact lZ ⟨H1,I1,q1⟩
 |ref a=>
  cases r1;obtain⟨xs,hq,q⟩:=q1;obtain⟨aa,rv,p,hz⟩:=I1.list hq;have hl:=rv.length;refine wpAny_truthy_list p.isList (by rw[kQ,<- hl];rw[sizeLine_eq]at hz;lia) ?_
  have e:aa.isEmpty=xs.isEmpty:=by cases rv<;>rfl
  refine⟨H1,I1.tok _,?_⟩
  simpa [e]using q
 |_=>exact q1.elim
end
section
variable {K:Fgg}{E:XK}{α β:Type}{F0 H0 F h:Hp}{L:List Sl}{e te:TE}{T:Ty α}{r:Mo α}{t:TS}{σ:St}{f m:Str}{i n w j:Nat}
theorem zjF_ {lv:List Str}{fr:List (Str×Nat)}{wi:TI}{g:TG}{tt:TT}{te:TE}{r:Mo (List α)}{ss:α->List (Nat×Sl)}{c:α->Mo Bool}{f:α->Mo β}{O':Own β}
  (hi:EvI K wi E L r T) (hg:TgR K g T ss) (hd:∀a,DeadAt (cL lv fr L) ((ss a).map (·.1))) (ht:∀a,EvT K tt E0 (setL (cL lv fr L) (ss a)) (c a)) (he:∀a,EvO K te E0 (setL (cL lv fr L) (ss a)) (f a) O'):
  EvO K (tComp lv fr wi g tt te) E L (r.bind λxs=>compM (λx=>cond1 (c x) (f x)) xs []) (owLO O'):=by
 intro σ F0 H0 Q hL hs q;refine hi σ F0 H0 _ hL hs (q.bind.imp λxs F1 H1 x1 k1 J Y D hD=>?_)
 have aw:=hL.mono x1.1
 refine⟨λi m ys ai H'=>m=xs.length-i/\i<=xs.length/\∃acc Fi hh,Ext F1 H1 Fi H'/\Fi D=uN/\hh D=uN/\H' D=uM (.lst ys)/\OwAll O' Fi acc ys hh/\Dj Fi hh/\Same hh H'/\(∀p,hh p≠uN->H1 p=uN)/\HoldF (cL lv fr L) ai F1/\ai.length=(cL lv fr L).length/\After K (compM (λx=>cond1 (c x) (f x)) (xs.drop i) acc) E F1 H1 (OwnK (owLO O') H0 Q),
  ⟨_,rfl,me _,[],F1,λ_=>uN,.heap x1.2.1 (zW_ hD _),x1.2.1.free hD,rfl,ze_,λ_=>rfl,λ_=>.inr rfl,(λp o z=>by cases z),λp z=>absurd rfl z,zgu_ aw,zkm_.symm,k1⟩,?_⟩
 rintro i m ys ai H' ⟨rfl,hi,acc,Fi,hh,xi,hDi,hDh,hy,hp,dj,sh,fresh,hσ,cC,A⟩;by_cases ay:i<xs.length
 ·right
  have ex:xs[i]?=uM xs[i]:=kz ay;obtain⟨g1,g2⟩:=Y.go i H' xs[i] (xi.1.trans xi.2.1) ex;refine⟨g1,λcp cU fQ=>i+1<=xs.length/\∃acc Fi hh,Ext F1 H1 Fi fQ/\Fi D=uN/\hh D=uN/\fQ D=uM (.lst cp)/\OwAll O' Fi acc cp hh/\Dj Fi hh/\Same hh fQ/\(∀p,hh p≠uN->H1 p=uN)/\HoldF (cL lv fr L) cU F1/\cU.length=(cL lv fr L).length/\After K (compM (λx=>cond1 (c x) (f x)) (xs.drop (i+1)) acc) E F1 H1 (OwnK (owLO O') H0 Q),λcp cU fQ z=>⟨xs.length-(i+1),by omega,rfl,z⟩,λv H2 i7=>?_⟩
  obtain⟨F2,x2,hv⟩:=g2 v H2 i7 Fi xi.1 xi.2.1;have keep:∀{Fa Ha Fb Hb:Hp},Ext Fa Ha Fb Hb->Fa D=uN->Ha D=uM (.lst ys)->Dj Fa hh->Same hh Ha->(Fb D=uN/\Hb D=uM (.lst ys))/\Dj Fb hh/\Same hh Hb:=by
   intro Fa Ha Fb Hb x h1 h2 h3 h4;refine⟨⟨?_,x.2.2.1 _ _ h2⟩,λp=>?_,h4.trans x.2.2.1⟩
   ·cases z:Fb D with
    |none=>rfl
    |some o=>have:=x.2.2.2 D h1 (by rw[z];exact sN _);rw[h2]at this;cases this
   ·cases y:hh p with
    |none=>exact .inr rfl
    |some w=>
     left;rcases h3 p with z |z
     ·cases zz:Fb p with
      |none=>rfl
      |some o=>have:=x.2.2.2 p z (by rw[zz];exact sN _);rw[h4 _ _ y]at this;cases this
     ·rw[z]at y;cases y
  obtain⟨⟨e9,hy2⟩,g_,sh2⟩:=keep x2 hDi hy dj sh;refine hg xs[i] v ai F2 H2 _ x2.2.1 hv λvs aT=>?_
  have gh:HoldF (cL lv fr L) ai F2:=hσ.mono (xi.1.trans x2.1);obtain⟨a1,a2,a3⟩:=zfn_ aT cC.symm gh;have d5:HoldF (cL lv fr L) (setS ai vs) F1:=by
   have eN:=hd xs[i];refine λj s e=>?_
   by_cases hj:∃q∈(ss xs[i]).map (·.1),q=j
   ·obtain⟨q,hq,rfl⟩:=hj
    rw[eN q hq s e];trivial
   ·have:((setS ai vs)[j]?)=ai[j]?:=zk8_ aT (λhq=>hj ⟨j,hq,rfl⟩)
    rw[this];exact hσ j s e
  have eJ:xs.drop i=xs[i]::xs.drop (i+1):=oY ay;rw[eJ]at A;unfold compM at A;cases ec:c xs[i]with
  |no=>unfold cond1 at A;rw[ec]at A;exact A.elim
  |ex cc=>unfold cond1 at A;rw[ec]at A;exact A.elim
  |ok bb=>
   refine ht xs[i] _ F2 H2 _ a1 x2.2.1 ?_;rw[ec];intro F3 H3 x3;obtain⟨⟨dI,hy3⟩,dj3,sh3⟩:=keep x3 e9 hy2 g_ sh2;have fR:=(xi.trans x2).trans x3;cases bb with
   |false=>
    rw[if_neg (by decide)]
    refine⟨ay,acc,F3,hh,fR,dI,hDh,hy3,hp.mono (x2.1.trans x3.1),dj3,sh3,fresh,d5,by rw[a2];exact cC,?_⟩
    unfold cond1 at A;rw[ec]at A;exact A
   |true=>
    rw[if_pos rfl];cases ef:f xs[i]with
    |no=>unfold cond1 at A;rw[ec,ef]at A;exact A.elim
    |ex cc=>unfold cond1 at A;rw[ec,ef]at A;exact A.elim
    |ok y=>
     unfold cond1 at A;rw[ec,ef]at A;have A':After K (Mo.lim (acc.length+1) (compM (λx=>cond1 (c x) (f x)) (xs.drop (i+1)) (acc++[y]))) E F1 H1 (OwnK (owLO O') H0 Q):=A
     obtain⟨hz,A'⟩:=A'.lim;refine he xs[i] _ F3 H3 _ (a1.mono x3.1) x3.2.1 ?_;rw[ef];intro F4 H4 x4 v4 hn gY gZ iU dF;obtain⟨⟨iM,hy4⟩,j7,sh4⟩:=keep x4 dI hy3 dj3 sh3;have hlen:=hp.len;have iA:hn D=uN:=by
      cases z:hn D with
      |none=>rfl
      |some w=>have:=gY D (by rw[z];exact sN _);rw[hy3]at this;cases this
     have j5:Dj hh hn:=λp=>by
      cases z:hn p with
      |none=>exact .inr rfl
      |some w=>exact .inl (sh3.free (gY p (by rw[z];exact sN _)))
     have fj:=fR.trans x4;refine⟨hy4,by omega,ay,acc++[y],F4,un hh hn,?_,iM,by unfold un;rw[hDh];exact iA,ze_,(hp.mono ((x2.1.trans x3.1).trans x4.1)).snoc dF j5,λp=>?_,λp o z=>?_,λp z=>?_,d5,by rw[a2];exact cC,A'⟩
     ·refine⟨fj.1,λb o z=>?_,λb o z=>?_,fj.2.2.2⟩
      ·unfold upd;split
       ·rename_i w;rw[w,iM]at z;cases z
       ·exact fj.2.1 _ _ z
      ·unfold upd;split
       ·rename_i w;rw[w,hD]at z;cases z
       ·exact fj.2.2.1 _ _ z
     ·unfold un
      cases z:hh p with
      |some w=>
       rcases j7 p with y |y
       ·exact .inl y
       ·rw[y]at z;cases z
      |none=>exact gZ p
     ·have jr:p≠D:=λw=>by
       unfold un at z;rw[w,hDh,iA]at z;cases z
      unfold upd;rw[if_neg jr];unfold un at z;cases w:hh p with
      |some o'=>rw[w]at z;cases z;exact sh4 _ _ w
      |none=>rw[w]at z;exact iU _ _ z
     ·unfold un at z
      cases w:hh p with
      |some o'=>exact fresh p (by rw[w];exact sN _)
      |none=>rw[w]at z;exact fR.2.2.1.free (gY p z)
 ·left
  have e:i=xs.length:=by omega
  subst e;refine⟨Y.stop H' (xi.1.trans xi.2.1),?_⟩;rw[qj]at A;have A':OwnK (owLO O') H0 Q acc Fi H':=A Fi H' xi;have dD:Dj (one D (.lst ys)) hh:=λp=>by
   unfold one;split
   ·rename_i w;rw[w];exact .inr hDh
   ·exact .inl rfl
  refine A' (.ref D) (un (one D (.lst ys)) hh) (λp z=>?_) (λp=>?_) (λp o z=>?_) ⟨D,ys,hh,rfl,zai_ dD,hp⟩
  ·unfold un one at z
   by_cases w:p=D
   ·rw[w];exact x1.2.2.1.free hD
   ·simp only[if_neg w]at z;exact x1.2.2.1.free (fresh p z)
  ·by_cases w:p=D
   ·rw[w];exact .inl hDi
   ·unfold un one;simp only[if_neg w];exact dj p
  ·unfold un one at z
   by_cases w:p=D
   ·simp only[if_pos w]at z;rw[w];cases z;exact hy
   ·simp only[if_neg w]at z;exact sh _ _ z
theorem jn_no {h1 h2 h:Hp}(j:Jn h1 h2 h)(n:∀p,h2 p=uN):h=h1:=funext λp=>by
 rcases j p with⟨a,b⟩|⟨_,b⟩
 ·rw[b,n,a]
 ·exact b
section
open PySem PySem.Spec PyProof.Rows PySem.W
end
theorem zV_ {α:Type}{us:List α}{n:Nat}(h:us.length=n+1):∃a t,us=a::t/\t.length=n:=by
 cases us with
 |nil=>cases h
 |cons a t=>exact⟨a,t,rfl,mR h⟩
theorem Fun.binds1 {x qual:Str}{st:l8}{f:kR}{fd:mH}{ps:List Str}(hp:ps.length=1)(F:Fun K x qual st f fd)(h:∀(kV doc pm:aU) (an:Option kR) (ae ct:aU) (ua:aU),bindArgs (W.fnOf x qual (defArgs st) (defBody st) (defScope st) .none kV doc pm an ae ct) ⟨[ua],[]⟩=pure (ps.zip [ua])):Binds K fd ps []:=by
 refine F.binds λkV doc pm an ae ct us hl=>?_
 have h0:=hl.trans hp;obtain⟨ua,t1,rfl,h1⟩:=zV_ h0;cases ml.mp h1;exact h kV doc pm an ae ct ua
theorem Fun.binds2 {x qual:Str}{st:l8}{f:kR}{fd:mH}{ps:List Str}(hp:ps.length=2)(F:Fun K x qual st f fd)(h:∀(kV doc pm:aU) (an:Option kR) (ae ct:aU) (ua ub:aU),bindArgs (W.fnOf x qual (defArgs st) (defBody st) (defScope st) .none kV doc pm an ae ct) ⟨[ua,ub],[]⟩=pure (ps.zip [ua,ub])):Binds K fd ps []:=by
 refine F.binds λkV doc pm an ae ct us hl=>?_
 have h0:=hl.trans hp;obtain⟨ua,t1,rfl,h1⟩:=zV_ h0;obtain⟨ub,t2,rfl,h2⟩:=zV_ h1;cases ml.mp h2;exact h kV doc pm an ae ct ua ub
theorem Fun.binds3 {x qual:Str}{st:l8}{f:kR}{fd:mH}{ps:List Str}(hp:ps.length=3)(F:Fun K x qual st f fd)(h:∀(kV doc pm:aU) (an:Option kR) (ae ct:aU) (ua ub uc:aU),bindArgs (W.fnOf x qual (defArgs st) (defBody st) (defScope st) .none kV doc pm an ae ct) ⟨[ua,ub,uc],[]⟩=pure (ps.zip [ua,ub,uc])):Binds K fd ps []:=by
 refine F.binds λkV doc pm an ae ct us hl=>?_
 have h0:=hl.trans hp;obtain⟨ua,t1,rfl,h1⟩:=zV_ h0;obtain⟨ub,t2,rfl,h2⟩:=zV_ h1;obtain⟨uc,t3,rfl,h3⟩:=zV_ h2;cases ml.mp h3;exact h kV doc pm an ae ct ua ub uc
theorem Fun.binds4 {x qual:Str}{st:l8}{f:kR}{fd:mH}{ps:List Str}(hp:ps.length=4)(F:Fun K x qual st f fd)(h:∀(kV doc pm:aU) (an:Option kR) (ae ct:aU) (ua ub uc ud:aU),bindArgs (W.fnOf x qual (defArgs st) (defBody st) (defScope st) .none kV doc pm an ae ct) ⟨[ua,ub,uc,ud],[]⟩=pure (ps.zip [ua,ub,uc,ud])):Binds K fd ps []:=by
 refine F.binds λkV doc pm an ae ct us hl=>?_
 have h0:=hl.trans hp;obtain⟨ua,t1,rfl,h1⟩:=zV_ h0;obtain⟨ub,t2,rfl,h2⟩:=zV_ h1;obtain⟨uc,t3,rfl,h3⟩:=zV_ h2;obtain⟨ud,t4,rfl,h4⟩:=zV_ h3;cases ml.mp h4;exact h kV doc pm an ae ct ua ub uc ud
end
section
end
section
variable {κ:Type}[DecidableEq κ]
end
section
end
def mSetD (td ty tz:TE):TE:=λσ H Q=>td σ H λx H1=>(match x with |.ref a=>∃kvs,H1 a=uM (.dK kvs)|_=>False)/\ty σ H1 λy H2=>tz σ H2 λz H3=>atD x y H3 λa kvs k=>
 match valV kvs k with |some v=>Q v H3 |none=>kvs.length<lg/\Q z (upd H3 a (.dK (putK kvs k z)))
section
variable {X:Cx}{o e f:lq}{apos ao:Pos}{td ty tz:TE}
theorem zla_ (hu:X.A.units+60<cLine)(ho:PE X o td)(he:PE X e ty)(hf:PE X f tz)(m:M2 X o "setdefault" apos e f ao:=by exact⟨rfl,rfl,rfl,rfl⟩):PE X (.Call (.Attribute o "setdefault" apos) [e,f] [] ao) (mSetD td ty tz):=by
 intro pins s σ H Q I h;refine wpAny_Call_method m.base m.few m.line PySem.F.plainAttrs_dict pQ PySem.F.type_dict_setdefault (thn (ho pins s σ H _ I h) λu s1 af=>?_)
 obtain⟨x,H1,I1,rx,hx,q1⟩:=af;cases x with
 |ref a=>
  obtain⟨f7,hd0⟩:=hx;obtain rfl:u=mE a:=rx;obtain⟨t1,t2,_⟩:=zpt_ I1 (.inl ⟨f7,.inl hd0⟩);refine⟨t1,t2,?_⟩;rw[m.trees];refine Calls.callWith_builtin rfl (Calls.evalArgs_plain (Calls.spliced_cons (thn (he pins s1 σ H1 _ I1 q1) λiv s2 ⟨y,H2,I2,ry,q2⟩=>
   Calls.spliced_cons (thn (hf pins s2 σ H2 _ I2 q2) λfv s3 ⟨z,H3,I3,rz,q3⟩=>Calls.spliced_nil ?_))))
  obtain⟨a',kvs,k,ea,rfl,hd,q⟩:=zgW_ q3;cases ea;obtain⟨hz,hsys,vs,rel,dd⟩:=zlE_ I3.hok hd;have i6:vs.length<=lg:=by rw[<- rel.length];exact hz
  have rk:=rel.val k;refine call_meetsIn pQ dd.typeIs PySem.F.entry_dict_setdefault (PySem.F.args_dict_setdefault_3 _ _ _) (kt_meets_setdefault (mixKind X.prog X.w) a (zj1_ ry) hsys fv) ⟨vs,dd,i6,λv hv=>?_,λhn h' cj hs=>?_⟩
  ·rw[hv]at rk
   cases g:valV kvs k with
   |none=>rw[g]at rk;exact rk.elim
   |some v0=>rw[g]at rk q;exact⟨v0,H3,I3.tok _,rk,q⟩
  ·rw[hn]at rk
   cases g:valV kvs k with
   |some v0=>rw[g]at rk;exact rk.elim
   |none=>
    rw[g]at q;have hl:(putK kvs k z).length<=lg:=by have:=zaF_ kvs k z;have:=q.1;lia
    have hq:∃q,h'.get? a=uM q:=let⟨q,_,_,hq,_⟩:=cj;⟨q,hq⟩
    exact⟨z,_,zew_ I3 (by rw[hd];exact mP) hs hq (zjI_ hl hsys (rel.put k rz) cj),rz,q.2⟩
 |_=>exact hx.elim
end
section
variable {κ:Type}[DecidableEq κ]
end
section
end
section
variable {κ:Type}
variable [DecidableEq κ]
end
section
variable {κ:Type}[DecidableEq κ]
end
section
end
def Fi (K:Fgg)(x q:Str)(st:l8)(f:kR):Prop:=∃(oc:aU) (od:Option kR) (kV doc pm:aU) (an:Option kR) (ae ct:aU) (aq:Array (Option aU)),
 K.lookup f=uM ⟨oc,od,.func (W.fnOf x q (defArgs st) (defBody st) (defScope st) .none kV doc pm an ae ct),aq⟩/\pJ K ae q=uO/\ox K (.ref f)=uO
def Fg (K:Fgg)(x:Str)(st:l8):Prop:=∃f,m8 K lD x=uM (uM (.ref f))/\Fi K x x st f
def Fm (K:Fgg)(c m q:Str)(st:l8):Prop:=∃cw f,m8 K lD c=uM (uM (.ref cw))/\nI K (.ref cw) m=uM (uM (.ref f))/\tO K (.ref f)=uO/\Fi K m q st f
def Fc (K:Fgg)(c:Str):Prop:=∃cw,m8 K lD c=uM (uM (.ref cw))/\qt K cw tH=uO/\p5 K cw=uO/\qM K cw=uO /\
 nI K (.ref cw) "__setattr__"=uM (uM (.builtin "object.__setattr__"))/\rS K cw=uO/\ox K (.ref cw)=uO
def Fa (K:Fgg)(c a:Str):Prop:=∃cw,m8 K lD c=uM (uM (.ref cw))/\nI K (.ref cw) a=uM uN
def Fb (K:Fgg)(x:Str):Prop:=m8 K lD x=uM uN
def Fv (K:Fgg)(x:Str)(v:V):Prop:=∃u,m8 K lD x=uM (uM u)/\RelV v u
def Fk (K:Fgg)(x:Str):Prop:=∃c,m8 K lD x=uM (uM (.ref c))
def Mgo (K:Fgg)(mg:Str->Option aU):Prop:=∃h:Heap,K.In h/\h.Ns lD mg
section
variable {P:lN}{w:l7}{K:Fgg}{mg:Str->Option aU}{base:Heap}{CX:CXT}{x q c m a:Str}{st:l8}{f:kR}{fd:mH}{ps:List Str}{k:Nat}{sp:Sp}{v:V}
theorem Fg.mk_ {oc:aU}{od:Option kR}{kV doc pm:aU}{an:Option kR}{ae ct:aU}{aq:Array (Option aU)}(h:m8 K lD x=uM (uM (.ref f)))(l:K.lookup f=uM ⟨oc,od,.func (W.fnOf x x (defArgs st) (defBody st) (defScope st) .none kV doc pm an ae ct),aq⟩)(c:pJ K ae x=uO)(k:ox K (.ref f)=uO):Fg K x st:=⟨f,h,oc,od,kV,doc,pm,an,ae,ct,aq,l,c,k⟩
theorem Fm.mk_ {cw:kR}{oc:aU}{od:Option kR}{kV doc pm:aU}{an:Option kR}{ae ct:aU}{aq:Array (Option aU)}(h:m8 K lD c=uM (uM (.ref cw)))(h1:nI K (.ref cw) m=uM (uM (.ref f)))(h2:tO K (.ref f)=uO)(l:K.lookup f=uM ⟨oc,od,.func (W.fnOf m q (defArgs st) (defBody st) (defScope st) .none kV doc pm an ae ct),aq⟩)(h3:pJ K ae q=uO)(k:ox K (.ref f)=uO):Fm K c m q st:=⟨cw,f,h,h1,h2,oc,od,kV,doc,pm,an,ae,ct,aq,l,h3,k⟩
theorem Fc.mk_ {cw:kR}(h:m8 K lD c=uM (uM (.ref cw)))(h1:qt K cw tH=uO)(h2:p5 K cw=uO)(h3:qM K cw=uO)(h4:nI K (.ref cw) "__setattr__"=uM (uM (.builtin "object.__setattr__")))(h5:rS K cw=uO)(h6:ox K (.ref cw)=uO):Fc K c:=⟨cw,h,h1,h2,h3,h4,h5,h6⟩
theorem Fa.mk_ {cw:kR}(h:m8 K lD c=uM (uM (.ref cw)))(h1:nI K (.ref cw) a=uM uN):Fa K c a:=⟨cw,h,h1⟩
theorem Fv.mk_ {u:aU}(h:m8 K lD x=uM (uM u))(h1:RelV v u):Fv K x v:=⟨u,h,h1⟩
theorem Fk.mk_ {cw:kR}(h:m8 K lD x=uM (uM (.ref cw))):Fk K x:=⟨cw,h⟩
theorem Fi.fun_ (h:Fi K x q st f):∃fd,Fun K x q st f fd:=by
 obtain⟨oc,od,kV,doc,pm,an,ae,ct,aq,l,c,k⟩:=h;exact⟨_,zmd_ l c k⟩
theorem Mgo.gb (M:Mgo K mg)(h:Fb K x):Gb mg x:=by
 obtain⟨_,X,G⟩:=M;exact W.mg_none_of X G h
theorem Mgo.gv (M:Mgo K mg)(h:Fv K x v):Gc mg x v:=by
 obtain⟨_,X,G⟩:=M;obtain⟨u,e,r⟩:=h;exact⟨u,rM X G e,r⟩
theorem Mgo.gk (M:Mgo K mg)(h:Fk K x):mg x=uM (.ref (gA K x)):=by
 obtain⟨_,X,G⟩:=M;obtain⟨u,e⟩:=h;rw[zl4_ e];exact rM X G e
theorem Mgo.gkc (M:Mgo K mg)(h:Fk K x):Gc mg x (.ref (gA K x)):=⟨_,M.gk h,rfl⟩
theorem Fc.cls (h:Fc K c):Cls K (gA K c):=by
 obtain⟨cw,e,h1,h2,h3,h4,_⟩:=h;rw[zl4_ e];exact⟨h1,h2,h3,h4⟩
theorem Fa.no (h:Fa K c a):NoAttr K (gA K c) a:=by
 obtain⟨cw,e,h⟩:=h;rw[zl4_ e];exact h
abbrev OkF (P:lN)(w:l7)(K:Fgg)(mg:Str->Option aU)(base:Heap)(CX:CXT)(k:Nat)(x q:Str)(st:l8)(ps:List Str)(sp:Sp):Prop:=∀f fd,Fun K x q st f fd->FnOk P w K mg base CX k f fd ps sp/\Binds K fd ps []
theorem zN_ (M:Mgo K mg)(F:Fg K x st)(h:OkF P w K mg base CX k x x st ps sp):Gd P w K mg base CX k x ps sp:=by
 obtain⟨_,X,G⟩:=M;obtain⟨f,e,i⟩:=F;obtain⟨fd,F⟩:=i.fun_;exact⟨f,fd,(h f fd F).1,rM X G e,F.kp,(h f fd F).2⟩
end
section
variable {K:Fgg}{x q:Str}{st:l8}{ps:List Str}
abbrev Bnd (K:Fgg)(x q:Str)(st:l8)(ps:List Str):Prop:=∀f fd,Fun K x q st f fd->Binds K fd ps []
variable {l:PySem.W.OpenLaw}{w:l7}{mg:Str->Option aU}{k:Nat}{sp:Sp}{fa:kR}
theorem okLaw (M:Mgo K mg)(F:Fg K "law" st)(gM:mg "law"=uM (.ref fa))(hb:∀(kV doc pm:aU) (an:Option kR) (ae ct:aU) (s:kF) (v:aU),bindArgs (W.fnOf "law" "law" (defArgs st) (defBody st) (defScope st) .none kV doc pm an ae ct) ⟨[v],[]⟩=pure [(x,v)])
  (h:∀(base:Heap) (f:kR) (fd:mH),Fun K "law" "law" st f fd->FnOk l.prog w K mg base CX0 k f fd [x] sp):
  ∃fd:mH,(∀(s:kF) (v:aU),BindsTo s fd ⟨[v],[]⟩ [(x,v)])/\∀base:Heap,K.In base->base.Ns lD mg->FnOk l.prog w K mg base CX0 k fa fd [x] sp:=by
 obtain⟨_,X,G⟩:=M;obtain⟨f,e,oc,od,kV,doc,pm,an,ae,ct,aq,l',c,kk⟩:=F;cases gM.symm.trans (rM X G e);exact⟨_,λs v=>.of_eq (hb kV doc pm an ae ct s v),λbase _ _=>h base _ _ (zmd_ l' c kk)⟩
def spL (K:Fgg):Sp:=λvs H Q _=>∃(a:kR) (ns:List Int),vs=[.ref a]/\SqL K H a (ns.map V.int)/\ns.length<=63/\BitsOk ns/\∀H',Q (.bl uO) H'
end
abbrev zed_:=@PySem.F.slot_str_zfill
abbrev zel_:=@PySem.F.type_str_zfill
abbrev zea_:=@PySem.F.slot_str_index
abbrev zd4_:=@PySem.F.type_str_index
abbrev ze0_:=@PySem.F.slot_str_join
abbrev zfo_:=@PySem.F.type_str_join
abbrev zds_:=@PySem.F.plainAttrs_list
abbrev za3_:=@PySem.F.slot_list_append
abbrev zbd_:=@PySem.F.type_list_append
abbrev zbi_:=@PySem.F.slot_list_extend
abbrev za0_:=@PySem.F.type_list_extend
section
end
def Fe1 (K:Fgg)(a:Str)(P:kR->Prop):Prop:=∃v,m8 K lD a=uM (uM (.ref v))/\P v
theorem Fe1.mk_ {K:Fgg}{a:Str}{P:kR->Prop}{v:kR}(h:m8 K lD a=uM (uM (.ref v)))(p:P v):Fe1 K a P:=⟨v,h,p⟩
def Fe2 (K:Fgg)(a b:Str)(P:kR->kR->Prop):Prop:=∃v w,m8 K lD a=uM (uM (.ref v))/\m8 K lD b=uM (uM (.ref w))/\P v w
theorem Fe2.mk_ {K:Fgg}{a b:Str}{P:kR->kR->Prop}{v w:kR}(h:m8 K lD a=uM (uM (.ref v)))(h2:m8 K lD b=uM (uM (.ref w)))(p:P v w):Fe2 K a b P:=⟨v,w,h,h2,p⟩
section
end
open PySem.SeqAt
open PySem.AutoSeq1 (wpAny_loadPart')
open PySem.MeetsSeq PySem.MeetsSeq2 PySem.MeetsSeq3
section
variable {X:Cx}{pins:Pnn}{σ:St}{H:Hp}{s:kF}{A:l9}
theorem zlt_ {x y:V}{v u:aU}(rx:RelV x v)(ry:RelV y u)(fx:flatV x=uO)(fy:flatV y=uO):oF A s v u (eqV x y):=by
 cases x with
 |non=>
  cases rx;cases y with
  |non=>cases ry;exact SeqAt.RcAt.none_none
  |bl b=>cases ry;exact SeqAt.RcAt.none_bool _
  |int b=>obtain⟨t,rfl⟩:=ry;exact SeqAt.RcAt.none_int _ _
  |str b=>obtain⟨t,rfl⟩:=ry;exact SeqAt.RcAt.none_str _ _
  |_=>cases fy
 |bl a=>
  cases rx;cases y with
  |non=>cases ry;exact SeqAt.RcAt.bool_none _
  |bl b=>cases ry;exact SeqAt.RcAt.bool_bool _ _
  |int b=>obtain⟨t,rfl⟩:=ry;exact SeqAt.RcAt.bool_int _ _ _
  |str b=>obtain⟨t,rfl⟩:=ry;exact SeqAt.RcAt.bool_str _ _ _
  |_=>cases fy
 |int a=>
  obtain⟨t',rfl⟩:=rx;cases y with
  |non=>cases ry;exact SeqAt.RcAt.int_none _ _
  |bl b=>cases ry;exact SeqAt.RcAt.int_bool _ _ _
  |int b=>obtain⟨t,rfl⟩:=ry;exact SeqAt.RcAt.int_int _ _ _ _
  |str b=>obtain⟨t,rfl⟩:=ry;exact SeqAt.RcAt.int_str _ _ _ _
  |_=>cases fy
 |str a=>
  obtain⟨t',rfl⟩:=rx;cases y with
  |non=>cases ry;exact SeqAt.RcAt.str_none _ _
  |bl b=>cases ry;exact SeqAt.RcAt.str_bool _ _ _
  |int b=>obtain⟨t,rfl⟩:=ry;exact SeqAt.RcAt.str_int _ _ _ _
  |str b=>obtain⟨t,rfl⟩:=ry;exact SeqAt.RcAt.str_str _ _ _ _
  |_=>cases fy
 |_=>cases fx
theorem zjE_ {x y:V}{v u:aU}(rx:RelV x v)(ry:RelV y u)(fx:flatV x=uO)(fy:flatV y=uO):oV A s v u (!eqV x y):=by
 cases x with
 |non=>
  cases rx;cases y with
  |non=>cases ry;exact tR
  |bl b=>cases ry;exact tS _
  |int b=>obtain⟨t,rfl⟩:=ry;exact t9 _ _
  |str b=>obtain⟨t,rfl⟩:=ry;exact ue _ _
  |_=>cases fy
 |bl a=>
  cases rx;cases y with
  |non=>cases ry;exact tT _
  |bl b=>cases ry;exact tU _ _
  |int b=>obtain⟨t,rfl⟩:=ry;exact uf _ _ _
  |str b=>obtain⟨t,rfl⟩:=ry;exact ug _ _ _
  |_=>cases fy
 |int a=>
  obtain⟨t',rfl⟩:=rx;cases y with
  |non=>cases ry;exact uh _ _
  |bl b=>cases ry;exact ui _ _ _
  |int b=>obtain⟨t,rfl⟩:=ry;exact uz _ _ _ _
  |str b=>obtain⟨t,rfl⟩:=ry;exact uA _ _ _ _
  |_=>cases fy
 |str a=>
  obtain⟨t',rfl⟩:=rx;cases y with
  |non=>cases ry;exact uj _ _
  |bl b=>cases ry;exact uk _ _ _
  |int b=>obtain⟨t,rfl⟩:=ry;exact uB _ _ _ _
  |str b=>obtain⟨t,rfl⟩:=ry;exact uC _ _ _ _
  |_=>cases fy
 |_=>cases fx
theorem rc_lf {p:kR}{aa:Array aU}{y:V}{u:aU}(hp:s.heap.IsList p aa)(ry:RelV y u)(fy:flatV y=uO)(hu:A.units<cLine):oF A s (.ref p) u uP:=by
 cases y with
 |non=>cases ry;exact SeqAt.RcAt.list_none hp hu
 |bl b=>cases ry;exact SeqAt.RcAt.list_bool _ hp hu
 |int b=>obtain⟨t,rfl⟩:=ry;exact SeqAt.RcAt.list_int _ _ hp hu
 |str b=>obtain⟨t,rfl⟩:=ry;exact SeqAt.RcAt.list_str _ _ hp hu
 |_=>cases fy
theorem rc_lF {p:kR}{aa:Array aU}{y:V}{u:aU}(hp:s.heap.IsList p aa)(ry:RelV y u)(fy:flatV y=uO)(hu:A.units<cLine):oF A s u (.ref p) uP:=by
 cases y with
 |non=>cases ry;exact SeqAt.RcAt.none_list hp hu
 |bl b=>cases ry;exact SeqAt.RcAt.bool_list _ hp hu
 |int b=>obtain⟨t,rfl⟩:=ry;exact SeqAt.RcAt.int_list _ _ hp hu
 |str b=>obtain⟨t,rfl⟩:=ry;exact SeqAt.RcAt.str_list _ _ hp hu
 |_=>cases fy
theorem rc_tf {p:kR}{aa:Array aU}{y:V}{u:aU}(hp:s.heap.IsTuple p aa)(ry:RelV y u)(fy:flatV y=uO)(hu:A.units<cLine):oF A s (.ref p) u uP:=by
 cases y with
 |non=>cases ry;exact SeqAt.RcAt.tuple_none hp hu
 |bl b=>cases ry;exact SeqAt.RcAt.tuple_bool _ hp hu
 |int b=>obtain⟨t,rfl⟩:=ry;exact SeqAt.RcAt.tuple_int _ _ hp hu
 |str b=>obtain⟨t,rfl⟩:=ry;exact SeqAt.RcAt.tuple_str _ _ hp hu
 |_=>cases fy
theorem rc_tF {p:kR}{aa:Array aU}{y:V}{u:aU}(hp:s.heap.IsTuple p aa)(ry:RelV y u)(fy:flatV y=uO)(hu:A.units<cLine):oF A s u (.ref p) uP:=by
 cases y with
 |non=>cases ry;exact SeqAt.RcAt.none_tuple hp hu
 |bl b=>cases ry;exact SeqAt.RcAt.bool_tuple _ hp hu
 |int b=>obtain⟨t,rfl⟩:=ry;exact SeqAt.RcAt.int_tuple _ _ hp hu
 |str b=>obtain⟨t,rfl⟩:=ry;exact SeqAt.RcAt.str_tuple _ _ hp hu
 |_=>cases fy
theorem zoI_ {p:kR}{aa:Array aU}{y:V}{u:aU}(hp:s.heap.IsList p aa)(ry:RelV y u)(fy:flatV y=uO)(hu:A.units<cLine):oV A s (.ref p) u uO:=by
 cases y with
 |non=>cases ry;exact tV hp hu
 |bl b=>cases ry;exact tW _ hp hu
 |int b=>obtain⟨t,rfl⟩:=ry;exact um _ _ hp hu
 |str b=>obtain⟨t,rfl⟩:=ry;exact uo _ _ hp hu
 |_=>cases fy
theorem zrj_ {p:kR}{aa:Array aU}{y:V}{u:aU}(hp:s.heap.IsList p aa)(ry:RelV y u)(fy:flatV y=uO)(hu:A.units<cLine):oV A s u (.ref p) uO:=by
 cases y with
 |non=>cases ry;exact tX hp hu
 |bl b=>cases ry;exact tY _ hp hu
 |int b=>obtain⟨t,rfl⟩:=ry;exact uq _ _ hp hu
 |str b=>obtain⟨t,rfl⟩:=ry;exact ur _ _ hp hu
 |_=>cases fy
theorem zqt_ {p:kR}{aa:Array aU}{y:V}{u:aU}(hp:s.heap.IsTuple p aa)(ry:RelV y u)(fy:flatV y=uO)(hu:A.units<cLine):oV A s (.ref p) u uO:=by
 cases y with
 |non=>cases ry;exact tJ hp hu
 |bl b=>cases ry;exact tK _ hp hu
 |int b=>obtain⟨t,rfl⟩:=ry;exact tZ _ _ hp hu
 |str b=>obtain⟨t,rfl⟩:=ry;exact t5 _ _ hp hu
 |_=>cases fy
theorem zpH_ {p:kR}{aa:Array aU}{y:V}{u:aU}(hp:s.heap.IsTuple p aa)(ry:RelV y u)(fy:flatV y=uO)(hu:A.units<cLine):oV A s u (.ref p) uO:=by
 cases y with
 |non=>cases ry;exact tL hp hu
 |bl b=>cases ry;exact tM _ hp hu
 |int b=>obtain⟨t,rfl⟩:=ry;exact t6 _ _ hp hu
 |str b=>obtain⟨t,rfl⟩:=ry;exact t7 _ _ hp hu
 |_=>cases fy
theorem zl8_ (I:Inv X pins σ H s){n:Nat}{x y:V}{b:Bool}(h:EqD X.K H n x y b):∀(A:l9) (v u:aU),A.units+n<cLine->RelV x v->RelV y u->oF A s v u b:=by
 induction h with
 |flat hx hy=>exact λA v u _ rx ry=>zlt_ rx ry hx hy
 |lst e hp hq hl h ih=>exact λA v u hu rx ry=>(zdN_ I (.lst e hp hq hl h) A v u hu rx ry).2 _ _ rfl rfl
 |lstN hp hq hl=>exact λA v u hu rx ry=>(zdN_ I (.lstN hp hq hl) A v u hu rx ry).2 _ _ rfl rfl
 |tup e hp hq h ih=>exact λA v u hu rx ry=>(zdN_ I (.tup e hp hq h) A v u hu rx ry).2 _ _ rfl rfl
 |lt hp hq=>exact λA v u hu rx ry=>(zdN_ I (.lt hp hq) A v u hu rx ry).2 _ _ rfl rfl
 |tl hp hq=>exact λA v u hu rx ry=>(zdN_ I (.tl hp hq) A v u hu rx ry).2 _ _ rfl rfl
 |lf hp hy=>intro A v u hu rx ry;cases rx;obtain⟨aa,_,p1,_⟩:=I.list hp;exact rc_lf p1.isList ry hy (by lia)
 |fl hp hy=>intro A v u hu rx ry;cases ry;obtain⟨aa,_,p1,_⟩:=I.list hp;exact rc_lF p1.isList rx hy (by lia)
 |tf hp hy=>intro A v u hu rx ry;cases rx;obtain⟨aa,_,p1,_⟩:=I.tuple hp;exact rc_tf p1 ry hy (by lia)
 |ft hp hy=>intro A v u hu rx ry;cases ry;obtain⟨aa,_,p1,_⟩:=I.tuple hp;exact rc_tF p1 rx hy (by lia)
 |up h ih=>exact λA v u hu rx ry=>ih A v u (by lia) rx ry
def mEqA (K:Fgg):R2:=λx y H Q=>∃n b,n<=50/\EqD K H n x y b/\Q (.bl b) H
theorem zph_ (hu:X.A.units+60<cLine):OpR X (lF .Eq) (mEqA X.K):=by
 intro pins s σ H x y v u Q I rx ry h;obtain⟨n,b,hn,h,q⟩:=h;exact(zl8_ I h X.A v u (by lia) rx ry) X.prog X.w X.xe _ ⟨.bl b,H,I,rfl,q⟩
theorem zj9_ (I:Inv X pins σ H s){n:Nat}{x y:V}{b:Bool}(h:EqD X.K H n x y b):∀(A:l9) (v u:aU),A.units+n<cLine->RelV x v->RelV y u->oV A s v u (!b):=by
 induction h with
 |flat hx hy=>exact λA v u _ rx ry=>zjE_ rx ry hx hy
 |lst e hp hq hl h ih=>exact λA v u hu rx ry=>zfV_ I (.lst e hp hq hl h) A v u hu rx ry _ _ rfl rfl
 |lstN hp hq hl=>exact λA v u hu rx ry=>zfV_ I (.lstN hp hq hl) A v u hu rx ry _ _ rfl rfl
 |tup e hp hq h ih=>exact λA v u hu rx ry=>zfV_ I (.tup e hp hq h) A v u hu rx ry _ _ rfl rfl
 |lt hp hq=>exact λA v u hu rx ry=>zfV_ I (.lt hp hq) A v u hu rx ry _ _ rfl rfl
 |tl hp hq=>exact λA v u hu rx ry=>zfV_ I (.tl hp hq) A v u hu rx ry _ _ rfl rfl
 |lf hp hy=>intro A v u hu rx ry;cases rx;obtain⟨aa,_,p1,_⟩:=I.list hp;exact zoI_ p1.isList ry hy (by lia)
 |fl hp hy=>intro A v u hu rx ry;cases ry;obtain⟨aa,_,p1,_⟩:=I.list hp;exact zrj_ p1.isList rx hy (by lia)
 |tf hp hy=>intro A v u hu rx ry;cases rx;obtain⟨aa,_,p1,_⟩:=I.tuple hp;exact zqt_ p1 ry hy (by lia)
 |ft hp hy=>intro A v u hu rx ry;cases ry;obtain⟨aa,_,p1,_⟩:=I.tuple hp;exact zpH_ p1 rx hy (by lia)
 |up h ih=>exact λA v u hu rx ry=>ih A v u (by lia) rx ry
def mNeA (K:Fgg):R2:=λx y H Q=>∃n b,n<=50/\EqD K H n x y b/\Q (.bl (!b)) H
theorem zq0_ (hu:X.A.units+60<cLine):OpR X (lF .NotEq) (mNeA X.K):=by
 intro pins s σ H x y v u Q I rx ry h;obtain⟨n,b,hn,h,q⟩:=h;exact(zj9_ I h X.A v u (by lia) rx ry) X.prog X.w X.xe _ ⟨.bl (!b),H,I,rfl,q⟩
end
def Fs (K:Fgg)(c m q:Str)(st:l8):Prop:=∃cw f,m8 K lD c=uM (uM (.ref cw))/\sx K (.ref cw) "__getattribute__"=uM (uM (.builtin "type.__getattribute__"))/\W.readsIn K cw (.type "type")=uO/\W.findCls K (.ref cw) (.type "type") m=uM (.val (.ref f))/\Fi K m q st f
section
variable {K:Fgg}{q c m:Str}{st:l8}{f:kR}
theorem Fs.mk_ {cw:kR}{oc:aU}{od:Option kR}{kV doc pm:aU}{an:Option kR}{ae ct:aU}{aq:Array (Option aU)}(h:m8 K lD c=uM (uM (.ref cw)))(h1:sx K (.ref cw) "__getattribute__"=uM (uM (.builtin "type.__getattribute__")))(h2:W.readsIn K cw (.type "type")=uO)(h3:W.findCls K (.ref cw) (.type "type") m=uM (.val (.ref f)))
  (l:K.lookup f=uM ⟨oc,od,.func (W.fnOf m q (defArgs st) (defBody st) (defScope st) .none kV doc pm an ae ct),aq⟩) (hc:pJ K ae q=uO) (hk:ox K (.ref f)=uO):Fs K c m q st:=⟨cw,f,h,h1,h2,h3,oc,od,kV,doc,pm,an,ae,ct,aq,l,hc,hk⟩
end
section
variable {κ:Type}
section
variable [DecidableEq κ]
end
end
section
end
noncomputable def Xc.c:Xc->String
 |.pl c=>c
 |.at c _=>c
section
end
structure FunD (K:Fgg)(T:kR)(x qual:Str)(st:l8)(f:kR)(fd:mH):Prop where
 ex:∃(oc:aU) (od:Option kR) (kV doc pm:aU) (an:Option kR) (ae ct:aU) (aq:Array (Option aU)),
  fd=W.fnOf x qual (defArgs st) (defBody st) (defScope st) (.ref T) kV doc pm an ae ct/\K.lookup f=uM ⟨oc,od,.func fd,aq⟩/\pJ K ae qual=uO
 kp:ox K (.ref f)=uO
section
end
noncomputable def relB:V->aU->Bool
 |.non,.none=>uO
 |.int i,.int j _=>i == j
 |.bl a,.bool b=>a == b
 |_,_=>uP
def relsB:List V->List aU->Bool
 |[],[]=>uO
 |x::xs,v::vs=>relB x v && relsB xs vs
 |_,_=>uP
theorem zm4_ {x:V}{v:aU}(h:relB x v=uO):RelV x v:=by
 unfold relB at h;split at h
 ·rfl
 ·exact⟨_,by rw[eq_of_beq h]⟩
 ·rw[eq_of_beq h];rfl
 ·cases h
theorem zgP_:∀{xs:List V}{vs:List aU},relsB xs vs=uO->Vals xs vs
 |[],[],_=>.nil
 |x::xs,v::vs,h=>by
  unfold relsB at h;obtain⟨a,b⟩:=lX.mp h;exact .cons (zm4_ a) (zgP_ b)
 |[],_::_,h=>by cases h
 |_::_,[],h=>by cases h
def FmD (K:Fgg)(c m q:Str)(st:l8)(av:List V):Prop:=∃cw f T fd arr n oc od aq,m8 K lD c=uM (uM (.ref cw))/\nI K (.ref cw) m=uM (uM (.ref f))/\tO K (.ref f)=uO/\FunD K T m q st f fd /\
 K.lookup T=uM ⟨oc,od,.seq arr n,aq⟩/\Vals av arr.toList
section
variable {P:lN}{w:l7}{K:Fgg}{mg:Str->Option aU}{base:Heap}{CX:CXT}{x q c m:Str}{st:l8}{f:kR}{fd:mH}{ps:List Str}{k:Nat}{sp:Sp}
theorem FmD.mk_ {cw T:kR}{oc dA:aU}{od fw:Option kR}{kV doc pm:aU}{an:Option kR}{ae ct:aU}{aq dP:Array (Option aU)}{arr:Array aU}{n:Nat}{av:List V}(h:m8 K lD c=uM (uM (.ref cw)))(h1:nI K (.ref cw) m=uM (uM (.ref f)))(h2:tO K (.ref f)=uO)
  (l:K.lookup f=uM ⟨oc,od,.func (W.fnOf m q (defArgs st) (defBody st) (defScope st) (.ref T) kV doc pm an ae ct),aq⟩) (c1:pJ K ae q=uO) (k1:ox K (.ref f)=uO) (lT:K.lookup T=uM ⟨dA,fw,.seq arr n,dP⟩) (hv:relsB av arr.toList=uO):FmD K c m q st av:=
 ⟨cw,f,T,_,arr,n,dA,fw,dP,h,h1,h2,⟨⟨oc,od,kV,doc,pm,an,ae,ct,aq,rfl,l,c1⟩,k1⟩,lT,zgP_ hv⟩
def GkD (P:lN)(w:l7)(K:Fgg)(mg:Str->Option aU)(base:Heap)(CX:CXT)(k:Nat)(x:Str)(C:kR)(ps:List Str)(av:List V)(sp:Sp):Prop:=
 ∃f fd ds,FnOk P w K mg base CX k f fd ps sp/\Mk K C f/\mg x=uM (.ref C)/\Vals av ds/\Binds K fd ps ds
abbrev OkFD (P:lN)(w:l7)(K:Fgg)(mg:Str->Option aU)(base:Heap)(CX:CXT)(k:Nat)(x q:Str)(st:l8)(ps:List Str)(sp:Sp):Prop:=∀T f fd,FunD K T x q st f fd->FnOk P w K mg base CX k f fd ps sp
end
section
variable {X:Cx}{e:lq}{es:List lq}{x:Str}{p pos:Pos}{t:TA}{C:kR}{k:Nat}{ps:List Str}{sp:Sp}{E:XK}{CX:CXT}{av:List V}
theorem zjM_ (G:GkD X.prog X.w X.K X.mg X.base CX k x C ps av sp)(hr:Room (k+1) X.A)(hx:Passes CX X E)(ha:PA X (e::es) t)(hg:Gl X x:=by rfl)(aZ:(x==("__debug__":Str))=uP:=by decide)
  (he:lQ (e::es) X.env=(uP,eval e X.env)::lQ es X.env:=by rfl) (aT:(oj pos (lQ es X.env)).any (·.1)=uP:=by rfl):
  PE X (.Call (.Name x p) (e::es) [] pos) (tMake C sp av E t):=by
 obtain⟨f,fd,ds,F,M,hm,hd,hb⟩:=G;exact znZ_ M F hr hg hm hb hd hx ha aZ he aT
end
section
variable {P:lN}{w:l7}{K:Fgg}{mg:Str->Option aU}{base:Heap}{q c:Str}{st:l8}{ps:List Str}{k:Nat}
theorem zqE_ {CX:CXT}{sp:Sp}{av:List V}(j:Nat)(M:Mgo K mg)(C:Fc K c)(F:FmD K c "__init__" q st av)(hb:∀T f fd arr n oc od aq,FunD K T "__init__" q st f fd->K.lookup T=uM ⟨oc,od,.seq arr n,aq⟩->arr.toList.length=av.length->Binds K fd ps (arr.toList.drop j))
  (h:OkFD P w K mg base CX k "__init__" q st ps sp):GkD P w K mg base CX k c (gA K c) ps (av.drop j) sp:=by
 obtain⟨cw,f,T,fd,arr,n,oc,od,aq,e,e2,e3,F,lT,hv⟩:=F;obtain⟨kx,e',_,_,_,_,h5,h6⟩:=C;cases e.symm.trans e';have hd:∀{xs:List V}{vs:List aU}(j:Nat),Vals xs vs->Vals (xs.drop j) (vs.drop j):=λ{xs vs} j r=>by
  induction j generalizing xs vs with
  |zero=>exact r
  |succ j ih=>cases r with |nil=>exact .nil |cons a t=>exact ih t
 exact⟨f,fd,arr.toList.drop j,h T f fd F,by rw[zl4_ e];exact⟨h5,e2,e3,h6⟩,M.gk ⟨_,e⟩,hd j hv,hb T f fd arr n oc od aq F lT hv.length.symm⟩
theorem arr5 {arr:Array aU}(h:arr.toList.length=5):∃d0 d1 d2 d3 d4,arr=#[d0,d1,d2,d3,d4]:=by
 obtain⟨l⟩:=arr;obtain⟨d0,l,rfl⟩:=mh h;obtain⟨d1,l,rfl⟩:=mh (mR h);obtain⟨d2,l,rfl⟩:=mh (mR (mR h));obtain⟨d3,l,rfl⟩:=mh (mR (mR (mR h)));obtain⟨d4,rfl⟩:=m4.mp (mR (mR (mR (mR h))));exact⟨d0,d1,d2,d3,d4,rfl⟩
end
noncomputable def strsB:List (List Nat)->List aU->Bool
 |[],[]=>uO
 |x::xs,.str z _::vs=>z == ⟨x.toArray⟩ && strsB xs vs
 |_,_=>uP
theorem zgV_:∀{xs:List (List Nat)}{vs:List aU},strsB xs vs=uO->Vals (xs.map tx) vs
 |[],[],_=>.nil
 |x::xs,v::vs,h=>by
  unfold strsB at h;split at h
  ·rename_i e1 _;cases e1
  ·rename_i e1 e2
   cases e1;cases e2;obtain⟨a,b⟩:=lX.mp h;exact .cons ⟨_,by rw[eq_of_beq a]⟩ (zgV_ b)
  ·cases h
 |[],_::_,h=>by cases h
 |_::_,[],h=>by cases h
def FtT (K:Fgg)(x:Str)(xs:List (List Nat)):Prop:=∀H:Hp,SqT K H (gA K x) (xs.map tx)
theorem FtT.mk_ {K:Fgg}{x:Str}{xs:List (List Nat)}{a:kR}{od:Option kR}{aa:Array aU}{n:Nat}{aq:Array (Option aU)}(h:m8 K lD x=uM (uM (.ref a)))(l:K.lookup a=uM ⟨.type "tuple",od,.seq aa n,aq⟩)(hv:strsB xs aa.toList=uO)(hs:aa.toList.length<=1000):FtT K x xs:=λH=>by
 rw[zl4_ h];exact .inr ⟨_,aa,n,l,rfl,rfl,by rw[my]at hs;exact mN hs (by rw[sizeLine_eq];decide),zgV_ hv⟩
section
end
instance:Inhabited V:=⟨.non⟩
section
variable {K:Fgg}{x q:Str}{st:l8}{ps:List Str}{f:kR}{fd:mH}
theorem zjG_ {T:kR}{oc:aU}{od:Option kR}{aq:Array (Option aU)}{d0 d1 d2 d3 d4:aU}{n:Nat}(hp:ps.length=10)(F:FunD K T x q st f fd)(lT:K.lookup T=uM ⟨oc,od,.seq #[d0,d1,d2,d3,d4] n,aq⟩)
  (h:∀(kV doc pm:aU) (an:Option kR) (ae ct:aU) (u0 u1 u2 u3 u4:aU) (s:kF),(∃o,s.heap.get? T=uM o/\o.data=.seq #[d0,d1,d2,d3,d4] n)->BindsTo s (W.fnOf x q (defArgs st) (defBody st) (defScope st) (.ref T) kV doc pm an ae ct) ⟨[u0,u1,u2,u3,u4],[]⟩ (ps.zip [u0,u1,u2,u3,u4,d0,d1,d2,d3,d4])):
  Binds K fd ps [d0,d1,d2,d3,d4]:=by
 obtain⟨oc,od,kV,doc,pm,an,ae,ct,aq,rfl,lk,au⟩:=F.ex;intro s us hK hl;rw[hp,lC]at hl;have hl:us.length=5:=by simpa using hl
 match us,hl with
 |[u0,u1,u2,u3,u4],_=>exact h kV doc pm an ae ct u0 u1 u2 u3 u4 s ⟨_,hK _ _ lT,rfl⟩
end
section
variable {lt:Nat->Nat->Bool}{n:Nat}
def sl (lt:Nat->Nat->Bool)(a b:Nat):Prop:=lt b a=uP/\(lt a b=uO\/a<b)
theorem WOr.st (w:WOr lt){a b c:Nat}(h:lt a b=uO)(g:lt c b=uP):lt a c=uO:=by
 cases e:lt a c with
 |true=>rfl
 |false=>rw[w.tr g e]at h;cases h
theorem WOr.st' (w:WOr lt){a b c:Nat}(h:lt a b=uO)(g:lt a c=uP):lt c b=uO:=by
 cases e:lt c b with
 |true=>rfl
 |false=>rw[w.tr e g]at h;cases h
theorem WOr.sl (w:WOr lt){a b:Nat}(h:lt a b=uO):sl lt a b:=⟨w.asym h,.inl h⟩
def Rest (p:Array Nat)(n m:Nat):Prop:=∀i,m<=i->i<n->p.getD i 0=i
theorem zoK_ {p:Array Nat}(h:Pm p n){i j:Nat}(hi:i<n)(hj:j<n)(e:p.getD i 0=p.getD j 0):i=j:=by
 have hs:=zbe_ h;have nd:p.toList.Nodup:=h.nodup_iff.mpr rY;have e':∀k (hk:k<n),p.getD k 0=p.toList[k]'(by rw[my,hs];exact hk):=λk hk=>by simp[rE,hs,hk]
 rw[e' i hi,e' j hj]at e;exact(rR nd).mp e
theorem Rest.below {p:Array Nat}{m:Nat}(r:Rest p n m)(h:Pm p n){i:Nat}(hi:i<m)(hm:m<=n):p.getD i 0<m:=by
 have h1:=zgA_ h (show i<n by lia)
 cases Nat.lt_or_ge (p.getD i 0) m with
 |inl z=>exact z
 |inr z=>
  have:=r _ z h1;have:=zoK_ h (by lia) h1 this.symm
  lia
theorem Rest.mono {p:Array Nat}{m k:Nat}(r:Rest p n m)(h:m<=k):Rest p n k:=λi hi=>r i (by lia)
theorem Rest.rev {p:Array Nat}{m i j:Nat}(r:Rest p n m)(hp:Pm p n)(hj:j<=m)(hm:m<=n):Rest (kas_rev p i j) n m:=λk hk hn=>by
 have hs:=zbe_ hp;rw[zb5_ (by lia),if_neg (by lia)];exact r k hk hn
def As (lt:Nat->Nat->Bool)(p:Array Nat)(k:Nat):Prop:=∀i j,i<j->j<k->sl lt (p.getD i 0) (p.getD j 0)
def Ds (lt:Nat->Nat->Bool)(p:Array Nat)(k:Nat):Prop:=∀i j,i<j->j<k->sl lt (p.getD j 0) (p.getD i 0)
theorem zfp_ (w:WOr lt){p:Array Nat}(hp:Pm p n):∀(f m:Nat),1<=m->m+f<=n->As lt p m->Rest p n m->okT lt n (kas_asc p f m) (λr=>m<=r/\r<=m+f/\As lt p r/\(r<m+f->lt (p.getD r 0) (p.getD (r-1) 0)=uO))
 |0,m,h1,hm,ha,hr=>⟨kP _,kP _,ha,λh=>absurd h (oh _)⟩
 |f+1,m,h1,hm,ha,hr=>by
  refine⟨zgA_ hp (by lia),zgA_ hp (by lia),?_⟩
  show okT lt n (if lt (p.getD m 0) (p.getD (m-1) 0)=uO then KasT.ret m else kas_asc p f (m+1)) _
  cases h:lt (p.getD m 0) (p.getD (m-1) 0)with
  |true=>rw[if_pos rfl];exact⟨kP _,by lia,ha,λ_=>h⟩
  |false=>
   rw[if_neg (by decide)]
   refine zaO_ (λr q=>⟨by lia,by lia,q.2.2.1,λz=>q.2.2.2 (by lia)⟩) _ (zfp_ w hp f (m+1) (by lia) (by lia) (λi j aE hj=>?_) (hr.mono (by lia)))
   by_cases e:j<m
   ·exact ha i j aE e
   ·obtain rfl:j=m:=by lia
    have l:=hr.below hp aE (by lia)
    refine⟨?_,.inr (by rw[hr j (kP _) (by lia)];exact l)⟩
    by_cases e2:i=j-1
    ·rw[e2];exact h
    ·exact w.tr (ha i (j-1) (by lia) (by lia)).1 h
structure Dwn (lt:Nat->Nat->Bool)(n:Nat)(p:Array Nat)(m q:Nat):Prop where
 pm:Pm p n
 hq:q+1<=m
 hm:m<=n
 rest:Rest p n m
 a:∀i j,i<j->j<m-(q+1)->sl lt (p.getD j 0) (p.getD i 0)
 b:∀i j,i<m-(q+1)->m-(q+1)<=j->j<m->lt (p.getD j 0) (p.getD i 0)=uO
 c:∀i j,m-(q+1)<=i->i<j->j<m->p.getD i 0<p.getD j 0
 d:∀i j,m-(q+1)<=i->i<m->m-(q+1)<=j->j<m->lt (p.getD i 0) (p.getD j 0)=uP
theorem Dwn.ds0 (w:WOr lt){p:Array Nat}{m:Nat}(d:Dwn lt n p m 0):Ds lt p m:=λi j aE hj=>by
 by_cases e:j<m-1
 ·exact d.a i j aE e
 ·exact w.sl (d.b i j (by lia) (by lia) hj)
theorem Dwn.ds (w:WOr lt){p:Array Nat}{m q:Nat}(d:Dwn lt n p m q):Ds lt (kas_rev p (m-(q+1)) m) m:=λi j aE hj=>by
 have hs:=zbe_ d.pm;have hq:=d.hq;have hm:=d.hm;rw[zb5_ (by lia),zb5_ (by lia)]
 by_cases a:m-(q+1)<=i
 ·rw[if_pos ⟨by lia,hj⟩,if_pos ⟨a,by lia⟩]
  exact⟨d.d _ _ (by lia) (by lia) (by lia) (by lia),.inr (d.c _ _ (by lia) (by lia) (by lia))⟩
 ·rw[if_neg (λz:m-(q+1)<=i/\_=>a z.1)]
  by_cases b:m-(q+1)<=j
  ·rw[if_pos ⟨b,hj⟩];exact w.sl (d.b _ _ (by lia) (by lia) (by lia))
  ·rw[if_neg (λz=>b z.1)];exact d.a _ _ aE (by lia)
theorem Dwn.next (w:WOr lt){p:Array Nat}{m:Nat}(hp:Pm p n)(hm:m+1<=n)(hr:Rest p n m)(h1:1<=m)(ds:Ds lt p m)(hl:∀i,i<m->lt (p.getD m 0) (p.getD i 0)=uO):Dwn lt n p (m+1) 0 where
 pm:=hp
 hq:=by lia
 hm:=hm
 rest:=hr.mono (by lia)
 a:=λi j aE hj=>ds i j aE (by lia)
 b:=λi j hi hj fK=>by
  obtain rfl:j=m:=by lia
  exact hl i (by lia)
 c:=λi j h1 h2 h3=>by lia
 d:=λi j h1 h2 h3 h4=>by
  obtain rfl:j=m:=by lia
  obtain rfl:i=j:=by lia
  exact w.refl _
theorem zcL_ (w:WOr lt):∀(f:Nat) (p:Array Nat) (m q:Nat),Dwn lt n p m q->m+f<=n->okT lt n (kas_desc f p m q) (λr=>Dwn lt n r.1 r.2.1 r.2.2)
 |0,p,m,q,d,hm=>d
 |f+1,p,m,q,d,hm=>by
  have hp:=d.pm;have hs:=zbe_ hp;have hq:=d.hq;have up:∀i,i<m->lt (p.getD (m-1) 0) (p.getD i 0)=uO\/(m-(q+1)<=i/\lt (p.getD (m-1) 0) (p.getD i 0)=uP/\lt (p.getD i 0) (p.getD (m-1) 0)=uP):=λi hi=>by
   by_cases e:m-(q+1)<=i
   ·exact .inr ⟨e,d.d _ _ (by lia) (by lia) e hi,d.d _ _ e hi (by lia) (by lia)⟩
   ·exact .inl (d.b _ _ (by lia) (by lia) (by lia))
  refine⟨zgA_ hp (by lia),zgA_ hp (by lia),?_⟩
  cases h:lt (p.getD m 0) (p.getD (m-1) 0)with
  |true=>
   dsimp only;rw[if_pos rfl];have hl:∀i,i<m->lt (p.getD m 0) (p.getD i 0)=uO:=λi hi=>by
    rcases up i hi with z |⟨_,z,z'⟩
    ·exact w.st h (w.asym z)
    ·exact w.st h z'
   by_cases hq0:q > 0
   ·rw[if_pos hq0]
    refine zcL_ w f _ (m+1) 0 (.next w (zgv_ hp _ _) (by lia) (d.rest.rev hp (kP _) (by lia)) (by lia) (d.ds w) λi hi=>?_) (by lia)
    rw[zb5_ (by lia),zb5_ (by lia),if_neg (by lia)]
    split
    ·exact hl _ (by lia)
    ·exact hl _ hi
   ·rw[if_neg hq0]
    obtain rfl:q=0:=by lia
    exact zcL_ w f p (m+1) 0 (.next w hp (by lia) d.rest (by lia) (d.ds0 w) hl) (by lia)
  |false=>
   dsimp only;rw[if_neg (by decide)]
   refine⟨zgA_ hp (by lia),zgA_ hp (by lia),?_⟩
   cases h2:lt (p.getD (m-1) 0) (p.getD m 0)with
   |true=>dsimp only;rw[if_pos rfl];exact d
   |false=>
    dsimp only;rw[if_neg (by decide)]
    have em:m+1-(q+1+1)=m-(q+1):=by lia
    refine zcL_ w f p (m+1) (q+1) ⟨hp,by lia,by lia,d.rest.mono (by lia),?_,?_,?_,?_⟩ (by lia)
    ·rw[em];exact d.a
    ·rw[em]
     intro i j hi hj fK;by_cases e:j<m
     ·exact d.b i j hi hj e
     ·obtain rfl:j=m:=by lia
      exact w.st' (d.b i (j-1) hi (by lia) (by lia)) h2
    ·rw[em]
     intro i j hi aE hj;by_cases e:j<m
     ·exact d.c i j hi aE e
     ·obtain rfl:j=m:=by lia
      rw[d.rest j (kP _) (by lia)]
      exact d.rest.below hp aE (by lia)
    ·rw[em]
     have al:∀i,m-(q+1)<=i->i<m+1->lt (p.getD i 0) (p.getD (m-1) 0)=uP/\lt (p.getD (m-1) 0) (p.getD i 0)=uP:=λi h1 aL=>by
      by_cases e:i<m
      ·exact⟨d.d _ _ h1 e (by lia) (by lia),d.d _ _ (by lia) (by lia) h1 e⟩
      ·obtain rfl:i=m:=by lia
       exact⟨h,h2⟩
     intro i j h1 h2 h3 h4;exact w.tr (al j h3 h4).2 (al i h1 h2).1
abbrev SGot (lt:Nat->Nat->Bool)(n:Nat)(r:Nat×Array Nat):Prop:=Pm r.2 n/\r.1<=n/\As lt r.2 r.1/\Rest r.2 n r.1
theorem zeU_ (w:WOr lt){p:Array Nat}{m:Nat}(hp:Pm p n)(h1:1<=m)(hm:m<=n)(hd:Ds lt p m)(hr:Rest p n m):okT lt n (kas_tail3 m n p) (SGot lt n):=by
 have hsz:=zbe_ hp;have c8:Rest (kas_rev p 0 m) n m:=hr.rev hp (kP _) hm;refine zbq_ _ (zaO_ (λr q=>?_) _ (zfp_ w (zgv_ hp 0 m) (n-m) m h1 (by lia) (λi j aE hj=>?_) c8))
 ·exact⟨zgv_ hp 0 m,by show r<=n;lia,q.2.2.1,c8.mono q.1⟩
 ·rw[zb5_ (by lia),zb5_ (by lia),if_pos (by lia),if_pos (by lia)]
  exact hd _ _ (by lia) (by lia)
theorem zb4_ (w:WOr lt){p:Array Nat}{m:Nat}(d:Dwn lt n p (m+1) 0):okT lt n (kas_descPart m n p) (SGot lt n):=by
 have:=d.hm;refine zbq_ _ (zaO_ (λr q=>?_) _ (zcL_ w (n-(m+1)) p (m+1) 0 d (by lia)))
 have h1:=q.hq;by_cases z:r.2.2 > 0
 ·rw[if_pos z]
  exact zeU_ w (zgv_ q.pm _ _) (by lia) q.hm (q.ds w) (q.rest.rev q.pm (kP _) q.hm)
 ·rw[if_neg z]
  obtain⟨p',m',q'⟩:=r;obtain rfl:q'=0:=by have:¬q' > 0:=z;lia
  exact zeU_ w q.pm (by have:0+1<=m':=h1;show 1<=m';lia) q.hm (q.ds0 w) q.rest
theorem zix_ (w:WOr lt){p:Array Nat}(hp:Pm p n)(hr:Rest p n 0)(hn:1<=n):okT lt n (kas_count n p) (SGot lt n):=by
 have hsz:=zbe_ hp;refine zbq_ _ (zaO_ (λm q=>?_) _ (zfp_ w hp (n-1) 1 (kP _) (by lia) (λi j aE hj=>by lia) (hr.mono (by lia))))
 obtain⟨q1,q2,q3,q4⟩:=q;have c8:=hr.mono (me m);by_cases e:m=n
 ·rw[if_pos (by simp[e])];exact⟨hp,by show m<=n;lia,q3,c8⟩
 ·rw [if_neg (by simp[e])]
  have hl:=q4 (by lia)
  by_cases z:m > 1
  ·rw[if_pos z]
   refine⟨zgA_ hp (by lia),zgA_ hp (by lia),?_⟩
   cases c:lt (p.getD 0 0) (p.getD (m-1) 0)with
   |true=>dsimp only;rw[if_pos rfl];exact⟨hp,by show m<=n;lia,q3,c8⟩
   |false=>
    dsimp only;rw[if_neg (by decide)]
    have dX:∀a b,a<=b->b<m->lt (p.getD b 0) (p.getD a 0)=uP:=λa b h1 h2=>by
     by_cases e:a=b
     ·rw[e];exact w.refl _
     ·exact(q3 a b (by lia) h2).1
    have bB:∀a b,a<m->b<m->lt (p.getD b 0) (p.getD a 0)=uP:=λa b ha hb=>w.tr (w.tr (dX a (m-1) (by lia) (by lia)) c) (dX 0 b (by lia) hb)
    refine zb4_ w (.next w (zgv_ hp 0 m) (by lia) (c8.rev hp (kP _) (by lia)) (by lia) (λi j aE hj=>?_) λi hi=>?_)
    ·rw[zb5_ (by lia),zb5_ (by lia),if_pos (by lia),if_pos (by lia)]
     refine⟨bB _ _ (by lia) (by lia),.inr ?_⟩
     rw[hr _ (me _) (by lia),hr _ (me _) (by lia)]
     lia
    ·rw[zb5_ (by lia),zb5_ (by lia),if_neg (by lia),if_pos (by lia)]
     exact w.st hl (bB _ _ (by lia) (by lia))
  ·rw[if_neg z]
   obtain rfl:m=1:=by lia
   refine zb4_ w (.next w hp (by lia) c8 (by lia) (λi j aE hj=>by lia) λi hi=>?_)
   obtain rfl:i=0:=by lia
   exact hl
theorem zcr_ (w:WOr lt){p:Array Nat}{k:Nat}(hp:Pm p n)(hk:k<n)(ha:As lt p k):∀(f l r:Nat),l<=r->r<=k->r-l<=f->(∀i,i<l->lt (p.getD k 0) (p.getD i 0)=uP)->(∀i,r<=i->i<k->lt (p.getD k 0) (p.getD i 0)=uO) ->
  okT lt n (kas_place p k f l r) (λm=>m<=k/\(∀i,i<m->lt (p.getD k 0) (p.getD i 0)=uP)/\∀i,m<=i->i<k->lt (p.getD k 0) (p.getD i 0)=uO)
 |0,l,r,h1,h2,h3,h4,h5=>⟨by show l<=k;lia,h4,λi a b=>h5 i (by lia) b⟩
 |f+1,l,r,h1,h2,h3,h4,h5=>by
  have dX:∀a b,a<=b->b<k->lt (p.getD b 0) (p.getD a 0)=uP:=λa b h1 h2=>by
   by_cases e:a=b
   ·rw[e];exact w.refl _
   ·exact(ha a b (by lia) h2).1
  unfold kas_place;by_cases e:l ≥ r
  ·rw[if_pos e];exact⟨by show l<=k;lia,h4,λi a b=>h5 i (by lia) b⟩
  ·rw[if_neg e]
   refine⟨zgA_ hp hk,zgA_ hp (by lia),?_⟩
   cases c:lt (p.getD k 0) (p.getD ((l+r) / 2) 0)with
   |true=>
    dsimp only;rw[if_pos rfl];refine zcr_ w hp hk ha f l ((l+r) / 2) (by lia) (by lia) (by lia) h4 λi a b=>?_
    exact w.st c (dX _ _ a b)
   |false=>
    dsimp only;rw[if_neg (by decide)]
    refine zcr_ w hp hk ha f ((l+r) / 2+1) r (by lia) h2 (by lia) (λi hi=>?_) h5
    exact w.tr (dX i ((l+r) / 2) (by lia) (by lia)) c
theorem ziz_ (w:WOr lt):∀(f:Nat) (p:Array Nat) (k:Nat),Pm p n->k+f=n->As lt p k->Rest p n k->okT lt n (kas_bin f p k) (λr=>Pm r n/\As lt r n)
 |0,p,k,hp,hk,ha,hr=>⟨hp,(show k=n by lia) ▸ ha⟩
 |f+1,p,k,hp,hk,ha,hr=>by
  have hsz:=zbe_ hp;refine zbq_ _ (zaO_ (λl q=>?_) _ (zcr_ w hp (by lia) ha k 0 k (by lia) (kP _) (by lia) (λi hi=>absurd hi (by lia)) λi a b=>absurd b (by lia)))
  obtain⟨q1,q2,q3⟩:=q;have hb:∀i,(bubble p k (k-l)).getD i 0=if i=l then p.getD k 0 else if l<i/\i<=k then p.getD (i-1) 0 else p.getD i 0:=λi=>by
   have:=getElem?_bubble (xs:=p) (src:=k) (by lia) (k-l) (by lia) i
   rw[show k-(k-l)=l by lia]at this
   split
   ·rename_i z;rw[if_pos z]at this;exact zat_ this
   ·rename_i z
    rw[if_neg z]at this;split
    ·rename_i y;rw[if_pos y]at this;exact zat_ this
    ·rename_i y;rw[if_neg y]at this;exact zat_ this
  refine ziz_ w f _ (k+1) ((pW.mp (bubble_perm p k _)).trans hp) (by lia) (λi j aE hj=>?_) λi hi eF=>?_
  ·rw [hb,hb]
   by_cases e1:i=l
   ·rw[if_pos e1,if_neg (by lia),if_pos (by lia)];exact w.sl (q3 _ (by lia) (by lia))
   ·rw[if_neg e1]
    by_cases e2:j=l
    ·rw[if_pos e2,if_neg (by lia)]
     refine⟨q2 _ (by lia),.inr ?_⟩
     rw[hr k (kP _) (by lia)]
     exact hr.below hp (by lia) (by lia)
    ·rw[if_neg e2]
     by_cases e3:l<i
     ·rw[if_pos (by lia),if_pos (by lia)];exact ha _ _ (by lia) (by lia)
     ·rw[if_neg (by lia)]
      by_cases e4:l<j
      ·rw[if_pos (by lia)];exact ha _ _ (by lia) (by lia)
      ·rw[if_neg (by lia)];exact ha _ _ aE (by lia)
  ·rw[hb,if_neg (by lia),if_neg (by lia)];exact hr i (by lia) eF
theorem zk2_ (w:WOr lt)(hn:1<=n):okT lt n (kas_sort n) (λr=>Pm r n/\As lt r n):=by
 have h0:Pm (rN (lK n)) n:=by simp[Pm]
 have hr:Rest (rN (lK n)) n 0:=λi _ hi=>by simp[rE,hi]
 refine zbq_ _ (zaO_ (λr q=>?_) _ (zix_ w h0 hr hn))
 obtain⟨q1,q2,q3,q4⟩:=q;by_cases e:r.1<n
 ·rw[if_pos e]
  refine ziz_ w _ _ _ q1 (by lia) ?_ (q4.mono (Nat.le_max_left _ _))
  by_cases e1:r.1=0
  ·rw[e1];exact λi j aE hj=>by lia
  ·rw[Nat.max_eq_left (by lia)];exact q3
 ·rw[if_neg e]
  obtain e:r.1=n:=by lia
  rw[e]at q3;exact⟨q1,q3⟩
end
def cxLam (X:Cx)(A:l9)(qual:Str)(scope:Scope)(cl:List (Str×kR))(f:kR)(ae:aU)(N:List Str)(s2:kF)(H2:Hp):Cx where
 prog:=X.prog
 w:=X.w
 K:=X.K
 mg:=X.mg
 base:=X.base
 A:=A.deeper (W.envX qual scope s2.heap.objs.size f ae cl)
 N:=N
 s₀:=s2
 H₀:=H2
 env:=W.envX qual scope s2.heap.objs.size f ae cl
 outer:=X.stack
 stack:=W.envX qual scope s2.heap.objs.size f ae cl::X.stack
 ex:=[]
 fn:=λ_=>uP
 calm:=uO
 pn:=[]
 xe:=λ_ _=>False
structure LScope (X:Cx)(scope:Scope)(cl:List (Str×kR))(p:Str)(fr:List (Str×Nat)):Prop where
 clos:closeL X.env.cells scope.names []=uM cl
 cell:∀y∈scope.names,y.2≠.cell
 kind:scope.kind=.function
 co:scope.isCoroutine=uP
 gen:scope.isGenerator=uP
 loc:scope.names.lookup p=uM .local
 fr:∀q∈fr,X.N[q.2]?=uM q.1/\scope.names.lookup q.1=uM .free/\(X.env.kindOf q.1=uM .cell\/X.env.kindOf q.1=uM .free)
def lS (fr:List (Str×Nat))(σ:St):St:=fr.map λq=>(σ[q.2]?).join
section
variable {X:Cx}{pins:Pnn}{σ:St}{H:Hp}{s:kF}{A:l9}{scope:Scope}{cl:List (Str×kR)}{p:Str}{fr:List (Str×Nat)}{qual name:Str}{f c':kR}{ae pm aF:aU}{params:Arguments}{body:lq}{x:V}{u:aU}{te:TE}
theorem zl1_ {h1:Heap}{tk:Nat}(I:Inv X pins σ H s)(S:LScope X scope cl p fr)(hA:A.frames=uM X.stack)(hh:A.handled=uN)(rx:RelV x u)
  (cM:h1.Ns s.heap.objs.size (λy=>[(p,u)].reverse.lookup y)) (hk:∀b o,s.heap.get? b=uM o->h1.get? b=uM o):
  Inv (cxLam X A qual scope cl f ae (p::fr.map (·.1)) s H) [] (uM x::lS fr σ) H {s with heap:=h1,toks:=tk}:=by
 have aS:=zap_ scope.names [] cl S.clos (λx c e=>by cases e)
 have bV:=z5_ scope.names [] cl S.clos;have cu:∀b:kR,b∉(cxLam X A qual scope cl f ae (p::fr.map (·.1)) s H).ex:=λb z=>absurd (show b∈([]:List kR)from z) (by simp)
 refine⟨⟨I.ok.mod,S.kind,rfl,rfl,kP _,λy z c h1 h2=>I.ok.inj y z c (aS y c h1) (aS z c h2),λy hy=>?_,λy c di=>(by cases di),λ_=>hh,Around.frames_deeper hA,.inr ⟨rfl,rfl⟩,λb z=>absurd z (cu b),I.bs,mN I.ok.bsz I.sz,λb _ _=>cu b,λb z=>absurd z (cu b),I.stack,I.stkFree,I.tb⟩,
  rfl,I.bare,Un.kept hk,⟨_,cM,λi y v h1 h2 h3=>?_⟩,λy c e=>?_,I.hok.fresh (kP _),λy c e=>I.freeC y c (aS y c e),λp hp=>absurd (show p∈([]:Pnn)from hp) (by simp),I.hok.kept hk,?_⟩
 ·rcases(show scope.names.lookup y=uM .cell\/scope.names.lookup y=uM .free from hy)with z |z
  ·exact absurd rfl (S.cell _ (mi z))
  ·exact bV y (.inl (mi z))
 ·cases i with
  |zero=>
   have e1:p=y:=lP h1;have e2:x=v:=lP (lP h2);subst e1 e2;exact⟨u,rx,.inl ⟨S.loc,by simp⟩⟩
  |succ i=>
   have h1':(fr.map (·.1))[i]?=uM y:=h1;have aL:(fr.map λq=>(σ[q.2]?).join)[i]?=uM (uM v):=h2
   rw[kZ]at h1' aL;cases hq:fr[i]? with
   |none=>rw[hq]at h1';cases h1'
   |some q=>
    rw[hq]at h1' aL;have e1:q.1=y:=lP h1';have e2:(σ[q.2]?).join=uM v:=lP aL;have e3:σ[q.2]?=uM (uM v):=by
     cases hz:σ[q.2]? with
     |none=>rw[hz]at e2;cases e2
     |some z=>rw[hz]at e2;exact congrArg uM e2
    obtain⟨g1,g2,g3⟩:=S.fr q (mU hq);obtain⟨m0,hn0,de⟩:=I.loc;have fS:Vis X.env.scope q.1:=by
     rcases g3 with g3 |g3
     ·exact .inr (.inl g3)
     ·exact .inr (.inr g3)
    obtain⟨u,r,l⟩:=de q.2 q.1 v g1 e3 fS;refine⟨u,r,.inr ⟨.inr (by rw[<- e1];exact g2),?_⟩⟩
    rcases l with⟨lk,_⟩|⟨_,c,ec,ic⟩
    ·rcases g3 with g3 |g3<;>(rw[lk]at g3;cases g3)
    ·obtain⟨c',ec'⟩:=bV q.1 (.inl (mi g2))
     have:c'=c:=by
      have:=aS q.1 c' ec';rw[ec]at this;exact(lP this).symm
     subst this;obtain⟨o,ho,hd⟩:=ic;exact⟨c',by rw[<- e1];exact ec',o,hk _ _ ho,hd⟩
 ·obtain⟨v,o,ho,hd⟩:=I.cell y c (aS y c e)
  exact⟨v,o,hk _ _ ho,hd⟩
 ·show _=(p::fr.map (·.1)).length
  unfold lS;simp
def LEnd (X:Cx)(H:Hp)(s:kF)(Q:VK)(ku:aU)(s':kF):Prop:=∃k H',s'.os=s.os/\AllBare s'.gens/\Un (frs X.stack) [] H H' s.heap s'.heap/\HOk X.prog X.w H' s'.heap/\RelV k ku/\Q k H'
theorem zjU_ {Q:VK}(I:Inv X pins σ H s)(S:LScope X scope cl p fr)(hA:A.frames=uM X.stack)(hh:A.handled=uN)(aI:A.depth<recursionLimit)
  {o:tF}(ho:s.heap.get? f=uM o) (c_:o.data=.func (pY name qual params body scope cl pm (.ref c') aF)) (au:s.heap.CodeRec (.ref c') qual)
  (hb:bindArgs (pY name qual params body scope cl pm (.ref c') aF) ⟨[u],[]⟩=pure [(p,u)]) (rx:RelV x u)
  (he:∀f ae s2 H2,PE (cxLam X A qual scope cl f ae (p::fr.map (·.1)) s2 H2) body te) (q:te (uM x::lS fr σ) H Q):
  lJ (model X.prog X.w) A (call (.ref f) [u]) (LEnd X H s Q) (λ_ _=>False) s:=by
 refine wpAny_call (W.kla_callFunE aI ho c_ S.co S.gen rfl au ?_);rw[hb];refine lE (wpAny_newFunctionEnv S.cell (λy hy=>?_) (λaC cM jl=>?_) S.kind)
 ·have e:y=(p,u):=by simpa using hy
  subst e;exact S.loc
 ·have hk:∀b o,s.heap.get? b=uM o->aC.get? b=uM o:=λb o e=>jl.extBut b o (lI (k8 e)) (kH _ e)
  refine⟨I.nolimit.keeps hk,W.kla_codeExpr ?_⟩;have J:Inv (cxLam X A qual scope cl f (.ref c') (p::fr.map (·.1)) s H) [] (uM x::lS fr σ) H {s with heap:=aC,toks:=s.toks+[(p,u)].length}:=zl1_ I S hA hh rx cM hk;exact mM (he f (.ref c') s H [] _ _ H Q J q) (λv s' ⟨k,H',J',r,q'⟩=>⟨k,H',J'.os,J'.bare,J'.base,J'.hok,r,q'⟩) λ_ _ z=>z.elim
end
def KeysAt (K:Fgg)(H:Hp):List V->List (List Int)->Prop:=Paired λk ns=>∃a,k=.ref a/\SqL K H a (ns.map V.int)
abbrev ltKs (ak:List (List Int))(i j:Nat):Bool:=HT.lexLt (ak.getD i []) (ak.getD j [])
def SrtS (lt:Nat->Nat->Bool)(n:Nat)(p:List Nat):Prop:=p.Perm (lK n)/\p.Pairwise (sl lt)
def mSrt (K:Fgg)(xs:List V)(b:V)(H:Hp)(Q:VK):Prop:=
 ∃kS ks ak,b=.ref kS/\H kS=uM (.lst ks)/\ks.length=xs.length/\KeysAt K H ks ak /\
  ∀idx,SrtS (ltKs ak) xs.length idx->∀l,H l=uN->Q (.ref l) (upd (upd H kS (.lst [])) l (.lst (idx.map λi=>xs.getD i .non)))
def LamUp (H H2:Hp):Prop:=H2=H\/∃c o,H c=uN/\H2=upd H c o
def tSrt (K:Fgg)(fr:List (Str×Nat))(i:Nat)(te:TE):TE:=λσ H Q=>∃p xs,σ[i]?=uM (uM (.ref p))/\SqL K H p xs/\xs.length<64 /\
 ∀H2,LamUp H H2->tCompR (Itp xs.length λj=>xs.getD j .non) (gName 0) tTrue te (uN::lS fr σ) H2 λb H3=>mSrt K xs b H3 Q
theorem zgU_:∀{a b:List Int},HT.lexLt a b=uO->HT.lexLt b a=uP
 |[],[],h=>by cases h
 |[],_::_,_=>rfl
 |_::_,[],h=>by cases h
 |x::a,y::b,h=>by
  rw[HT.lexLt_cons]at h ⊢;by_cases e:x=y
  ·rw[if_pos e]at h;rw[if_pos e.symm];exact zgU_ h
  ·rw[if_neg e]at h;rw[if_neg (pb e)]
   have:=of_decide_eq_true h;exact decide_eq_false (by lia)
theorem zlX_:∀{a b c:List Int},HT.lexLt b a=uP->HT.lexLt c b=uP->HT.lexLt c a=uP
 |[],_,[],_,_=>rfl
 |[],_,_::_,_,_=>rfl
 |_::_,[],_,h,_=>by cases h
 |_::_,_::_,[],_,g=>by cases g
 |x::a,y::b,z::c,h,g=>by
  rw[HT.lexLt_cons]at h g ⊢;by_cases e:y=x
  ·rw[if_pos e]at h
   by_cases e2:z=y
   ·rw[if_pos e2]at g;rw[if_pos (e2.trans e)];exact zlX_ h g
   ·rw[if_neg e2]at g;rw[if_neg (λz'=>e2 (z'.trans e.symm))];rw[<- e];exact g
  ·rw[if_neg e]at h
   have h':=of_decide_eq_false h;by_cases e2:z=y
   ·rw[if_neg (λz'=>e (e2.symm.trans z'))];rw[e2];exact h
   ·rw[if_neg e2]at g
    have g':=of_decide_eq_false g;rw[if_neg (by lia)];exact decide_eq_false (by lia)
theorem zfN_ (ak:List (List Int)):WOr (ltKs ak):=⟨λh=>zgU_ h,λh g=>zlX_ h g⟩
def cdB (K:Fgg)(c P:kR):Bool:=match K.lookup c with
 |some ⟨.type T,_,.fields vs,_⟩=>T=="code" && vs[11]?==uM (.ref P) && (match vs.getD 18 .none,vs.getD 7 .none,vs.getD 9 .none,vs.getD 10 .none with |.str _ _,.int _ _,.bool _,.int _ _=>uO |_,_,_,_=>uP) && c != P
 |_=>uP
theorem cd_hd {K:Fgg}{h:Heap}{c P:kR}(X:K.In h)(e:cdB K c P=uO):CodeHd h c P:=by
 unfold cdB at e;split at e
 ·rename_i T od vs sl lk
  simp only[ky]at e;obtain⟨⟨⟨e1,e2⟩,e3⟩,e4⟩:=e;have e2:vs[11]?=uM (.ref P):=eq_of_beq e2;split at e3
  ·rename_i z1 z2 z3 z4
   exact⟨_,vs,_,_,_,_,_,_,_,X _ _ lk,by rw[eq_of_beq e1],rfl,e2,by rw[mW,e2];rfl,z1,z2,z3,z4,bne_iff_ne.mp e4⟩
  ·cases e3
 ·cases e
section
variable {X:Cx}{pins:Pnn}{σ:St}{H:Hp}{s:kF}{scope:Scope}{cl:List (Str×kR)}{p:Str}{fr:List (Str×Nat)}{qual name:Str}{f c':kR}{ae pm aF:aU}{params:Arguments}{body:lq}{x:V}{u:aU}{te:TE}{xs:List V}
theorem zgQ_ {K:Fgg}:∀{ks:List V}{ak:List (List Int)},KeysAt K H ks ak->∀i,i<ks.length->∃a,ks.getD i .non=.ref a/\SqL K H a ((ak.getD i []).map V.int)
 |_,_,.nil,i,h=>by simp at h
 |_,_,.cons q_ r,0,h=>by obtain⟨a,e,q⟩:=q_;exact⟨a,e,q⟩
 |_,_,.cons _ r,i+1,h=>zgQ_ r i (by simpa using h)
theorem zny_ {A:l9}{E:aU->kF->Prop}{l b:kR}{items ah:Array aU}{ns ms:List Int}{Q:Bool->kF->Prop}(hl:s.heap.IsList l items)(hb:s.heap.IsList b ah)(hi:IntsAre items.toList ns)(hj:IntsAre ah.toList ms)
  (hu:A.units<cLine) (h:Q (HT.lexLt ns ms) s):lJ (model X.prog X.w) A (oneLt' uO (.ref l) (.ref b)) Q E s:=by
 obtain⟨⟨cls,dd,data,sl⟩,ho,hc,n,hd⟩:=id hl;obtain⟨⟨fc,bY,data2,bJ⟩,bx,a7,n2,hd2⟩:=id hb;simp only at hc hd a7 hd2;subst hc hd a7 hd2;rw[oneLt'_eq];simp only[if_true];refine kJ (wpAny_cRoomFor hu ?_);refine kJ (wpAny_callSpecialIfBound?_slot ⟨_,ho,rfl⟩ pM (call_meets pM ⟨_,ho,rfl⟩ qJ (qC _ _) (zbJ_ l b items ah n n2 dd bY sl bJ ns ms hi hj) ⟨ho,bx,?_⟩));exact lZ h
theorem Un.lay {fs ex:List kR}{H H1:Hp}{h h1 h2:Heap}{a:kR}{o:HO}(u:Un fs ex H H1 h h1)(ha:h.objs.size<=a)(hn:H a=uN)(k:∀b o,b≠a->h1.get? b=uM o->h2.get? b=uM o):Un fs ex H (upd H1 a o) h h2 where
 keep:=λb ob q n hb hx=>k b ob (lI (lH (k8 q) ha)) (u.keep b ob q n hb hx)
 slot:=λb ob q n hb hx=>let⟨sl,e⟩:=u.slot b ob q n hb hx;⟨sl,k b _ (lI (lH (k8 q) ha)) e⟩
 free:=λb ob q n hx=>by rw[zc_ (lI (lH (k8 q) ha))];exact u.free b ob q n hx
 there:=λb ob q hx=>let⟨o',e⟩:=u.there b ob q hx;⟨o',k b _ (lI (lH (k8 q) ha)) e⟩
 tups:=λb xs q=>by rw[zc_ (zd_ q hn)];exact u.tups b xs q
 frzs:=λb ob v q=>by rw[zc_ (zd_ q hn)];exact u.frzs b ob v q
 tbls:=λb p' q' q=>by rw[zc_ (zd_ q hn)];exact u.tbls b p' q' q
theorem HOk.lay {P:lN}{w:l7}{H:Hp}{h h':Heap}{a:kR}{o:HO}(x:HOk P w H h)(hn:H a=uN)(k:∀b u,b≠a->h.get? b=uM u->h'.get? b=uM u)(new:ObjOk P w (upd H a o) h' a o):HOk P w (upd H a o) h':=λb u e=>by
 by_cases hb:b=a
 ·subst hb;rw[ze_]at e;cases e;exact new
 ·rw[zc_ hb]at e
  refine(x b u e).stay (λc v hc q=>k c v ?_ q) (λc q=>by rw[zc_ (zd_ q hn)];exact q) (λc xs q=>by rw[zc_ (zd_ q hn)];exact q) λc ob q=>by rw[zc_ (zd_ q hn)];exact q
  rcases hc with rfl |hc
  ·exact hb
  ·exact zd_ hc hn
theorem zmA_ {lt:Nat->Nat->Bool}{n:Nat}{p:Array Nat}(h:Pm p n/\As lt p n):SrtS lt n p.toList:=by
 refine⟨h.1,mG.mpr λi j hi hj aE=>?_⟩
 have hs:=zbe_ h.1;rw[my]at hi hj;have:=h.2 i j aE (by lia)
 have e:∀k (hk:k<p.size),p.getD k 0=p.toList[k]'(by simpa using hk):=λk hk=>by simp[rE,hk]
 rwa[e i hi,e j hj]at this
theorem zfJ_ {Q:VK}{o oc:tF}{P D:kR}{a9:Array aU}{ct:Tok}{vs:List aU}{hA:Heap}{E:aU->kF->Prop}(I:Inv X pins σ H s)(S:LScope X scope cl p fr)(hh:X.A.handled=uN)(aI:X.A.depth<recursionLimit)(hu:X.A.units+10<cLine)
  (ho:s.heap.get? f=uM o) (c_:o.data=.func (sY name qual params body scope cl pm (.ref c') aF)) (hf:H f=uN) (aB:H c'=uM (.frz oc (.own P))) (au:oc.data=.fields a9) (cP:a9[1]?=uM (.str qual ct))
  (hb:∀u,bindArgs (sY name qual params body scope cl pm (.ref c') aF) ⟨[u],[]⟩=pure [(p,u)])
  (he:∀f ae s2 H2,PE (cxLam X X.A.in1.in1 qual scope cl f ae (p::fr.map (·.1)) s2 H2) body te)
  (rv:Vals xs vs) (cR:xs.length<64) (dY:∀b o,s.heap.get? b=uM o->hA.get? b=uM o) (hD:hA.get? D=uM (seqObj "list" vs.toArray 0)) (fM:s.heap.objs.size<=D)
  (q:tCompR (Itp xs.length λj=>xs.getD j .non) (gName 0) tTrue te (uN::lS fr σ) H λb H3=>mSrt X.K xs b H3 Q):
  lJ (model X.prog X.w) X.A.in1.in1 (ksk_tree D (.ref f) uP) (λfin s'=>fin=.done (.ret .none)/\∃H',Inv X pins σ H' s'/\Q (.ref D) H') E {s with heap:=hA}:=by
 have hlen:=rv.length;have kr:s.heap.objs.size<=hA.objs.size:=mN fM (oB (k8 hD));have s1:=o8 hA D (lO λ_=>(#[]:Array aU))
 obtain⟨e1,ho1⟩:∃e1,(hA.update D (lO λ_=>(#[]:Array aU))).get? D=uM (seqObj "list" #[] e1):=⟨_,get?_update_seq hD λ_=>#[]⟩
 have nD:∀b o,s.heap.get? b=uM o->b≠D:=λb o e=>lI (lH (k8 e) fM)
 unfold ksk_tree;refine kJ (listItems_at hD rfl ?_);refine kJ (listUpdate_at hD rfl ?_ (by rw[kQ,sizeLine_eq];lia) (me _))
 refine kJ (seqEpoch_at (s:={s with heap:=hA.update D (lO λ_=>(#[]:Array aU))}) ho1 rfl ?_)
 refine kJ (wpAny_newTuple ?_ (by show vs.length<=_;rw[sizeLine_eq];lia))
 refine kJ (wpAny_newList ?_ (me _));refine wpAny_holding ?_;have dH:((hA.update D (lO λ_=>(#[]:Array aU))).push (seqObj "tuple" vs.toArray 0)).objs.size=hA.objs.size+1:=by rw[size_push',r9]
 show lJ (model X.prog X.w) X.A.in1.in1 (ksk_rest D (.ref f) uP vs.toArray e1 (.ref ((hA.update D (lO λ_=>(#[]:Array aU))).push (seqObj "tuple" vs.toArray 0)).objs.size)) _ E {s with heap:=((hA.update D (lO λ_=>(#[]:Array aU))).push (seqObj "tuple" vs.toArray 0)).push (seqObj "list" #[] 0)}
 have bp:(((hA.update D (lO λ_=>(#[]:Array aU))).push (seqObj "tuple" vs.toArray 0)).push (seqObj "list" #[] 0)).get? ((hA.update D (lO λ_=>(#[]:Array aU))).push (seqObj "tuple" vs.toArray 0)).objs.size=uM (seqObj "list" #[] 0):=lG _ rfl
 have bg:∀b o,s.heap.get? b=uM o->(((hA.update D (lO λ_=>(#[]:Array aU))).push (seqObj "tuple" vs.toArray 0)).push (seqObj "list" #[] 0)).get? b=uM o:=λb o e=>kH _ (kH _ ((s1.2 b (nD b o e)).trans (dY b o e)))
 have e9:(((hA.update D (lO λ_=>(#[]:Array aU))).push (seqObj "tuple" vs.toArray 0)).push (seqObj "list" #[] 0)).get? D=uM (seqObj "list" #[] e1):=kH _ (kH _ ho1)
 rw[dH]at bp ⊢
 generalize kn:((hA.update D (lO λ_=>(#[]:Array aU))).push (seqObj "tuple" vs.toArray 0)).push (seqObj "list" #[] 0)=h2 at bp bg e9 ⊢
 have fO:D≠hA.objs.size+1:=lI (oN (k8 hD));have cF:s.heap.objs.size<=hA.objs.size+1:=by lia
 generalize hA.objs.size+1=kS at bp fO cF ⊢
 have fJ:H kS=uN:=I.hok.fresh cF;have fN:H D=uN:=I.hok.fresh fM;have I2:Inv X pins σ (upd H kS (.lst [])) {s with heap:=h2}:=I.laid (t':=s.toks) bg cF ⟨me _,[],0,.nil,bp⟩;obtain⟨W,⟨m0,w0⟩,turn⟩:=q kS fJ;have iZ:f≠kS:=lI (lH (k8 ho) cF);have bx:h2.get? f=uM o:=bg _ _ ho;have jE:upd H kS (.lst []) f=uN:=by rw[zc_ iZ];exact hf
 have a7:upd H kS (.lst []) c'=uM (.frz oc (.own P)):=by rw[zc_ (zd_ aB fJ)];exact aB
 have eZ:upd H kS (.lst []) D=uN:=by rw[zc_ fO];exact fN
 have jR:D∉frs X.stack:=λz=>by
  have:=(I.stack.mem z);obtain⟨_,o',e',_⟩:=this;exact nD _ _ e' rfl
 unfold ksk_rest;refine kJ (wpAny_rule ?_)
 first
  |rw[List.forIn_toArray]
  |(rw[<- Array.forIn_toList];simp only[List.toList_toArray])
 refine kJ (ksk_fold (λj s'=>∃H' ys m τ,s'.os=s.os/\AllBare s'.gens/\Un (frs X.stack) [] (upd H kS (.lst [])) H' h2 s'.heap/\HOk X.prog X.w H' s'.heap/\W j m ys (τ::lS fr σ) H') vs 0 {s with heap:=h2}
  ⟨_,[],m0,uN,rfl,I2.bare,Un.refl,I2.hok,w0⟩ ?step ?done)
 case step=>
  rintro j v s' hx ⟨H',ys,m,τ,os,bare,un,hok,w1⟩;simp only[rO]at w1 ⊢;have hj:j<vs.length:=(lB.mp hx).1;have J:Inv X pins σ H' s':=I2.call' (s':=s') os un hok bare (λb z=>absurd z (by simp))
  rcases turn j m ys _ H' w1 with⟨st,_⟩|⟨go,N,hN,step⟩
  ·exact absurd (show xs.length<=j from st) (by lia)
  ·obtain⟨xv,ev,rx⟩:∃xv,xs.getD j .non=xv/\RelV xv v:=by
    have fK:j<xs.length:=by lia
    obtain⟨u,e1,e2⟩:=rv.get (kz fK);rw[hx]at e1;cases e1;exact⟨_,rfl,by rw[kY,kz fK];exact e2⟩
   have dN:=step xv H' ⟨rfl,ev.symm⟩;have q1:te (uM xv::lS fr σ) H' λk H4=>H4 kS=uM (.lst ys)/\ys.length<lg/\N (ys++[k]) (uM xv::lS fr σ) (upd H4 kS (.lst (ys++[k]))):=by
    have z:=dN;simp only[gName,tTrue,oG,if_true]at z;exact z
   obtain⟨sl,aJ⟩:=un.any bx jE (by simp)
   have jI:s'.heap.CodeRec (.ref c') qual:=by
    obtain⟨e',_⟩:=hok c' _ (un.frzs _ _ _ a7);exact⟨c',oc,a9,ct,rfl,e',au,cP⟩
   refine kJ (wpAny_attempt (mM (zjU_ (A:=X.A.in1.in1) J S J.ok.frames hh aI aJ c_ jI (hb v) rx he q1) (λku s4 jF=>?_) λ_ _ hF=>hF.elim))
   obtain⟨k,H4,os4,bare4,un4,hok4,rk,hk4,hl4,n4⟩:=jF;dsimp only;obtain⟨z,aa,n,ri,ek⟩:=hok4 kS _ hk4;have sb:=o8 s4.heap kS (lO (·.push ku));obtain⟨c2,hc2'⟩:∃c2,(s4.heap.update kS (lO (·.push ku))).get? kS=uM (seqObj "list" (aa.toArray.push ku) c2):=⟨_,get?_update_seq (c:="list") ek (·.push ku)⟩;have kp:∀b u,b≠kS->s4.heap.get? b=uM u->(s4.heap.update kS (lO (·.push ku))).get? b=uM u:=λb u hb e=>(sb.2 b hb).trans e
   have hil:aa.toArray.size=ys.length:=by rw[kQ,ri.length]
   refine kJ (listUpdate_at ek rfl ?_ (by rw[hil];lia) (by show(aa.toArray.push ku).size<=_;rw[Array.size_push,hil];lia))
   obtain⟨m',hm',w'⟩:=hN _ _ _ n4;have mu:Mut (H4 kS):=by rw[hk4];exact mP
   refine lE ⟨rfl,_,_,m',uM xv,os4.trans os,bare4,un.trans (un4.trans (Un.write mu (.inl rfl) kp ⟨_,hc2'⟩)),?_,w'⟩;refine hok4.write mu (.inl rfl) kp ⟨_,hc2'⟩ ⟨by rw[lC,nQ];lia,aa++[ku],c2,ri.append (.cons rk .nil),?_⟩
   rw[hc2'];simp
 case done=>
  rintro s' ⟨H',ys,m,τ,os,bare,un,hok,w1⟩;rw[rO]at w1;rcases turn _ m ys _ H' w1 with⟨_,kS',ks,ak,ekS,hk,iD,hka,fin⟩|⟨go,_⟩
  rotate_left
  ·exact absurd (show vs.length<xs.length from go) (by lia)
  cases ekS;obtain⟨z,aa,n,ri,ek⟩:=hok kS _ hk;have hil:aa.length=vs.length:=by rw[<- ri.length];lia
  have cQ:s'.heap.get? D=uM (seqObj "list" #[] e1):=un.keep _ _ e9 eZ jR (by simp)
  refine kJ (listItems_at ek rfl ?_)
  have tl:∀(st:SortSt) (idx:List Nat),(arrOf st).map (·.2)=(idx.map λi=>vs.getD i mY).toArray->failedOf st=uN->SrtS (ltKs ak) xs.length idx ->
    lJ (model X.prog X.w) X.A.in1.in1 (ksk_tail D uP e1 (.ref kS) st) (λfin s'=>fin=.done (.ret .none)/\∃H',Inv X pins σ H' s'/\Q (.ref D) H') E s':=by
   intro st idx gT gJ bA;have fL:∀j∈idx,j<xs.length:=λj hj=>l4.mp (bA.1.mem_iff.mp hj)
   have iy:idx.length=xs.length:=by rw[bA.1.length_eq,mf]
   have sk:=o8 s'.heap kS (lO λ_=>(#[]:Array aU))
   obtain⟨c2,hk2⟩:∃c2,(s'.heap.update kS (lO λ_=>(#[]:Array aU))).get? kS=uM (seqObj "list" #[] c2):=⟨_,get?_update_seq (c:="list") ek λ_=>#[]⟩
   have dI:(s'.heap.update kS (lO λ_=>(#[]:Array aU))).get? D=uM (seqObj "list" #[] e1):=(sk.2 D fO).trans cQ
   unfold ksk_tail;dsimp only;rw[gT,gJ];refine kJ (listUpdate_at ek rfl ?_ (by rw[kQ,hil,sizeLine_eq];lia) (me _))
   refine kJ (wpAny_letGo ?_);refine kJ (seqEpoch_at (s:={s' with heap:=s'.heap.update kS (lO λ_=>(#[]:Array aU))}) dI rfl ?_)
   refine kJ (listUpdate_at (s:={s' with heap:=s'.heap.update kS (lO λ_=>(#[]:Array aU))}) dI rfl ?_ (me _) (by
    simp only[pZ,if_false,kQ,kE];rw[iy,sizeLine_eq];lia))
   simp only[bne_self_eq_false,pZ,if_false];have sd:=o8 (s'.heap.update kS (lO λ_=>(#[]:Array aU))) D (lO λ_=>(idx.map λi=>vs.getD i mY).toArray)
   obtain⟨c3,hd2⟩:∃c3,((s'.heap.update kS (lO λ_=>(#[]:Array aU))).update D (lO λ_=>(idx.map λi=>vs.getD i mY).toArray)).get? D=uM (seqObj "list" (idx.map λi=>vs.getD i mY).toArray c3):=⟨_,get?_update_seq dI λ_=>(idx.map λi=>vs.getD i mY).toArray⟩
   have mu:Mut (H' kS):=by rw[hk];exact mP
   have k1:∀b u,b≠kS->s'.heap.get? b=uM u->(s'.heap.update kS (lO λ_=>(#[]:Array aU))).get? b=uM u:=λb u hb e=>(sk.2 b hb).trans e
   have k2:∀b u,b≠D->(s'.heap.update kS (lO λ_=>(#[]:Array aU))).get? b=uM u->((s'.heap.update kS (lO λ_=>(#[]:Array aU))).update D (lO λ_=>(idx.map λi=>vs.getD i mY).toArray)).get? b=uM u:=λb u hb e=>(sd.2 b hb).trans e
   have eW:H' D=uN:=un.free _ _ e9 eZ (by simp)
   have u1:Un (frs X.stack) [] H (upd H' kS (.lst [])) s.heap (s'.heap.update kS (lO λ_=>(#[]:Array aU))):=(Un.laid bg cF fJ).trans (un.trans (Un.write mu (.inl rfl) k1 ⟨_,hk2⟩))
   have o1:HOk X.prog X.w (upd H' kS (.lst [])) (s'.heap.update kS (lO λ_=>(#[]:Array aU))):=hok.write mu (.inl rfl) k1 ⟨_,hk2⟩ ⟨me _,[],c2,.nil,hk2⟩
   have o2:=o1.lay (a:=D) (o:=.lst (idx.map λi=>xs.getD i .non)) (by rw[zc_ fO];exact eW) k2 ⟨by rw[kE,iy,sizeLine_eq];lia,_,c3,zg0_ rv idx (λj hj=>by rw[<- hlen];exact fL j hj),hd2⟩
   exact lE ⟨rfl,_,I.call' (s':={s' with heap:=(s'.heap.update kS (lO λ_=>(#[]:Array aU))).update D (lO λ_=>(idx.map λi=>vs.getD i mY).toArray)}) os (u1.lay fM fN k2) o2 bare (λb z=>absurd z (by simp)),fin idx bA D eW⟩
  have J:Inv X pins σ H' s':=I2.call' (s':=s') os un hok bare (λb z=>absurd z (by simp))
  have bO:∀i,i<vs.length->∃a bP,aa.getD i mY=.ref a/\IntsAre (rN bP).toList (ak.getD i [])/\PlainL s'.heap a bP.toArray:=λi hi=>by
   obtain⟨a,e,sq⟩:=zgQ_ hka i (by lia)
   obtain⟨bP,rK,pK,_⟩:=J.list sq;obtain⟨y,ey,ry,_⟩:=zeW_ ri (show i<aa.length by lia)
   rw[kY,ey]at e;cases e;exact⟨a,bP,ry,zbI_ rK,pK⟩
  unfold ksk_end;simp only[pZ,if_false];by_cases aL:vs.toArray.size<2
  ·rw[if_pos aL,if_pos aL]
   refine kJ (lE ?_);rw[StateT.run_pure];refine kJ (lE ?_);rw[kQ]at aL;refine tl _ (lK vs.length) ?_ rfl ⟨by rw[hlen],?_⟩
   ·apply Array.toList_inj.mp
    show((aa.toArray.zip vs.toArray).map (·.2)).toList=(lK vs.length).map λi=>vs.getD i mY
    rw[Array.toList_map,Array.toList_zip];show(aa.zip vs).map (·.2)=_
    rw[qm (by lia)]
    apply pB;intro i;by_cases hi:i<vs.length
    ·simp[hi]
    ·simp[nR,hi,pG hi]
   ·rcases(show vs.length=0\/vs.length=1 by lia)with e |e
    ·rw[e];exact .nil
    ·rw[e];exact qo _ _
  ·rw[if_neg aL,if_neg aL]
   rw[kQ]at aL;refine kJ (kas_kind (vs:=aa) (T:=.type "list") (by lia) (λv hv=>?_) rfl rfl ?_)
   ·obtain⟨i,hi,rfl⟩:=pT hv
    obtain⟨a,bP,e,_,pK⟩:=bO i (by lia)
    rw[kY,kz hi]at e;have e:aa[i]=.ref a:=e;rw[e];obtain⟨o',hoK,hcK,_⟩:=pK.isList;exact hcK ▸ (Looks.ld hoK).andThen .now
   ·refine kJ (mM (kat_run (ks:=aa) (vs:=vs) (Q:=λst' cq=>cq=s'/\∃p:Array Nat,p.size=vs.length/\arrOf st'=p.map (kas_item (aa.toArray.zip vs.toArray))/\failedOf st'=uN/\(Pm p vs.length/\As (ltKs ak) p vs.length)) (G:=λp cq=>cq=s'/\(Pm p vs.length/\As (ltKs ak) p vs.length))
     hil (by lia) (by lia) (λp' st' cq a1 a2 a3 a4=>⟨a4.1,p',a1,a2,a3,a4.2⟩) (znx_ (P:=λr=>Pm r vs.length/\As (ltKs ak) r vs.length) (λi j C hi hj hC=>?_) (λp hp=>⟨rfl,hp⟩) _ (zk2_ (zfN_ ak) (by lia)))) ?_ λ_ _ e=>e)
    ·obtain⟨a,k1,ea,i1,p1⟩:=bO i hi
     obtain⟨b,k2,eb,i2,p2⟩:=bO j hj;unfold kas_ask;rw[keyLt'_oneType,ea,eb];exact zny_ (X:=X) p1.isList p2.isList i1 i2 (by show X.A.units+1+1<_;lia) hC
    ·rintro⟨⟨⟩,st'⟩ cq ⟨rfl,p,hp,gT,hf',hpp⟩
     exact tl st' p.toList (kat_snds hil gT) hf' (by rw[hlen];exact zmA_ hpp)
theorem zf3_ {Q:VK}{o oc:tF}{P l:kR}{a9:Array aU}{ct:Tok}(I:Inv X pins σ H s)(S:LScope X scope cl p fr)(hh:X.A.handled=uN)(aI:X.A.depth<recursionLimit)(hu:X.A.units+10<cLine)
  (ho:s.heap.get? f=uM o) (c_:o.data=.func (pY name qual params body scope cl pm (.ref c') aF)) (hf:H f=uN) (aB:H c'=uM (.frz oc (.own P))) (au:oc.data=.fields a9) (cP:a9[1]?=uM (.str qual ct))
  (hb:∀u,bindArgs (pY name qual params body scope cl pm (.ref c') aF) ⟨[u],[]⟩=pure [(p,u)])
  (he:∀f ae s2 H2,PE (cxLam X X.A.in1.in1 qual scope cl f ae (p::fr.map (·.1)) s2 H2) body te)
  (hl:SqL X.K H l xs) (cR:xs.length<64)
  (q:tCompR (Itp xs.length λj=>xs.getD j .non) (gName 0) tTrue te (uN::lS fr σ) H λb H3=>mSrt X.K xs b H3 Q):
  lJ (model X.prog X.w) X.A (call (.builtin "sorted") [.ref l] [(nG "key",.ref f)]) (EP X pins σ Q) X.xe s:=by
 obtain⟨vs,rv,pl,hz⟩:=I.list hl;have hlen:=rv.length;refine call_function_entry_kw kind_sorted plain_sorted entry_sorted (ksk_s1 _ _) ?_;unfold qY.«sorted»;refine kJ (m:=checkCount "sorted" 1 1 _) (lE ?_);refine kJ (collect_list pl.isList ?_ (by rw[sizeLine_eq];lia))
 refine kJ (wpAny_newList ?_ (by rw[sizeLine_eq];lia))
 have hsz:((s.heap.push (seqObj "list" #[] 0)).update s.heap.objs.size (lO (·++vs.toArray))).objs.size=s.heap.objs.size+1:=by
  rw[r9,size_push']
 have cK:(((s.heap.push (seqObj "list" #[] 0)).update s.heap.objs.size (lO (·++vs.toArray))).push (seqObj "list" vs.toArray 0)).get? (s.heap.objs.size+1)=uM (seqObj "list" vs.toArray 0):=by
  rw[<- hsz];exact lG _ rfl
 have keep:∀b o,s.heap.get? b=uM o->(((s.heap.push (seqObj "list" #[] 0)).update s.heap.objs.size (lO (·++vs.toArray))).push (seqObj "list" vs.toArray 0)).get? b=uM o:=λb o q=>by
  have ay:b<s.heap.objs.size:=k8 q;rw[rP _ _ _ (by rw[hsz];exact lI (oN ay)),Heap.get?_update_ne _ _ _ _ (lI ay),rP _ _ _ (lI ay)]
  exact q
 show lJ _ _ _ _ _ {s with heap:=((s.heap.push (seqObj "list" #[] 0)).update s.heap.objs.size (lO (·++vs.toArray))).push (seqObj "list" vs.toArray 0)}
 rw[hsz];refine kJ (wpAny_holding (wpAny_call_entry_kw slot_list_sort ⟨_,cK,rfl⟩ entry_list_sort ?body (ksk_l1 _ _)))
 case body=>
  show lJ (model X.prog X.w) X.A.in1.in1 (qY.«list.sort» ⟨[.ref (s.heap.objs.size+1)],[(nG "key",.ref f)]⟩) _ _ _
  rw[ksk_t1];refine mM (zfJ_ I S hh aI hu ho c_ hf aB au cP hb he rv cR keep cK (nj _) q) (λfin s' ⟨e,H',I',q'⟩=>⟨_,e,?_⟩) λ_ _ z=>z
  exact lE ⟨_,rfl,.ref (s.heap.objs.size+1),H',I',rfl,q'⟩
theorem zkp_ {Q:aU->kF->Prop}{E:aU->kF->Prop}{A:l9}{c P:kR}{pos:Pos}{fl:Nat}(I:Inv X pins σ H s)(S:LScope X scope cl p fr)(bt:X.env.code=.ref c)(C:CodeHd X.base c P)(hP:H P=uM (.tbl pos qual))
  (h:∀f c' aF oc a9 ct H2 s2 o,Inv X pins σ H2 s2->LamUp H H2->s2.heap.get? f=uM o->o.data=.func (pY name qual params body scope cl ((X.mg "__name__").getD .none) (.ref c') aF)->H2 f=uN ->
   H2 c'=uM (.frz oc (.own P))->oc.data=.fields a9->a9[1]?=uM (.str qual ct)->Q (.ref f) s2):
  lJ (model X.prog X.w) A (makeFunction name qual params (.expr body) scope X.env [] [] [] pos fl) Q E s:=by
 obtain⟨ps,hp,ht,hq⟩:=I.hok P _ hP;have CH:CodeHd s.heap c P:=C.keeps I.bk;have gH:s.heap.Ns lD X.mg:=I.ok.mod.glob.keeps I.bk;obtain⟨bm,ob,b1,b2,b3,b4,b5,b6⟩:=I.ok.mod.bm;have jB:lD≠P:=λz=>by
  obtain⟨o,es,ep,e,hd,_⟩:=gH;rw[z,hp]at e;cases e;cases hd
 have iG:bm≠P:=λz=>by
  have e:=I.bk _ _ b3;rw[z,hp]at e;cases e;cases b4
 have iH:bm≠lD:=λz=>by
  obtain⟨o,es,ep,e,hd,_⟩:=I.ok.mod.glob;rw[z,e]at b3;cases b3;rw[hd]at b6;cases b6
 cases hf:codeAmong pos ps.toList with
 |some cv=>
  obtain⟨c',oc,a9,ct,rfl,q1,q2,q3⟩:=hq cv hf;refine kla_makeFunctionHit (zbG_ S.clos) I.ok.glob gH bt CH hp ht hf ⟨bm,ob,b1,b2,iH,iG,I.bk _ _ b3,b4,b5,b6⟩ λaF h' tk hk hsz=>?_
  have kp:∀b u,s.heap.get? b=uM u->(h'.push {cls:=.type "function",data:=.func (pY name qual params body scope cl ((X.mg "__name__").getD .none) (.ref c') aF)}).get? b=uM u:=λb u e=>kH _ (hk b u e)
  exact h h'.objs.size c' aF oc a9 ct H _ _ (I.kept (t':=tk) kp) (.inl rfl) (lG _ rfl) rfl (I.hok.fresh hsz) q1 q2 q3
 |none=>
  refine kla_makeFunction (zbG_ S.clos) I.ok.glob gH bt CH hp ht hf jB ⟨bm,ob,b1,b2,iH,iG,I.bk _ _ b3,b4,b5,b6⟩ λc' aF h' tk hx gI ay gy je=>?_
  obtain⟨c₂,oc,a9,ct,e2,hoc,q2,q3⟩:=gy;cases e2;have gO:H c'=uN:=I.hok.fresh gI;have ko:P≠c':=zd_ hP gO;have kp:∀b u,b≠P->s.heap.get? b=uM u->(h'.push (kla_obj name qual params body scope cl ((X.mg "__name__").getD .none) c' aF)).get? b=uM u:=λb u hb e=>kH _ (hx b u hb e)
  have nP:∀b,H b=uN->b≠P:=λb n z=>by rw[z,hP]at n;cases n
  have nc:∀b u,H b=uM u->b≠c':=λb u e=>zd_ e gO
  have iJ:(h'.push (kla_obj name qual params body scope cl ((X.mg "__name__").getD .none) c' aF)).get? P=uM (tabObj (ps++#[rawInt pos.line,rawInt pos.col,.ref c'])):=kH _ je;have tl:(ps++#[rawInt pos.line,rawInt pos.col,.ref c']).toList=ps.toList++[rawInt pos.line,rawInt pos.col,.ref c']:=by simp
  have u:Un X.fs [] H (upd H c' (.frz oc (.own P))) s.heap (h'.push (kla_obj name qual params body scope cl ((X.mg "__name__").getD .none) c' aF)):=by
   refine⟨λb o q n _ _=>kp b o (nP b n) q,λb o q n _ _=>⟨o.slots,kp b o (nP b n) q⟩,λb o q n _=>?_,λb o q _=>?_,λb xs q=>?_,λb o v q=>?_,λb p' q' q=>?_⟩
   ·rw[zc_ (lI (lH (k8 q) gI))];exact n
   ·by_cases hb:b=P
    ·rw[hb];exact⟨_,iJ⟩
    ·exact⟨o,kp b o hb q⟩
   ·rw[zc_ (nc b _ q)];exact q
   ·rw[zc_ (nc b _ q)];exact q
   ·rw[zc_ (nc b _ q)];exact q
  have hok:HOk X.prog X.w (upd H c' (.frz oc (.own P))) (h'.push (kla_obj name qual params body scope cl ((X.mg "__name__").getD .none) c' aF)):=λb v e=>by
   by_cases hb:b=c'
   ·subst hb
    rw[ze_]at e;cases e;have z:=kH (kla_obj name qual params body scope cl ((X.mg "__name__").getD .none) b aF) hoc;exact⟨z,_,z⟩
   ·rw[zc_ hb]at e
    by_cases hbP':b=P
    ·subst hbP'
     rw[hP]at e;cases e;refine⟨_,iJ,?_,λcv cP=>?_⟩
     ·rw[tl];exact TriplesOk_snoc _ _ _ _ ht
     ·rw[tl,codeAmong_snoc _ ht hf]at cP
      cases cP;exact⟨c',oc,a9,ct,rfl,ze_,q2,q3⟩
    ·refine(I.hok b v e).stay (λd w hd q=>kp d w ?_ q) (λd q=>by rw[zc_ (nc d _ q)];exact q) (λd xs q=>by rw[zc_ (nc d _ q)];exact q) λd ob q=>by rw[zc_ (nc d _ q)];exact q
     rcases hd with rfl |hd
     ·exact hbP'
     ·rintro rfl
      rw[hP]at hd;cases hd
  refine h h'.objs.size c' aF oc a9 ct _ _ _ (I.un (t':=tk) u hok) (.inr ⟨c',_,gO,rfl⟩) (lG _ rfl) rfl ?_ ze_ q2 q3;rw[zc_ (oU ay)];exact I.hok.fresh (mN gI (oB ay))
theorem LamUp.same {H H2:Hp}(h:LamUp H H2):Same H H2:=λb o e=>by
 rcases h with rfl |⟨c,o',hn,rfl⟩
 ·exact e
 ·rw[zc_ (zd_ e hn)];exact e
theorem zjN_ {i:Nat}{y:Str}{p0 p1 cW bM pos:Pos}{c P:kR}(S:LScope X scope cl p fr)(hh:X.A.handled=uN)(aI:X.A.depth<recursionLimit)(hu:X.A.units+10<cLine)
  (bt:X.env.code=.ref c) (C:cdB X.K c P=uO) (bU:lamK X.K=uM (P,bM,X.env.qual ++ "<lambda>")) (hm:X.mg "sorted"=uN) (hg:Gl X "sorted") (hy:PE X (.Name y p1) (mVar i)) (hd:defaultsOf params X.env=([],[]))
  (hb:∀pm c' aF u,bindArgs (pY "<lambda>" (X.env.qual ++ "<lambda>") params body scope cl pm (.ref c') aF) ⟨[u],[]⟩=pure [(p,u)])
  (he:∀f ae s2 H2,PE (cxLam X X.A.in1.in1 (X.env.qual ++ "<lambda>") scope cl f ae (p::fr.map (·.1)) s2 H2) body te):
  PE X (.Call (.Name "sorted" p0) [.Name y p1] [⟨uM "key",.Lambda params body scope bM,cW⟩] pos) (tSrt X.K fr i te):=by
 intro pins s σ H Q I h;obtain⟨a,xs,hσ,hl,cR,q⟩:=h;refine nJ (zdq_ (u:=.builtin "sorted") I hg hm rfl ?_);refine callWith_kw ?_;have pa:PA X [.Name y p1] (tCons (mVar i) tNil):=zbv_ hy ze4_;refine thn (pa pos pins s σ H (λvs H1=>vs=[V.ref a]/\H1=H) I ?_) λus s1 ⟨vs,H1,I1,r1,e1,e2⟩=>?_
 ·show mVar i σ H _
  unfold mVar;rw[hσ];exact⟨rfl,rfl⟩
 ·subst e1 e2
  obtain⟨u,rfl,ru⟩:=vals1 r1;cases ru;refine kws_cons (kla_eval hd (zkp_ I1 S bt (cd_hd I1.mod.kin C) (I1.tb _ _ _ bU) λf c' aF oc a9 ct H2 s2 o I2 up ho c_ hf aB au cP=>kws_nil ?_))
  have fI:SqL X.K H2 a xs:=up.same.seq hl;exact zf3_ I2 S hh aI hu ho c_ hf aB au cP (hb _ _ _) he fI cR (q H2 up)
end
def Fl (K:Fgg)(pos:Pos):Prop:=∃c P,sQ K "put_in_order"=uM (c,P)/\cdB K c P=uO/\lamK K=uM (P,pos,nG "put_in_order" ++ ".<locals>." ++ "<lambda>")
theorem Fl.mk_ {K:Fgg}{pos:Pos}{f c P:kR}{oc:aU}{od fW:Option kR}{fd:mH}{vs:Array aU}{aq fV:Array (Option aU)}{a1:lq}{a2:List lq}{a3:Option Str}{a4 a5 a6:Pos}{b1:Arguments}{b2:lq}{b3:Scope}
  (h:m8 K lD "put_in_order"=uM (uM (.ref f))) (l:K.lookup f=uM ⟨oc,od,.func fd,aq⟩) (e1:fd.code=.ref c) (l2:K.lookup c=uM ⟨.type "code",fW,.fields vs,fV⟩) (e2:vs[11]?=uM (.ref P))
  (e3:(match vs.getD 18 .none,vs.getD 7 .none,vs.getD 9 .none,vs.getD 10 .none with |.str _ _,.int _ _,.bool _,.int _ _=>uO |_,_,_,_=>uP)=uO) (e4:(c != P)=uO) (e5:fd.qualname="put_in_order")
  (e6:fd.body=.stmts [.Return (uM (.Call a1 a2 [⟨a3,.Lambda b1 b2 b3 pos,a4⟩] a5)) a6]):Fl K pos:=by
 have t:sQ K "put_in_order"=uM (c,P):=by
  unfold sQ;rw[h];dsimp only;rw[l];dsimp only;rw[e1];dsimp only;rw[l2];dsimp only;rw[e2]
 refine⟨c,P,t,?_,?_⟩
 ·unfold cdB
  rw[l2];dsimp only;rw[e2,e3,e4];simp
 ·unfold lamK
  rw[h];dsimp only;rw[l];dsimp only;rw[e6,t,e5]
def lamPos (st:l8):Pos:=match defBody st with
 |[.Return (uM (.Call _ _ [⟨_,.Lambda _ _ _ pos,_⟩] _)) _]=>pos
 |_=>⟨0,0,0,0⟩
def EqL (K:Fgg)(H:Hp)(n:Nat):List V->List V->List Bool->Prop
 |[],[],[]=>True
 |x::xs,y::ys,b::bs=>EqD K H n x y b/\EqL K H n xs ys bs
 |_,_,_=>False
def mNeDL (K:Fgg):R2:=λx y H Q=>match x,y with
 |.ref p,.ref q=>∃(ks:List Key) (xs ys:List V) (bs:List Bool),H p=uM (.dK (ks.zip xs))/\H q=uM (.dK (ks.zip ys))/\ks.Nodup/\ks.length=xs.length/\ks.length=ys.length/\EqL K H 12 xs ys bs/\Q (.bl (!(bs.all id))) H
 |_,_=>False
theorem zmc_ {k:Key}{y:V}:∀{ks:List Key}{ys:List V}{i:Nat},ks.Nodup->ks[i]?=uM k->ys[i]?=uM y->valV (ks.zip ys) k=uM y
 |[],_,_,_,h,_=>by simp at h
 |_::_,[],_,_,_,h=>by simp at h
 |k0::ks,y0::ys,0,_,h,g=>by simp at h g;subst h g;simp[valV]
 |k0::ks,y0::ys,i+1,nd,h,g=>by
  obtain⟨n1,n2⟩:=nW.mp nd;have h':ks[i]?=uM k:=by simpa using h
  have ne:¬k0=k:=λz=>n1 (z ▸ mU h')
  have:=zmc_ (i:=i) n2 h' (by simpa using g)
  unfold valV at this ⊢;rw[lV,nH (by simpa using ne)];exact this
section
variable {X:Cx}{pins:Pnn}{σ:St}{H:Hp}{s:kF}
theorem zdE_ {A:l9}{kb:List (Key×V)}{vb:List (Key×aU)}(I:Inv X pins σ H s)(rb:KV kb vb)(hu:A.units+12<cLine):∀{ks:List Key}{xs ys:List V}{bs:List Bool}{va:List (Key×aU)},KV (ks.zip xs) va->ks.length=xs.length->EqL X.K H 12 xs ys bs ->
  (∀(i:Nat) k y,ks[i]?=uM k->ys[i]?=uM y->valV kb k=uM y)->W.KeqHits A s vb va (bs.all id)
 |[],xs,ys,bs,va,r,hl,e,hv=>by
  cases xs with
  |cons=>cases hl
  |nil=>
   cases ys with
   |cons=>exact e.elim
   |nil=>
    cases bs with
    |cons=>exact e.elim
    |nil=>unfold KV at r;cases r;exact .nil
 |k::ks,[],_,_,_,_,hl,_,_=>by cases hl
 |k::ks,x::xs,ys,bs,va,r,hl,e,hv=>by
  cases ys with
  |nil=>exact e.elim
  |cons y ys=>
   cases bs with
   |nil=>exact e.elim
   |cons b bs=>
    unfold KV at r;rw[lV]at r;cases r with
    | @cons _ w _ _ h t=>
     obtain⟨kw,vw⟩:=w;obtain⟨rfl,h2⟩:k=kw/\RelV x vw:=h;have g:=hv 0 k y rfl rfl;have rk:=rb.val k;rw[g]at rk;cases g2:valueAt vb k with
     |none=>rw[g2]at rk;exact rk.elim
     |some u=>
      rw[g2]at rk;rw[mr];exact .hit g2 (zdN_ I e.1 A _ _ hu h2 rk).1 (zdE_ I rb hu t (by simpa using hl) e.2 λi k' y' h1 h2=>hv (i+1) k' y' (by simpa using h1) (by simpa using h2))
theorem zmR_ (hu:X.A.units+60<cLine):OpR X (lF .NotEq) (mNeDL X.K):=by
 intro pins s σ H x y v u Q I rx ry h;unfold mNeDL at h;split at h
 ·cases rx;cases ry
  obtain⟨ks,xs,ys,bs,hp,hq,nd,lx,ly,e,h⟩:=h;obtain⟨_,la,va,ra,da⟩:=zlE_ I.hok hp;obtain⟨_,lb,vb,rb,db⟩:=zlE_ I.hok hq;refine W.keq_ne la lb da db (by lia) (λ_=>zdE_ I rb (by show X.A.units+1+12<_;lia) ra lx e λi k y h1 h2=>zmc_ nd h1 h2) ?_
  have el:va.length=vb.length:=by rw[<- ra.length,<- rb.length,mB,mB,<- lx,<- ly]
  rw[el,beq_self_eq_true,Bool.true_and];exact⟨.bl _,H,I,rfl,h⟩
 ·exact h.elim
end
end L2
namespace VI
open PySem PySem.Spec PyProof.Rows L2
inductive Nd where
 |tup |lst |dct (ks:List Key)|obj (c:Str) (ns:List Str)|scr |ktup
 deriving DecidableEq
inductive D where
 |non |bl (b:Bool)|int (i:Int)|str (l:List Nat)|nd (k:Nd) (ds:List D)|fz (d:D)|pin (v:V)|gone
def SqU (K:lR)(a:kR)(xs:List V):Prop:=∃(o:tF) (aa:Array aU) (n:Nat),K.lookup a=uM o/\o.cls=.type "tuple" /\ o.data=.seq aa n/\aa.size<=lg/\Vals xs aa.toList
def NdR (K:lR)(k:Nd)(p:kR)(us:List V)(H:Hp):Prop:=match k with
 |.tup=>H p=uM (.tup us)
 |.lst=>H p=uM (.lst us)
 |.scr=>SqL K H p us
 |.ktup=>SqU K p us
 |.dct ks=>H p=uM (.dK (ks.zip us))/\ks.length=us.length/\ks.Nodup
 |.obj c ns=>∃dx,H p=uM (.ins (gA K c) dx (ns.zip us))/\ns.length=us.length
theorem NdR.mono {K:lR}{k:Nd}{p:kR}{us:List V}{H H':Hp}(g:Same H H')(h:NdR K k p us H):NdR K k p us H':=by
 cases k with
 |tup=>exact g _ _ h
 |lst=>exact g _ _ h
 |scr=>exact g.seq h
 |ktup=>exact h
 |dct ks=>exact⟨g _ _ h.1,h.2⟩
 |obj c ns=>obtain⟨dx,e,l⟩:=h;exact⟨dx,g _ _ e,l⟩
mutual
def DR (K:lR):D->V->Hp->Prop
 |.non,v,_=>v=.non
 |.bl b,v,_=>v=.bl b
 |.int i,v,_=>v=.int i
 |.str l,v,_=>v=tx l
 |.nd k ds,v,H=>∃p us,v=.ref p/\NdR K k p us H/\DRs K ds us H
 |.fz d,v,H=>DR K d v H
 |.pin u,v,_=>v=u
 |.gone,_,_=>True
def DRs (K:lR):List D->List V->Hp->Prop
 |[],us,_=>us=[]
 |d::ds,us,H=>∃v vs,us=v::vs/\DR K d v H/\DRs K ds vs H
end
theorem DR.mono {K:lR}{H H':Hp}(g:Same H H'):∀{d:D}{v:V},DR K d v H->DR K d v H'
 |.non,_,h=>by unfold DR at h ⊢;exact h
 |.bl _,_,h=>by unfold DR at h ⊢;exact h
 |.int _,_,h=>by unfold DR at h ⊢;exact h
 |.str _,_,h=>by unfold DR at h ⊢;exact h
 |.pin _,_,h=>by unfold DR at h ⊢;exact h
 |.gone,_,h=>by unfold DR at h ⊢;exact h
 |.fz d,_,h=>by unfold DR at h ⊢;exact DR.mono g h
 |.nd k ds,_,h=>by unfold DR at h ⊢;obtain⟨p,us,e,n,r⟩:=h;exact⟨p,us,e,n.mono g,go r⟩
where go:∀{ds:List D}{us:List V},DRs K ds us H->DRs K ds us H'
 |[],_,h=>by unfold DRs at h ⊢;exact h
 |d::ds,_,h=>by unfold DRs at h ⊢;obtain⟨v,vs,e,a,r⟩:=h;exact⟨v,vs,e,DR.mono g a,go r⟩
theorem DRs.mono {K:lR}{H H':Hp}(g:Same H H'){ds:List D}{us:List V}(h:DRs K ds us H):DRs K ds us H':=DR.mono.go g h
theorem DRs.prs {K:lR}{H:Hp}:∀{ds:List D}{us:List V},DRs K ds us H↔Paired (λd v=>DR K d v H) ds us
 |[],us=>⟨λh=>by unfold DRs at h;subst h;exact .nil,λh=>by cases h;unfold DRs;rfl⟩
 |d::ds,us=>⟨λh=>by unfold DRs at h;obtain⟨v,vs,rfl,a,r⟩:=h;exact .cons a (DRs.prs.mp r),λh=>by
  cases h with |cons a r=>unfold DRs;exact⟨_,_,rfl,a,DRs.prs.mpr r⟩⟩
mutual
noncomputable def D.imm:D->Bool
 |.nd .tup ds=>D.imms ds
 |.nd .ktup ds=>D.imms ds
 |.nd _ _=>uP
 |.fz d=>d.imm
 |.pin _=>uP
 |.gone=>uP
 |_=>uO
noncomputable def D.imms:List D->Bool
 |[]=>uO
 |d::ds=>d.imm && D.imms ds
end
mutual
def D.new:D->Bool
 |.nd _ ds=>D.news ds
 |.fz d=>d.imm
 |.pin _=>uP
 |.gone=>uP
 |_=>uO
def D.news:List D->Bool
 |[]=>uO
 |d::ds=>d.new && D.news ds
end
def Cell (K:lR)(k:Nd)(p:kR)(us:List V)(F h:Hp):Prop:=match k with
 |.tup=>F p=uM (.tup us)/\∀q,h q=uN
 |.scr=>False
 |.ktup=>SqU K p us/\∀q,h q=uN
 |.lst=>h=one p (.lst us)
 |.dct ks=>h=one p (.dK (ks.zip us))/\ks.length=us.length/\ks.Nodup
 |.obj c ns=>∃dx,dx≠p/\h=two p dx (.ins (gA K c) dx (ns.zip us))/\ns.length=us.length
mutual
def OD (K:lR):D->V->Hp->Hp->Prop
 |.nd k ds,v,F,h=>∃p us h0 h2,v=.ref p/\Cell K k p us F h0/\Jn h0 h2 h/\ODs K ds us F h2
 |d,v,F,h=>(∀p,h p=uN)/\DR K d v F
def ODs (K:lR):List D->List V->Hp->Hp->Prop
 |[],us,_,h=>us=[]/\∀p,h p=uN
 |d::ds,us,F,h=>∃v vs h1 h2,us=v::vs/\Jn h1 h2 h/\OD K d v F h1/\ODs K ds vs F h2
end
section
variable {K:mj}{F F' h h1 h2 H:Hp}{d:D}{ds:List D}{v:V}{us:List V}{k:Nd}{p:kR}
theorem zb_ {p q:kR}{o:HO}:one p o q=if q=p then uM o else uN:=rfl
theorem Cell.mono (g:Tups F F')(c:Cell K k p us F h):Cell K k p us F' h:=by
 cases k with
 |tup=>exact⟨g _ _ c.1,c.2⟩
 |lst=>exact c
 |scr=>exact c
 |ktup=>exact c
 |dct ks=>exact c
 |obj c' ns=>exact c
theorem Cell.notup (c:Cell K k p us F h)(q:kR)(xs:List V):h q≠uM (.tup xs):=by
 cases k with
 |tup=>rw[c.2];exact λz=>by cases z
 |ktup=>rw[c.2];exact λz=>by cases z
 |scr=>exact lU c
 |lst=>rw[show h=_ from c,zb_];split<;>exact λz=>by cases z
 |dct ks=>rw[c.1,zb_];split<;>exact λz=>by cases z
 |obj c' ns=>
  obtain⟨dx,n,e,l⟩:=c;rw[e];unfold two;split
  ·exact λz=>by cases z
  ·split<;>exact λz=>by cases z
theorem Cell.nd (c:Cell K k p us F h)(g:Same F H)(g':Same h H):NdR K k p us H:=by
 cases k with
 |tup=>exact g _ _ c.1
 |ktup=>exact c.1
 |scr=>exact lU c
 |lst=>exact g' _ _ (by rw[show h=_ from c];exact zq_)
 |dct ks=>exact⟨g' _ _ (by rw[c.1];exact zq_),c.2⟩
 |obj c' ns=>obtain⟨dx,n,e,l⟩:=c;exact⟨dx,g' _ _ (by rw[e];exact zqn_),l⟩
theorem OD.mono (g:Same F F'):∀{d:D}{v:V}{h:Hp},OD K d v F h->OD K d v F' h
 |.nd k ds,_,_,q=>by unfold OD at q ⊢;obtain⟨p,us,h0,h2,e,c,j,r⟩:=q;exact⟨p,us,h0,h2,e,c.mono g.tups,j,go r⟩
 |.non,_,_,q=>by unfold OD at q ⊢;exact⟨q.1,q.2.mono g⟩
 |.bl _,_,_,q=>by unfold OD at q ⊢;exact⟨q.1,q.2.mono g⟩
 |.int _,_,_,q=>by unfold OD at q ⊢;exact⟨q.1,q.2.mono g⟩
 |.str _,_,_,q=>by unfold OD at q ⊢;exact⟨q.1,q.2.mono g⟩
 |.fz _,_,_,q=>by unfold OD at q ⊢;exact⟨q.1,q.2.mono g⟩
 |.pin _,_,_,q=>by unfold OD at q ⊢;exact⟨q.1,q.2.mono g⟩
 |.gone,_,_,q=>by unfold OD at q ⊢;exact⟨q.1,q.2.mono g⟩
where go:∀{ds:List D}{us:List V}{h:Hp},ODs K ds us F h->ODs K ds us F' h
 |[],_,_,q=>by unfold ODs at q ⊢;exact q
 |d::ds,_,_,q=>by unfold ODs at q ⊢;obtain⟨v,vs,h1,h2,e,j,a,r⟩:=q;exact⟨v,vs,h1,h2,e,j,OD.mono g a,go r⟩
theorem OD.notup:∀{d:D}{v:V}{h:Hp},OD K d v F h->∀p xs,h p≠uM (.tup xs)
 |.nd k ds,_,_,q,p,xs=>by
  unfold OD at q;obtain⟨_,us,h0,h2,e,c,j,r⟩:=q;rcases j p with⟨_,y⟩|⟨_,y⟩
  ·rw[y];exact go r p xs
  ·rw[y];exact c.notup p xs
 |.non,_,_,q,p,xs=>by unfold OD at q;rw[q.1];exact λz=>by cases z
 |.bl _,_,_,q,p,xs=>by unfold OD at q;rw[q.1];exact λz=>by cases z
 |.int _,_,_,q,p,xs=>by unfold OD at q;rw[q.1];exact λz=>by cases z
 |.str _,_,_,q,p,xs=>by unfold OD at q;rw[q.1];exact λz=>by cases z
 |.fz _,_,_,q,p,xs=>by unfold OD at q;rw[q.1];exact λz=>by cases z
 |.pin _,_,_,q,p,xs=>by unfold OD at q;rw[q.1];exact λz=>by cases z
 |.gone,_,_,q,p,xs=>by unfold OD at q;rw[q.1];exact λz=>by cases z
where go:∀{ds:List D}{us:List V}{h:Hp},ODs K ds us F h->∀p xs,h p≠uM (.tup xs)
 |[],_,_,q,p,xs=>by unfold ODs at q;rw[q.2];exact λz=>by cases z
 |d::ds,_,_,q,p,xs=>by
  unfold ODs at q;obtain⟨v,vs,h1,h2,e,j,a,r⟩:=q;rcases j p with⟨_,y⟩|⟨_,y⟩
  ·rw[y];exact go r p xs
  ·rw[y];exact OD.notup a p xs
theorem OD.view (g:Same F H):∀{d:D}{v:V}{h:Hp},Same h H->OD K d v F h->DR K d v H
 |.nd k ds,_,_,g',q=>by
  unfold OD at q;unfold DR;obtain⟨p,us,h0,h2,e,c,j,r⟩:=q;exact⟨p,us,e,c.nd g (j.l.trans g'),go (j.r.trans g') r⟩
 |.non,_,_,_,q=>by unfold OD at q;exact q.2.mono g
 |.bl _,_,_,_,q=>by unfold OD at q;exact q.2.mono g
 |.int _,_,_,_,q=>by unfold OD at q;exact q.2.mono g
 |.str _,_,_,_,q=>by unfold OD at q;exact q.2.mono g
 |.fz _,_,_,_,q=>by unfold OD at q;exact q.2.mono g
 |.pin _,_,_,_,q=>by unfold OD at q;exact q.2.mono g
 |.gone,_,_,_,q=>by unfold OD at q;exact q.2.mono g
where go:∀{ds:List D}{us:List V}{h:Hp},Same h H->ODs K ds us F h->DRs K ds us H
 |[],_,_,_,q=>by unfold ODs at q;unfold DRs;exact q.1
 |d::ds,_,_,g',q=>by
  unfold ODs at q;unfold DRs;obtain⟨v,vs,h1,h2,e,j,a,r⟩:=q;exact⟨v,vs,e,OD.view g (j.l.trans g') a,go (j.r.trans g') r⟩
theorem DR.imm (g:Tups F F'):∀{d:D}{v:V},d.imm=uO->DR K d v F->DR K d v F'
 |.nd .tup ds,_,z,q=>by unfold D.imm at z;unfold DR at q ⊢;obtain⟨p,us,e,n,r⟩:=q;exact⟨p,us,e,g _ _ n,go z r⟩
 |.nd .ktup ds,_,z,q=>by unfold D.imm at z;unfold DR at q ⊢;obtain⟨p,us,e,n,r⟩:=q;exact⟨p,us,e,n,go z r⟩
 |.nd .scr _,_,z,_=>by simp[D.imm]at z
 |.nd .lst _,_,z,_=>by simp[D.imm]at z
 |.nd (.dct _) _,_,z,_=>by simp[D.imm]at z
 |.nd (.obj _ _) _,_,z,_=>by simp[D.imm]at z
 |.non,_,_,q=>by unfold DR at q ⊢;exact q
 |.bl _,_,_,q=>by unfold DR at q ⊢;exact q
 |.int _,_,_,q=>by unfold DR at q ⊢;exact q
 |.str _,_,_,q=>by unfold DR at q ⊢;exact q
 |.fz d,_,z,q=>by unfold D.imm at z;unfold DR at q ⊢;exact DR.imm g z q
 |.pin _,_,z,_=>by simp[D.imm]at z
 |.gone,_,z,_=>by simp[D.imm]at z
where go:∀{ds:List D}{us:List V},D.imms ds=uO->DRs K ds us F->DRs K ds us F'
 |[],_,_,q=>by unfold DRs at q ⊢;exact q
 |d::ds,_,z,q=>by
  unfold D.imms at z;obtain⟨z1,z2⟩:=lX.mp z;unfold DRs at q ⊢;obtain⟨v,vs,e,a,r⟩:=q;exact⟨v,vs,e,DR.imm g z1 a,go z2 r⟩
theorem OD.of_imm (hn:∀p,h p=uN):∀{d:D}{v:V},d.imm=uO->DR K d v F->OD K d v F h
 |.nd .tup ds,_,z,q=>by
  unfold D.imm at z;unfold DR at q;unfold OD;obtain⟨p,us,e,n,r⟩:=q;exact⟨p,us,h,h,e,⟨n,hn⟩,λq=>.inl ⟨hn q,rfl⟩,go z r⟩
 |.nd .ktup ds,_,z,q=>by
  unfold D.imm at z;unfold DR at q;unfold OD;obtain⟨p,us,e,n,r⟩:=q;exact⟨p,us,h,h,e,⟨n,hn⟩,λq=>.inl ⟨hn q,rfl⟩,go z r⟩
 |.nd .scr _,_,z,_=>by simp[D.imm]at z
 |.nd .lst _,_,z,_=>by simp[D.imm]at z
 |.nd (.dct _) _,_,z,_=>by simp[D.imm]at z
 |.nd (.obj _ _) _,_,z,_=>by simp[D.imm]at z
 |.non,_,_,q=>by unfold OD;exact⟨hn,q⟩
 |.bl _,_,_,q=>by unfold OD;exact⟨hn,q⟩
 |.int _,_,_,q=>by unfold OD;exact⟨hn,q⟩
 |.str _,_,_,q=>by unfold OD;exact⟨hn,q⟩
 |.fz d,_,_,q=>by unfold OD;exact⟨hn,q⟩
 |.pin _,_,z,_=>by simp[D.imm]at z
 |.gone,_,z,_=>by simp[D.imm]at z
where go:∀{ds:List D}{us:List V},D.imms ds=uO->DRs K ds us F->ODs K ds us F h
 |[],_,_,q=>by unfold DRs at q;unfold ODs;exact⟨q,hn⟩
 |d::ds,_,z,q=>by
  unfold D.imms at z;obtain⟨z1,z2⟩:=lX.mp z;unfold DRs at q;unfold ODs;obtain⟨v,vs,e,a,r⟩:=q;exact⟨v,vs,h,h,e,λq=>.inl ⟨hn q,rfl⟩,OD.of_imm hn z1 a,go z2 r⟩
theorem OD.newImm (g:Tups F F'):∀{d:D}{v:V}{h:Hp},d.new=uO->OD K d v F h->OD K d v F' h
 |.nd k ds,_,_,z,q=>by unfold D.new at z;unfold OD at q ⊢;obtain⟨p,us,h0,h2,e,c,j,r⟩:=q;exact⟨p,us,h0,h2,e,c.mono g,j,go z r⟩
 |.non,_,_,_,q=>by unfold OD at q ⊢;exact⟨q.1,q.2.imm g rfl⟩
 |.bl _,_,_,_,q=>by unfold OD at q ⊢;exact⟨q.1,q.2.imm g rfl⟩
 |.int _,_,_,_,q=>by unfold OD at q ⊢;exact⟨q.1,q.2.imm g rfl⟩
 |.str _,_,_,_,q=>by unfold OD at q ⊢;exact⟨q.1,q.2.imm g rfl⟩
 |.fz d,_,_,z,q=>by unfold D.new at z;unfold OD at q ⊢;exact⟨q.1,q.2.imm g (by unfold D.imm;exact z)⟩
 |.pin _,_,_,z,_=>by simp[D.new]at z
 |.gone,_,_,z,_=>by simp[D.new]at z
where go:∀{ds:List D}{us:List V}{h:Hp},D.news ds=uO->ODs K ds us F h->ODs K ds us F' h
 |[],_,_,_,q=>by unfold ODs at q ⊢;exact q
 |d::ds,_,_,z,q=>by
  unfold D.news at z;obtain⟨z1,z2⟩:=lX.mp z;unfold ODs at q ⊢;obtain⟨v,vs,h1,h2,e,j,a,r⟩:=q;exact⟨v,vs,h1,h2,e,j,OD.newImm g z1 a,go z2 r⟩
end
abbrev tyD (K:lR):Ty D:=⟨DR K,λg h=>h.mono g⟩
abbrev owD (K:lR):Own D:=⟨OD K,tyD K,λg h=>h.mono g,λd h=>OD.view z1_ (zd1_ d) h,λh=>h.notup⟩
noncomputable abbrev Env:=List (Option D)
def slot (K:lR):Option D->Sl
 |none=>.dead
 |some d=>.ow (owD K) d
abbrev Lof (K:lR)(env:Env):List Sl:=env.map (slot K)
noncomputable def D.un:D->D
 |.fz d=>d.un
 |d=>d
def D.vw (d:D):D:=if d.imm then d else match d with |.fz _=>d |_=>.fz d
section
variable {K:mj}{E:XK}{F h h1 h2 H:Hp}{d:D}{ds:List D}{v:V}{us:List V}{k:Nd}{p:kR}{Q:VK}
theorem DR.un:∀{d:D},DR K d v H->DR K d.un v H
 |.fz d,q=>by unfold DR at q;unfold D.un;exact DR.un q
 |.non,q=>q
 |.bl _,q=>q
 |.int _,q=>q
 |.str _,q=>q
 |.nd _ _,q=>q
 |.pin _,q=>q
 |.gone,q=>q
theorem DR.int {i:Int}(h:DR K (.int i) v H):v=.int i:=by unfold DR at h;exact h
theorem DR.str {l:List Nat}(h:DR K (.str l) v H):v=tx l:=by unfold DR at h;exact h
theorem DR.bl {b:Bool}(h:DR K (.bl b) v H):v=.bl b:=by unfold DR at h;exact h
theorem DR.non (h:DR K .non v H):v=.non:=by unfold DR at h;exact h
theorem DR.nd (h:DR K (.nd k ds) v H):∃p us,v=.ref p/\NdR K k p us H/\DRs K ds us H:=by unfold DR at h;exact h
theorem OD.vw (hn:∀p,h p=uN)(r:DR K d v F):OD K d.vw v F h:=by
 unfold D.vw;split
 ·exact OD.of_imm hn (by assumption) r
 ·split
  ·unfold OD;exact⟨hn,r⟩
  ·unfold OD;exact⟨hn,by unfold DR;exact r⟩
theorem ODs.vw (hn:∀p,h p=uN):∀{ds:List D}{us:List V},DRs K ds us F->ODs K (ds.map D.vw) us F h
 |[],_,q=>by unfold DRs at q;unfold ODs;exact⟨q,hn⟩
 |d::ds,_,q=>by
  unfold DRs at q;obtain⟨v,vs,e,a,r⟩:=q;rw[kX];unfold ODs;exact⟨v,vs,h,h,e,λq=>.inl ⟨hn q,rfl⟩,OD.vw hn a,ODs.vw hn r⟩
theorem DRs.len (h:DRs K ds us H):ds.length=us.length:=Paired.length (DRs.prs.mp h)
theorem DRs.get (h:DRs K ds us H)(i:Nat):(ds[i]?=uN/\us[i]?=uN)\/∃d v,ds[i]?=uM d/\us[i]?=uM v/\DR K d v H:=Prs.get (T:=tyD K) (DRs.prs.mp h) i
theorem DRs.app {es:List D}{ws:List V}(a:DRs K ds us H)(b:DRs K es ws H):DRs K (ds++es) (us++ws) H:=DRs.prs.mpr (Prs.append (T:=tyD K) (DRs.prs.mp a) (DRs.prs.mp b))
theorem DRs.atI (h:DRs K ds us H){i:Int}{d:D}(e:atI ds i=uM d):∃v,L2.atI us i=uM v/\DR K d v H:=zlq_ (T:=tyD K) (DRs.prs.mp h) e
theorem gotV (q:After K (.ok d.vw) E F H (OwnK (owD K) H Q))(hs:Same F H)(r:DR K d v F):Q v H:=
 q.ok hs v (λ_=>uN) (λp z=>absurd rfl z) (λp=>.inr rfl) (λp o z=>by cases z) (OD.vw (λ_=>rfl) r)
theorem got (q:After K (.ok d) E F H (OwnK (owD K) H Q))(hs:Same F H)(r:DR K d v F)(i:d.imm=uO:=by rfl):Q v H:=
 q.ok hs v (λ_=>uN) (λp z=>absurd rfl z) (λp=>.inr rfl) (λp o z=>by cases z) (OD.of_imm (λ_=>rfl) i r)
theorem gotI {i:Int}(q:After K (.ok (.int i)) E F H (OwnK (owD K) H Q))(hs:Same F H):Q (.int i) H:=got q hs (by unfold DR;rfl)
theorem gotS {i:List Nat}(q:After K (.ok (.str i)) E F H (OwnK (owD K) H Q))(hs:Same F H):Q (tx i) H:=got q hs (by unfold DR;rfl)
theorem gotB {i:Bool}(q:After K (.ok (.bl i)) E F H (OwnK (owD K) H Q))(hs:Same F H):Q (.bl i) H:=got q hs (by unfold DR;rfl)
theorem gotN (q:After K (.ok .non) E F H (OwnK (owD K) H Q))(hs:Same F H):Q .non H:=got q hs (by unfold DR;rfl)
theorem no_r {h:Hp}(z:Hp)(hz:∀p,z p=uN):Jn h z h:=λp=>.inr ⟨hz p,rfl⟩
theorem newL (q:After K (.ok (.nd .lst (ds.map .vw))) E F H (OwnK (owD K) H Q))(hs:Same F H)(hp:H p=uN)(r:DRs K ds us F):Q (.ref p) (upd H p (.lst us)):=by
 refine q F _ (.heap hs (zW_ hp _)) (.ref p) (one p (.lst us)) (λb z=>?_) (λb=>?_) (λb o z=>?_) ?_
 ·rw[zb_]at z;split at z
  ·rename_i e;rw[e];exact hp
  ·exact absurd rfl z
 ·rw[zb_];split
  ·rename_i e;rw[e];exact .inl (hs.free hp)
  ·exact .inr rfl
 ·rw[zb_]at z;split at z
  ·rename_i e;rw[e];cases z;exact ze_
  ·cases z
 ·show OD K _ _ _ _
  unfold OD;exact⟨p,us,_,λ_=>uN,rfl,rfl,no_r _ λ_=>rfl,ODs.vw (λ_=>rfl) r⟩
def addD (a b:D):Mo D:=match a.un,b.un with
 |.int i,.int j=>.ok (.int (i+j))
 |.str x,.str y=>.lim (x.length+y.length) (.ok (.str (x++y)))
 |.nd .lst xs,.nd .lst ys=>.lim (xs.length+ys.length) (.ok (.nd .lst ((xs++ys).map .vw)))
 |_,_=>.no
abbrev Op2D (K:lR)(m:R2)(E:XK)(g:D->D->Mo D):Prop:=Op2O K m E (tyD K) (tyD K) g (owD K)
theorem zpq_:Op2D K mAdd E addD:=by
 intro a b x y F H Q hs ha hb q;have ha:=DR.un ha;have hb:=DR.un hb;unfold addD at q;split at q
 ·rename_i e1 e2;rw[e1]at ha;rw[e2]at hb;cases ha.int;cases hb.int;exact gotI q hs
 ·rename_i e1 e2;rw[e1]at ha;rw[e2]at hb;cases ha.str;cases hb.str
  obtain⟨c,q⟩:=q.lim;exact⟨c,gotS q hs⟩
 ·rename_i e1 e2;rw[e1]at ha;rw[e2]at hb
  obtain⟨p,us,rfl,n,r⟩:=ha.nd;obtain⟨p2,ws,rfl,n2,r2⟩:=hb.nd;obtain⟨c,q⟩:=q.lim;exact⟨us,ws,hs _ _ n,hs _ _ n2,by rw[<- r.len,<- r2.len];exact c,λl hl=>newL q hs hl (r.app r2)⟩
 ·exact q.elim
def i2D (g:Int->Int->Mo D)(a b:D):Mo D:=match a.un,b.un with |.int i,.int j=>g i j |_,_=>.no
theorem zlF_ {g:Int->Int->V}{f:Int->Int->D}(h:∀i j F,DR K (f i j) (g i j) F)(im:∀i j,(f i j).imm=uO):Op2D K (mI0 g) E (i2D λi j=>.ok (f i j)):=by
 intro a b x y F H Q hs ha hb q;have ha:=DR.un ha;have hb:=DR.un hb;unfold i2D at q;split at q
 ·rename_i e1 e2;rw[e1]at ha;rw[e2]at hb;cases ha.int;cases hb.int;exact got q hs (h _ _ _) (im _ _)
 ·exact q.elim
theorem od_i {C:Int->Int->Prop}[∀i j,Decidable (C i j)]{g:Int->Int->V}{f:Int->Int->D}(h:∀i j F,DR K (f i j) (g i j) F)(im:∀i j,(f i j).imm=uO):Op2D K (mI C g) E (i2D λi j=>.grd (C i j) (.ok (f i j))):=by
 intro a b x y F H Q hs ha hb q;have ha:=DR.un ha;have hb:=DR.un hb;unfold i2D at q;split at q
 ·rename_i e1 e2;rw[e1]at ha;rw[e2]at hb;cases ha.int;cases hb.int
  obtain⟨c,q⟩:=q.grd;exact⟨c,got q hs (h _ _ _) (im _ _)⟩
 ·exact q.elim
abbrev subD:=i2D λi j=>.ok (.int (i-j))
abbrev modD:=i2D λi j=>.grd (0<j) (.ok (.int (i % j)))
abbrev divD:=i2D λi j=>.grd (CDivG i j) (.ok (.int (i / j)))
theorem zqA_:Op2D K mSub E subD:=zlF_ (λ_ _ _=>by unfold DR;rfl) λ_ _=>rfl
theorem zqD_:Op2D K mMod E modD:=od_i (C:=λ_ j=>0<j) (λ_ _ _=>by unfold DR;rfl) λ_ _=>rfl
theorem zp6_:Op2D K mDivG E divD:=od_i (λ_ _ _=>by unfold DR;rfl) λ_ _=>rfl
abbrev leD:=i2D λi j=>.ok (.bl (decide (i<=j)))
abbrev gtD:=i2D λi j=>.ok (.bl (decide (j<i)))
abbrev geD:=i2D λi j=>.ok (.bl (decide (j<=i)))
abbrev ltD:=i2D λi j=>.ok (.bl (decide (i<j)))
theorem od_le:Op2D K mLe E leD:=zlF_ (λ_ _ _=>by unfold DR;rfl) λ_ _=>rfl
theorem od_gt:Op2D K mGt E gtD:=zlF_ (λ_ _ _=>by unfold DR;rfl) λ_ _=>rfl
theorem od_ge:Op2D K mGe E geD:=zlF_ (λ_ _ _=>by unfold DR;rfl) λ_ _=>rfl
theorem od_lt:Op2D K mLt E ltD:=zlF_ (λ_ _ _=>by unfold DR;rfl) λ_ _=>rfl
def mulD (a b:D):Mo D:=match a.un,b.un with
 |.int i,.int j=>.grd (IntMulOk i j) (.ok (.int (i*j)))
 |.str x,.int n=>.grd (CRep x.length n) (.ok (.str (repL x n)))
 |.nd .lst xs,.int n=>.grd (CRep xs.length n) (.ok (.nd .lst ((repL xs n).map .vw)))
 |_,_=>.no
theorem DRs.rep (r:DRs K ds us H)(n:Int):DRs K (repL ds n) (repL us n) H:=DRs.prs.mpr (zlx_ (T:=tyD K) (DRs.prs.mp r) n)
theorem DRs.cut (r:DRs K ds us H)(lo hi:Option Int):DRs K (cutG ds lo hi) (cutV us lo hi) H:=DRs.prs.mpr (znu_ (T:=tyD K) (DRs.prs.mp r) lo hi)
theorem zo4_:Op2D K mMulX E mulD:=by
 intro a b x y F H Q hs ha hb q;have ha:=DR.un ha;have hb:=DR.un hb;unfold mulD at q;split at q
 ·rename_i e1 e2;rw[e1]at ha;rw[e2]at hb;cases ha.int;cases hb.int
  obtain⟨c,q⟩:=q.grd;exact⟨c,gotI q hs⟩
 ·rename_i e1 e2;rw[e1]at ha;rw[e2]at hb;cases ha.str;cases hb.int
  obtain⟨c,q⟩:=q.grd;exact⟨c,gotS q hs⟩
 ·rename_i e1 e2;rw[e1]at ha;rw[e2]at hb
  obtain⟨p,us,rfl,n,r⟩:=ha.nd;cases hb.int;obtain⟨c,q⟩:=q.grd;exact⟨us,hs _ _ n,by rw[<- r.len];exact c,λl hl=>newL q hs hl (r.rep _)⟩
 ·exact q.elim
def ixD (a b:D):Mo D:=match a.un,b.un with
 |.nd .lst xs,.int i=>.opt ((atI xs i).map .vw)
 |.nd .tup xs,.int i=>.opt ((atI xs i).map .vw)
 |.nd .scr xs,.int i=>.opt ((atI xs i).map .vw)
 |.nd .ktup xs,.int i=>.opt ((atI xs i).map .vw)
 |.str l,.int i=>.lim l.length (.opt ((atI l i).map λc=>.str [c]))
 |_,_=>.no
theorem zhu_ {ds:List D}{i:Int}(hs:Same F H)(n:SqL K H p us\/SqT K H p us)(r:DRs K ds us F)(q:After K (.opt ((atI ds i).map .vw)) E F H (OwnK (owD K) H Q)):mIx K (.ref p) (.int i) H Q:=by
 obtain⟨d,e,q⟩:=q.opt;obtain⟨d',e',rfl⟩:=lh.mp e;obtain⟨v,e2,rv⟩:=r.atI e';refine⟨us,n,?_⟩;rw[e2];exact gotV q hs rv
theorem od_ix:Op2D K (mIx K) E ixD:=by
 intro a b x y F H Q hs ha hb q;have ha:=DR.un ha;have hb:=DR.un hb;unfold ixD at q;split at q
 ·rename_i e1 e2;rw[e1]at ha;rw[e2]at hb;obtain⟨p,us,rfl,n,r⟩:=ha.nd;cases hb.int;exact zhu_ hs (.inl (.of (hs _ _ n))) r q
 ·rename_i e1 e2;rw[e1]at ha;rw[e2]at hb;obtain⟨p,us,rfl,n,r⟩:=ha.nd;cases hb.int;exact zhu_ hs (.inr (.of (hs _ _ n))) r q
 ·rename_i e1 e2;rw[e1]at ha;rw[e2]at hb;obtain⟨p,us,rfl,n,r⟩:=ha.nd;cases hb.int;exact zhu_ hs (.inl (hs.seq n)) r q
 ·rename_i e1 e2;rw[e1]at ha;rw[e2]at hb;obtain⟨p,us,rfl,n,r⟩:=ha.nd;cases hb.int;exact zhu_ hs (.inr (.inr n)) r q
 ·rename_i l i e1 e2;rw[e1]at ha;rw[e2]at hb;cases ha.str;cases hb.int
  obtain⟨z,q⟩:=q.lim;obtain⟨d,e,q⟩:=q.opt;obtain⟨c,e',rfl⟩:=lh.mp e;refine⟨z,?_⟩;show(match atI l i with |some c=>Q (tx [c]) H |none=>False)
  rw[e'];exact gotS q hs
 ·exact q.elim
def keyD (d:D):Option Key:=match d.un with
 |.int i=>uM (.inl i)
 |.str l=>uM (.inr ⟨l.toArray⟩)
 |_=>uN
theorem zlf_ {k:Key}(e:keyD d=uM k)(h:DR K d v H):keyV v=uM k/\v=kV k:=by
 have h:=DR.un h;unfold keyD at e;cases hd:d.un with
 |int i=>rw[hd]at e h;cases e;cases h.int;exact⟨rfl,rfl⟩
 |str l=>rw[hd]at e h;cases e;cases h.str;exact⟨rfl,rfl⟩
 |_=>rw[hd]at e;cases e
def valD (ks:List Key)(ds:List D)(k:Key):Option D:=((ks.zip ds).find? λq=>decide (q.1=k)).map (·.2)
theorem zpz_ {k:Key}:∀{ks:List Key}{ds:List D}{us:List V},DRs K ds us H->(valD ks ds k=uN/\valV (ks.zip us) k=uN)\/∃d v,valD ks ds k=uM d/\valV (ks.zip us) k=uM v/\DR K d v H
 |[],ds,us,h=>.inl ⟨rfl,rfl⟩
 |k0::ks,[],us,h=>by unfold DRs at h;subst h;exact .inl ⟨rfl,rfl⟩
 |k0::ks,d::ds,us,h=>by
  unfold DRs at h;obtain⟨v,vs,rfl,a,r⟩:=h;by_cases e:k0=k
  ·subst e
   exact .inr ⟨d,v,by simp[valD],by simp[valV],a⟩
  ·rcases zpz_ (k:=k) (ks:=ks) r with⟨h1,h2⟩|⟨d',v',h1,h2,h3⟩
   ·exact .inl ⟨by unfold valD at h1 ⊢;rw[lV,nH (by simpa using e)];exact h1,by unfold valV at h2 ⊢;rw[lV,nH (by simpa using e)];exact h2⟩
   ·exact .inr ⟨d',v',by unfold valD at h1 ⊢;rw[lV,nH (by simpa using e)];exact h1,by unfold valV at h2 ⊢;rw[lV,nH (by simpa using e)];exact h2,h3⟩
def dgetD (a b:D):Mo D:=match a.un,keyD b with
 |.nd (.dct ks) ds,uM k=>.opt ((valD ks ds k).map .vw)
 |_,_=>.no
def dinD (neg:Bool)(b a:D):Mo D:=match a.un,keyD b with
 |.nd (.dct ks) ds,uM k=>.ok (.bl (if neg then !(valD ks ds k).isSome else(valD ks ds k).isSome))
 |_,_=>.no
theorem zeb_ {x y:V}{R:kR->List (Key×V)->Key->Prop}{kvs:List (Key×V)}{k:Key}(hx:x=.ref p)(hy:keyV y=uM k)(h:H p=uM (.dK kvs))(r:R p kvs k):atD x y H R:=by
 subst hx;unfold atD;dsimp only;rw[hy];exact⟨kvs,h,r⟩
section
variable {t t1 t2:TE}{r r1 r2:Mo D}{env:Env}
abbrev EvX (K:lR)(t:TE)(E:XK)(env:Env)(r:Mo D):Prop:=EvO K t E (Lof K env) r (owD K)
abbrev EvV (K:lR)(t:TE)(E:XK)(env:Env)(r:Mo D):Prop:=EvF K t E (Lof K env) r (tyD K)
theorem ex_v (h:EvX K t E env r):EvV K t E env r:=h.fr
theorem ex_op {m:R2}{g:D->D->Mo D}(o:Op2D K m E g)(h1:EvX K t1 E env r1)(h2:EvX K t2 E env r2):EvX K (tOp m t1 t2) E env (r1.bind λa=>r2.bind λb=>g a b):=zox_ o (ex_v h1) (ex_v h2)
def getE (env:Env)(i:Nat):Mo D:=match env[i]? with |some (uM d)=>.ok d.vw |_=>.no
theorem zlu_ (i:Nat):EvX K (mVar i) E env (getE env i):=by
 intro σ F H Q hL hs q;unfold getE at q;split at q
 ·rename_i d e
  obtain⟨v,ev,rv⟩:=hL i (slot K (uM d)) (by rw[kZ,e];rfl)
  unfold mVar;cases z:σ[i]? with
  |none=>rw[z]at ev;cases ev
  |some o=>rw[z]at ev;cases(show o=uM v from ev);exact gotV q hs rv
 ·exact q.elim
theorem ex_c {d:D}{v:V}(h:∀F,DR K d v F)(i:d.imm=uO:=by rfl):EvX K (tC v) E env (.ok d):=λσ F H Q hL hs q=>got q hs (h F) i
def blD (d:D):Mo Bool:=match d.un with |.bl b=>.ok b |_=>.no
theorem zfY_ (h:EvX K t E env r):EvT K (mTest t) E (Lof K env) (r.bind blD):=by
 intro σ F H Q hL hs q;refine ex_v h σ F H _ hL hs (q.bind.imp λa F1 H1 x1 k1 v1 aN=>?_)
 have ha:=DR.un aN;unfold blD at k1;split at k1
 ·rename_i b e;rw[e]at ha;cases ha.bl;exact k1.ok x1.2.1
 ·exact k1.elim
theorem zoC_ (h:EvX K t E env r):EvX K (mNotV t) E env (r.bind λa=>(blD a).bind λb=>.ok (.bl (!b))):=by
 intro σ F H Q hL hs q;refine ex_v h σ F H _ hL hs (q.bind.imp λa F1 H1 x1 k1 v1 aN=>?_)
 have ha:=DR.un aN;unfold blD at k1;split at k1
 ·rename_i b e;rw[e]at ha;cases ha.bl
  exact gotB (k1.imp λa F3 H3 x3 k3=>k3.back x1.2.2.1) x1.2.1
 ·exact k1.elim
def andD (a:D)(r:Mo D):Mo D:=(blD a).bind λb=>if b then r else .ok (.bl uP)
def orD (a:D)(r:Mo D):Mo D:=(blD a).bind λb=>if b then .ok (.bl uO)else r
theorem zqR_ (h1:EvX K t1 E env r1)(h2:EvX K t2 E env r2):EvX K (mAndV t1 t2) E env (r1.bind λa=>andD a r2):=by
 intro σ F H Q hL hs q;refine ex_v h1 σ F H _ hL hs (q.bind.imp λa F1 H1 x1 k1 v1 aN=>?_)
 have ha:=DR.un aN;unfold andD blD at k1;split at k1
 ·rename_i b e;rw[e]at ha;cases ha.bl
  refine⟨λz=>?_,λz=>?_⟩
  ·subst z;exact h2 σ F1 H1 _ (hL.mono x1.1) x1.2.1 (After.imp (show After K r2 E F1 H1 _ from k1) λa F3 H3 x3 k3=>k3.back x1.2.2.1)
  ·subst z;exact gotB (After.imp (show After K (.ok (D.bl uP)) E F1 H1 (OwnK (owD K) H Q)from k1) λa F3 H3 x3 k3=>k3.back x1.2.2.1) x1.2.1
 ·exact k1.elim
theorem ex_or (h1:EvX K t1 E env r1)(h2:EvX K t2 E env r2):EvX K (mOrV t1 t2) E env (r1.bind λa=>orD a r2):=by
 intro σ F H Q hL hs q;refine ex_v h1 σ F H _ hL hs (q.bind.imp λa F1 H1 x1 k1 v1 aN=>?_)
 have ha:=DR.un aN;unfold orD blD at k1;split at k1
 ·rename_i b e;rw[e]at ha;cases ha.bl
  refine⟨λz=>?_,λz=>?_⟩
  ·subst z;exact gotB (After.imp (show After K (.ok (D.bl uO)) E F1 H1 (OwnK (owD K) H Q)from k1) λa F3 H3 x3 k3=>k3.back x1.2.2.1) x1.2.1
  ·subst z;exact h2 σ F1 H1 _ (hL.mono x1.1) x1.2.1 (After.imp (show After K r2 E F1 H1 _ from k1) λa F3 H3 x3 k3=>k3.back x1.2.2.1)
 ·exact k1.elim
theorem ex_if {tt:TT}{b:Mo Bool}(ht:EvT K tt E (Lof K env) b)(h1:EvX K t1 E env r1)(h2:EvX K t2 E env r2):EvX K (mIf tt t1 t2) E env (b.bind λc=>if c then r1 else r2):=zp2_ ht h1 h2
def negD (a:D):Mo D:=match a.un with |.int i=>.ok (.int (-i))|_=>.no
theorem zpe_ (h:EvX K t E env r):EvX K (mNeg t) E env (r.bind negD):=by
 intro σ F H Q hL hs q;refine ex_v h σ F H _ hL hs (q.bind.imp λa F1 H1 x1 k1 v1 aN=>?_)
 have ha:=DR.un aN;unfold negD at k1;split at k1
 ·rename_i b e;rw[e]at ha;cases ha.int
  exact gotI (k1.imp λa F3 H3 x3 k3=>k3.back x1.2.2.1) x1.2.1
 ·exact k1.elim
end
end
section
variable {K:mj}{E:XK}{F F' h h1 h2 H H':Hp}{d:D}{ds:List D}{v:V}{us:List V}{k:Nd}{p:kR}{Q:VK}{env:Env}{t:TE}{r r1 r2:Mo D}{ta:TA}{ra:Mo (List D)}
def allT (f:D->D->Option Bool):List D->List D->Option Bool
 |a::as,b::bs=>(f a b).bind λx=>(allT f as bs).map λy=>x && y
 |_,_=>uM uO
def D.flat?:D->Option V
 |.non=>uM .non
 |.bl b=>uM (.bl b)
 |.int i=>uM (.int i)
 |.str l=>uM (tx l)
 |_=>uN
noncomputable def sqT:D->Option (Bool×List D)
 |.nd .lst xs=>uM (uO,xs)|.nd .tup xs=>uM (uP,xs)|_=>uN
def eqS (f:D->D->Option Bool)(a b:D):Option Bool:=match sqT a with
 |none=>(match sqT b with |none=>a.flat?.bind λx=>b.flat?.map λy=>eqV x y |some _=>a.flat?.map λ_=>uP)
 |some (k,xs)=>(match sqT b with
  |none=>b.flat?.map λ_=>uP
  |some (k',ys)=>bif k == k' then(bif k then(if xs.length=ys.length then allT f xs ys else uM uP)else(allT f xs ys).map λb=>b && xs.length == ys.length)else uM uP)
def eqT:Nat->D->D->Option Bool
 |0,a,b=>a.un.flat?.bind λx=>b.un.flat?.map λy=>eqV x y
 |n+1,a,b=>eqS (eqT n) a.un b.un
theorem zpl_ {k:Bool}{xs:List D}(e:sqT d=uM (k,xs))(h:DR K d v H):∃p us,v=.ref p/\DRs K xs us H/\H p=uM (bif k then .lst us else .tup us):=by
 cases d with
 |nd k ds=>
  obtain⟨p,us,rfl,m,r⟩:=h.nd;cases k with
  |lst=>cases e;exact⟨p,us,rfl,r,m⟩
  |tup=>cases e;exact⟨p,us,rfl,r,m⟩
  |_=>cases e
 |_=>cases e
theorem zdL_ {x:V}(e:d.flat?=uM x)(h:DR K d v H):v=x/\flatV x=uO:=by
 cases d with
 |non=>cases e;exact⟨h.non,rfl⟩
 |bl=>cases e;exact⟨h.bl,rfl⟩
 |int=>cases e;exact⟨h.int,rfl⟩
 |str=>cases e;exact⟨h.str,rfl⟩
 |_=>cases e
theorem zjy_ {f:D->D->Option Bool}:∀{xs ys:List D}{b:Bool},allT f xs ys=uM b->∃e:Nat->Bool,(∀(i:Nat) x y,xs[i]?=uM x->ys[i]?=uM y->f x y=uM (e i))/\b=(lK (min xs.length ys.length)).all e
 |[],_,_,h=>by cases h;exact⟨λ_=>uO,λi x y hx=>by simp at hx,by simp⟩
 |_::_,[],_,h=>by cases h;exact⟨λ_=>uO,λi x y hx hy=>by simp at hy,by simp⟩
 |x::xs,y::ys,b,h=>by
  unfold allT at h;obtain⟨c,hc,h⟩:=k9.mp h;obtain⟨c',aB,rfl⟩:=lh.mp h;obtain⟨e,h1,h2⟩:=zjy_ aB;refine⟨λi=>match i with |0=>c |i+1=>e i,λi u w hu hw=>?_,?_⟩
  ·cases i with
   |zero=>simp at hu hw;subst hu hw;exact hc
   |succ i=>exact h1 i u w (by simpa using hu) (by simpa using hw)
  ·rw[h2,lp,lp,Nat.succ_min_succ,List.range_succ_eq_map,mr,t8];rfl
theorem zoB_:∀{n:Nat}{a b:D}{x y:V}{c:Bool},eqT n a b=uM c->DR K a x H->DR K b y H->EqD K H n x y c:=by
 intro n;induction n with
 |zero=>
  intro a b x y c h ha hb;unfold eqT at h;obtain⟨x',hx,h⟩:=k9.mp h;obtain⟨y',hy,rfl⟩:=lh.mp h;obtain⟨rfl,f1⟩:=zdL_ hx (DR.un ha);obtain⟨rfl,f2⟩:=zdL_ hy (DR.un hb);exact .flat f1 f2
 |succ n ih=>
  intro a b x y c h ha hb;have ha:=DR.un ha;have hb:=DR.un hb;have sub:∀{xs ys:List D}{us ws:List V}{e:Nat->Bool},DRs K xs us H->DRs K ys ws H->(∀(i:Nat) x y,xs[i]?=uM x->ys[i]?=uM y->eqT n x y=uM (e i))->∀(i:Nat) u w,us[i]?=uM u->ws[i]?=uM w->EqD K H n u w (e i):=λr r2 g i u w hu hw=>by
   rcases r.get i with⟨_,z⟩|⟨d,v,e1,e2,e3⟩
   ·rw[z]at hu;cases hu
   rcases r2.get i with⟨_,z⟩|⟨d',v',g1,g2,g3⟩
   ·rw[z]at hw;cases hw
   rw[e2]at hu;rw[g2]at hw;cases hu;cases hw;exact ih (g i _ _ e1 g1) e3 g3
  have fl:∀{a b:D},DR K a x H->DR K b y H->(a.flat?.bind λx=>b.flat?.map λy=>eqV x y)=uM c->EqD K H (n+1) x y c:=λha hb h=>by
   obtain⟨x',hx,h⟩:=k9.mp h;obtain⟨y',hy,rfl⟩:=lh.mp h;obtain⟨rfl,f1⟩:=zdL_ hx ha;obtain⟨rfl,f2⟩:=zdL_ hy hb;exact(EqD.flat f1 f2).le (me _)
  have h:eqS (eqT n) a.un b.un=uM c:=h;unfold eqS at h;cases ea:sqT a.un with
  |none=>
   rw[ea]at h;cases eb:sqT b.un with
   |none=>rw[eb]at h;exact fl ha hb h
   |some q=>
    rw[eb]at h;obtain⟨y',hy,rfl⟩:=lh.mp h;obtain⟨rfl,f2⟩:=zdL_ hy ha;obtain⟨p,us,rfl,r,m⟩:=zpl_ (k:=q.1) (xs:=q.2) eb hb;cases z:q.1<;>rw[z]at m
    ·exact .ft (.of m) f2
    ·exact .fl (.of m) f2
  |some q=>
   rw[ea]at h;obtain⟨p,us,rfl,r1,n1⟩:=zpl_ (k:=q.1) (xs:=q.2) ea ha;obtain⟨k,xs⟩:=q;cases eb:sqT b.un with
   |none=>
    rw[eb]at h;obtain⟨y',hy,rfl⟩:=lh.mp h;obtain⟨rfl,f2⟩:=zdL_ hy hb;cases k
    ·exact .tf (.of n1) f2
    ·exact .lf (.of n1) f2
   |some q=>
    rw[eb]at h;obtain⟨q',ws,rfl,r2,n2⟩:=zpl_ (k:=q.1) (xs:=q.2) eb hb;obtain⟨k',ys⟩:=q;cases k<;>cases k'
    ·obtain⟨c',hc,rfl⟩:=lh.mp (show(allT (eqT n) xs ys).map _=_ from h)
     obtain⟨e,g1,rfl⟩:=zjy_ hc;rw[r1.len,r2.len];exact .tup e (.of n1) (.of n2) (sub r1 r2 g1)
    ·cases h;exact .tl (.of n1) (.of n2)
    ·cases h;exact .lt (.of n1) (.of n2)
    ·have h:(if xs.length=ys.length then allT (eqT n) xs ys else uM uP)=uM c:=h
     split at h
     ·rename_i hl
      obtain⟨e,g1,rfl⟩:=zjy_ h;rw[<- hl,og,r1.len];exact .lst e (.of n1) (.of n2) (by rw[<- r1.len,<- r2.len,hl]) (sub r1 r2 g1)
     ·rename_i hl;cases h;exact .lstN (.of n1) (.of n2) (by rw[<- r1.len,<- r2.len];exact hl)
def eqD (neg:Bool)(a b:D):Mo D:=(Mo.opt (eqT 12 a b)).bind λc=>.ok (.bl (if neg then !c else c))
theorem od_eq:Op2D K (mEqA K) E (eqD uP):=by
 intro a b x y F H Q hs ha hb q;unfold eqD at q;cases e:eqT 12 a b with
 |none=>rw[e]at q;exact q.elim
 |some c=>rw[e]at q;exact⟨12,c,by decide,zoB_ e ((tyD K).mono hs ha) ((tyD K).mono hs hb),gotB q hs⟩
theorem od_ne:Op2D K (mNeA K) E (eqD uO):=by
 intro a b x y F H Q hs ha hb q;unfold eqD at q;cases e:eqT 12 a b with
 |none=>rw[e]at q;exact q.elim
 |some c=>rw[e]at q;exact⟨12,c,by decide,zoB_ e ((tyD K).mono hs ha) ((tyD K).mono hs hb),gotB q hs⟩
theorem un_fz:∀(d:D) {x:D},d.un≠.fz x
 |.fz d,x=>by unfold D.un;exact un_fz d
 |.non,_=>λz=>by cases z
 |.bl _,_=>λz=>by cases z
 |.int _,_=>λz=>by cases z
 |.str _,_=>λz=>by cases z
 |.nd _ _,_=>λz=>by cases z
 |.pin _,_=>λz=>by cases z
 |.gone,_=>λz=>by cases z
def isD (neg:Bool)(a b:D):Mo D:=match b with
 |.non=>(match a.un with |.pin _=>.no |.gone=>.no |.non=>.ok (.bl (!neg))|_=>.ok (.bl neg))
 |_=>.no
theorem zlA_ (ha:DR K d v H){neg:Bool}{b:D}{c:Mo Unit}(hc:isD neg d .non=.ok b):b=.bl (if neg then !decide (v=.non)else decide (v=.non)):=by
 have ha:=DR.un ha;unfold isD at hc;cases z:d.un with
 |non=>rw[z]at ha hc;cases ha.non;cases hc;cases neg<;>rfl
 |bl=>rw[z]at ha hc;cases ha.bl;cases hc;cases neg<;>rfl
 |int=>rw[z]at ha hc;cases ha.int;cases hc;cases neg<;>rfl
 |str=>rw[z]at ha hc;cases ha.str;cases hc;cases neg<;>rfl
 |nd=>rw[z]at ha hc;obtain⟨_,_,rfl,_⟩:=ha.nd;cases hc;cases neg<;>rfl
 |fz=>exact absurd z (un_fz d)
 |pin=>rw[z]at hc;cases hc
 |gone=>rw[z]at hc;cases hc
theorem zi1_ {neg:Bool}{a b:D}{k:D->Hp->Hp->Prop}(q:After K (isD neg a b) E F H k):b=.non/\∃c,isD neg a .non=.ok c/\After K (.ok c) E F H k:=by
 unfold isD at q ⊢;split at q
 ·refine⟨rfl,?_⟩
  split at q
  ·exact q.elim
  ·exact q.elim
  ·exact⟨_,rfl,q⟩
  ·exact⟨_,rfl,q⟩
 ·exact q.elim
theorem od_is:Op2D K mIs E (isD uP):=by
 intro a b x y F H Q hs ha hb q;obtain⟨rfl,c,e,q⟩:=zi1_ q;cases DR.non (K:=K) (H:=F) hb;cases zlA_ (c:=.no) ha e;exact gotB q hs
theorem zri_:Op2D K mIsNot E (isD uO):=by
 intro a b x y F H Q hs ha hb q;obtain⟨rfl,c,e,q⟩:=zi1_ q;cases DR.non (K:=K) (H:=F) hb;cases zlA_ (c:=.no) ha e;exact gotB q hs
def flats:List D->Option (List V)
 |[]=>uM []
 |d::ds=>d.un.flat?.bind λx=>(flats ds).map λxs=>x::xs
theorem zi5_:∀{ds:List D}{xs us:List V},flats ds=uM xs->DRs K ds us H->us=xs/\xs.all flatV=uO
 |[],_,_,e,h=>by cases e;unfold DRs at h;exact⟨h,rfl⟩
 |d::ds,_,_,e,h=>by
  unfold flats at e;unfold DRs at h;obtain⟨x,ex,e⟩:=k9.mp e;obtain⟨xs,exs,rfl⟩:=lh.mp e;obtain⟨v,vs,rfl,a,r⟩:=h;obtain⟨rfl,f1⟩:=zdL_ ex (DR.un a);obtain⟨rfl,f2⟩:=zi5_ exs r;exact⟨rfl,by rw[mr,f1,f2];rfl⟩
def inSeq (neg:Bool)(a:D)(ys:List D):Mo D:=(Mo.opt (a.un.flat?.bind λx=>(flats ys).map λzs=>inV x zs)).bind λc=>.ok (.bl (if neg then !c else c))
def inD (neg:Bool)(a b:D):Mo D:=match b.un with
 |.str t=>(match a.un with |.str l=>.ok (.bl (if neg then !inS l t else inS l t))|_=>.no)
 |.nd .lst ys=>inSeq neg a ys
 |.nd .tup ys=>inSeq neg a ys
 |.nd .ktup ys=>inSeq neg a ys
 |_=>.no
theorem zkk_ {neg:Bool}{a:D}{ys:List D}{x:V}(hs:Same F H)(ha:DR K a x F)(n:SqL K H p us\/SqT K H p us)(r:DRs K ys us F)(q:After K (inSeq neg a ys) E F H (OwnK (owD K) H Q)):mIn K neg x (.ref p) H Q:=by
 unfold inSeq at q;cases e:(a.un.flat?.bind λx=>(flats ys).map λzs=>inV x zs)with
 |none=>rw[e]at q;exact q.elim
 |some c=>
  rw[e]at q;obtain⟨x',ex,e⟩:=k9.mp e;obtain⟨zs,ez,rfl⟩:=lh.mp e;obtain⟨rfl,f1⟩:=zdL_ ex (DR.un ha);obtain⟨rfl,f2⟩:=zi5_ ez r;exact⟨us,n,f1,f2,gotB q hs⟩
theorem od_in {neg:Bool}:Op2D K (mIn K neg) E (inD neg):=by
 intro a b x y F H Q hs ha hb q;have hb:=DR.un hb;unfold inD at q;split at q
 ·rename_i l e;rw[e]at hb;cases hb.str
  have ha:=DR.un ha;split at q
  ·rename_i e;rw[e]at ha;cases ha.str;exact gotB q hs
  ·exact q.elim
 ·rename_i e;rw[e]at hb;obtain⟨p,us,rfl,n,r⟩:=hb.nd;exact zkk_ hs ha (.inl (.of (hs _ _ n))) r q
 ·rename_i e;rw[e]at hb;obtain⟨p,us,rfl,n,r⟩:=hb.nd;exact zkk_ hs ha (.inr (.of (hs _ _ n))) r q
 ·rename_i e;rw[e]at hb;obtain⟨p,us,rfl,n,r⟩:=hb.nd;exact zkk_ hs ha (.inr (.inr n)) r q
 ·exact q.elim
def intD (d:D):Mo Int:=match d.un with |.int i=>.ok i |_=>.no
theorem ep_x (hx:EvX K t E env r):EvP K (mPart t) E (Lof K env) (r.bind λd=>(intD d).bind λi=>.ok (uM i)):=by
 intro σ F H Q hL hs q;refine ex_v hx σ F H _ hL hs (q.bind.imp λa F1 H1 x1 k1 v1 aN=>?_)
 have ha:=DR.un aN;unfold intD at k1;split at k1
 ·rename_i i e;rw[e]at ha;cases ha.int;exact k1.ok x1.2.1
 ·exact k1.elim
def slD (a:D)(lo hi:Option Int):Mo D:=match a.un with
 |.str l=>.lim l.length (.ok (.str (cutG l lo hi)))
 |.nd .lst xs=>.ok (.nd .lst ((cutG xs lo hi).map .vw))
 |.nd .scr xs=>.ok (.nd .lst ((cutG xs lo hi).map .vw))
 |_=>.no
def OwnKs (K:lR)(H:Hp)(Q:List V->Hp->Prop)(ds:List D)(F' H':Hp):Prop:=∀vs h,(∀p,h p≠uN->H p=uN)->Dj F' h->Same h H'->ODs K ds vs F' h->Q vs H'
def EvAs (K:lR)(t:TA)(E:XK)(env:Env)(r:Mo (List D)):Prop:=∀σ F H (Q:List V->Hp->Prop),HoldF (Lof K env) σ F->Same F H->After K r E F H (OwnKs K H Q)->t σ H Q
abbrev csD (K:lR):Cs (List D):=⟨DRs K,λg h=>h.mono g⟩
theorem zgZ_:EvAs K tNil E env (.ok []):=λσ F H Q hL hs q=>q.ok hs [] (λ_=>uN) (λp z=>absurd rfl z) (λp=>.inr rfl) (λp o z=>by cases z) (by unfold ODs;exact⟨rfl,λ_=>rfl⟩)
theorem zni_ (x:Ext F H F' H')(d:Dj F h)(s:Same h H):Dj F' h:=λp=>by
 cases z:h p with
 |none=>exact .inr rfl
 |some o=>
  left;rcases d p with y |y
  ·cases w:F' p with
   |none=>rfl
   |some o'=>have:=x.2.2.2 p y (by rw[w];exact sN _);rw[s _ _ z]at this;cases this
  ·rw[y]at z;cases z
theorem zaY_ (h1:EvX K t E env r)(h2:EvAs K ta E env ra):EvAs K (tCons t ta) E env (r.bind λa=>ra.bind λas=>.ok (a::as)):=by
 intro σ F H Q hL hs q;refine h1 σ F H _ hL hs (q.bind.imp λa F1 H1 x1 k1 v k cf dw s1 o1=>?_)
 refine h2 σ F1 H1 _ (hL.mono x1.1) x1.2.1 (k1.bind.imp λas F2 H2 x2 k2 vs k' e_ g_ s2 o2=>?_)
 have d1:Dj k k':=λp=>by
  cases z:k p with
  |none=>exact .inl rfl
  |some o=>
   right;cases y:k' p with
   |none=>rfl
   |some o'=>have:=e_ p (by rw[y];exact sN _);rw[s1 _ _ z]at this;cases this
 refine k2.ok x2.2.1 (v::vs) (un k k') (λp z=>?_) (λp=>?_) (λp o z=>?_) ?_
 ·unfold un at z
  cases y:k p with
  |some o=>exact cf p (by rw[y];exact sN _)
  |none=>rw[y]at z;exact x1.2.2.1.free (e_ p z)
 ·unfold un
  cases y:k p with
  |some o=>
   rcases zni_ x2 dw s1 p with w |w
   ·exact .inl w
   ·rw[y]at w;cases w
  |none=>exact g_ p
 ·unfold un at z
  cases y:k p with
  |some o'=>rw[y]at z;cases z;exact x2.2.2.1 _ _ (s1 _ _ y)
  |none=>rw[y]at z;exact s2 _ _ z
 ·unfold ODs
  exact⟨v,vs,k,k',rfl,zai_ d1,o1.mono x2.1,o2⟩
theorem zfT_ (h:EvAs K ta E env ra):EvA K ta E (Lof K env) ra (csD K):=by
 intro σ F H Q hL hs q;refine h σ F H Q hL hs ?_;cases ra with
 |ok a=>
  intro F' H' x vs h' fresh d s o;refine q (un F' h') H' ⟨x.1.trans z1_,λp o e=>?_,x.2.2.1,λp a b=>?_⟩ vs (OD.view.go z1_ (zd1_ d) o)
  ·unfold un at e
   cases z:F' p with
   |some w=>rw[z]at e;cases e;exact x.2.1 _ _ z
   |none=>rw[z]at e;exact s _ _ e
  ·unfold un at b
   cases z:F' p with
   |some w=>exact x.2.2.2 p a (by rw[z];exact sN _)
   |none=>rw[z]at b;exact fresh p b
 |ex c=>exact q
 |no=>exact q
theorem ODs.len:∀{ds:List D}{us:List V}{h:Hp},ODs K ds us F h->ds.length=us.length
 |[],_,_,q=>by unfold ODs at q;rw[q.1];rfl
 |d::ds,_,_,q=>by unfold ODs at q;obtain⟨v,vs,h1,h2,rfl,j,a,r⟩:=q;rw[lp,lp,ODs.len r]
theorem zqJ_ (h:EvAs K ta E env ra):EvX K (tTup ta) E env (ra.bind λds=>.lim ds.length (.ok (.nd .tup ds))):=by
 intro σ F H Q hL hs q;refine h σ F H _ hL hs (q.bind.imp λds F1 H1 x1 k1 vs k cf dw s1 o1=>?_)
 obtain⟨c,k1⟩:=k1.lim;rw[ODs.len o1]at c;refine⟨c,λp hp=>?_⟩
 have nk:k p=uN:=by
  cases z:k p with
  |none=>rfl
  |some o=>rw[s1 _ _ z]at hp;cases hp
 have y:=Ext.new x1.2.1 (o:=.tup vs) hp;refine k1 _ _ y (.ref p) k cf (zni_ y dw s1) (s1.trans (zW_ hp _)) ?_;show OD K _ _ _ _
 unfold OD;exact⟨p,vs,λ_=>uN,k,rfl,⟨ze_,λ_=>rfl⟩,λq=>.inl ⟨rfl,rfl⟩,OD.mono.go y.1 o1⟩
theorem zp9_ (h:EvAs K ta E env ra):EvX K (tLst ta) E env (ra.bind λds=>.lim ds.length (.ok (.nd .lst ds))):=by
 intro σ F H Q hL hs q;refine h σ F H _ hL hs (q.bind.imp λds F1 H1 x1 k1 vs k cf dw s1 o1=>?_)
 obtain⟨c,k1⟩:=k1.lim;rw[ODs.len o1]at c;refine⟨c,λp hp=>?_⟩
 have nk:k p=uN:=by
  cases z:k p with
  |none=>rfl
  |some o=>rw[s1 _ _ z]at hp;cases hp
 have d1:Dj (one p (.lst vs)) k:=λq=>by
  rw[zb_];split
  ·rename_i e;rw[e];exact .inr nk
  ·exact .inl rfl
 refine k1 F1 _ (.heap x1.2.1 (zW_ hp _)) (.ref p) (un (one p (.lst vs)) k) (λq z=>?_) (λq=>?_) (λq o z=>?_) ?_
 ·unfold un at z;rw[zb_]at z
  by_cases e:q=p
  ·subst e;exact x1.2.2.1.free hp
  ·rw[if_neg e]at z;exact cf q z
 ·unfold un;rw[zb_]
  by_cases e:q=p
  ·subst e;exact .inl (x1.2.1.free hp)
  ·rw[if_neg e];exact dw q
 ·unfold un at z;rw[zb_]at z
  by_cases e:q=p
  ·subst e;rw[if_pos rfl]at z;cases z;exact ze_
  ·rw[if_neg e]at z;rw[zc_ e];exact s1 _ _ z
 ·show OD K _ _ _ _
  unfold OD;exact⟨p,vs,_,k,rfl,rfl,zai_ d1,o1⟩
abbrev BlD (K:lR)(m:List V->Hp->VK->Prop)(E:XK)(g:List D->Mo D):Prop:=BlO K m E (csD K) g (owD K)
theorem ex_cb {m:List V->Hp->VK->Prop}{g:List D->Mo D}(o:BlD K m E g)(h:EvAs K ta E env ra):EvX K (tCB m ta) E env (ra.bind g):=zpw_ o (zfT_ h)
theorem DRs.one (h:DRs K [d] us H):∃v,us=[v]/\DR K d v H:=by
 unfold DRs at h;obtain⟨v,vs,rfl,a,r⟩:=h;unfold DRs at r;subst r;exact⟨v,rfl,a⟩
theorem DRs.two {d':D}(h:DRs K [d,d'] us H):∃v v',us=[v,v']/\DR K d v H/\DR K d' v' H:=by
 unfold DRs at h;obtain⟨v,vs,rfl,a,r⟩:=h;obtain⟨v',rfl,b⟩:=DRs.one r;exact⟨v,v',rfl,a,b⟩
def on1 (f:D->Mo D)(ds:List D):Mo D:=match ds with |[d]=>f d.un |_=>.no
def on2 (f:D->D->Mo D)(ds:List D):Mo D:=match ds with |[d,e]=>f d.un e.un |_=>.no
theorem zdj_ {m:List V->Hp->VK->Prop}{f:D->Mo D}(h:∀d v F H (Q:VK),Same F H->DR K d v F->After K (f d) E F H (OwnK (owD K) H Q)->m [v] H Q):BlD K m E (on1 f):=by
 intro ds vs F H Q hs hd q;unfold on1 at q;split at q
 ·obtain⟨v,rfl,a⟩:=DRs.one hd;exact h _ _ F H Q hs (DR.un a) q
 ·exact q.elim
theorem zo9_ {m:List V->Hp->VK->Prop}{f:D->D->Mo D}(h:∀d e v w F H (Q:VK),Same F H->DR K d v F->DR K e w F->After K (f d e) E F H (OwnK (owD K) H Q)->m [v,w] H Q):BlD K m E (on2 f):=by
 intro ds vs F H Q hs hd q;unfold on2 at q;split at q
 ·obtain⟨v,w,rfl,a,b⟩:=DRs.two hd;exact h _ _ _ _ F H Q hs (DR.un a) (DR.un b) q
 ·exact q.elim
def lenD:List D->Mo D:=on1 λd=>match d with
 |.str l=>.lim l.length (.ok (.int l.length))
 |.nd .lst xs=>.ok (.int xs.length)
 |.nd .tup xs=>.ok (.int xs.length)
 |.nd .scr xs=>.ok (.int xs.length)
 |.nd .ktup xs=>.ok (.int xs.length)
 |_=>.no
theorem zpr_:BlD K (mLen K) E lenD:=zdj_ λd v F H Q hs hd q=>by
 split at q
 ·cases hd.str;obtain⟨c,q⟩:=q.lim;exact⟨c,gotI q hs⟩
 ·obtain⟨p,us,rfl,n,r⟩:=hd.nd;exact⟨us,.inl (.of (hs _ _ n)),by rw[<- r.len];exact gotI q hs⟩
 ·obtain⟨p,us,rfl,n,r⟩:=hd.nd;exact⟨us,.inr (.of (hs _ _ n)),by rw[<- r.len];exact gotI q hs⟩
 ·obtain⟨p,us,rfl,n,r⟩:=hd.nd;exact⟨us,.inl (hs.seq n),by rw[<- r.len];exact gotI q hs⟩
 ·obtain⟨p,us,rfl,n,r⟩:=hd.nd;exact⟨us,.inr (.inr n),by rw[<- r.len];exact gotI q hs⟩
 ·exact q.elim
def dlenD:List D->Mo D:=on1 λd=>match d with |.nd (.dct ks) xs=>.ok (.int xs.length)|_=>.no
theorem zn2_:BlD K mLenD E dlenD:=zdj_ λd v F H Q hs hd q=>by
 split at q
 ·rename_i ks xs
  obtain⟨p,us,rfl,n,r⟩:=hd.nd;refine⟨_,hs _ _ n.1,?_⟩;rw[show(ks.zip us).length=xs.length from by rw[mB,n.2.1,og,r.len]]
  exact gotI q hs
 ·exact q.elim
def minD:List D->Mo D:=on2 λa b=>match a,b with |.int i,.int j=>.ok (.int (min i j))|_,_=>.no
theorem zoX_:BlD K (mTwo min) E minD:=zo9_ λd e v w F H Q hs hd he q=>by
 split at q
 ·cases hd.int;cases he.int;exact gotI q hs
 ·exact q.elim
def strD:List D->Mo D:=on1 λd=>match d with |.int i=>.grd (i.natAbs.log2<1920) (.ok (.str (strI i)))|_=>.no
theorem zq8_:BlD K mStr E strD:=zdj_ λd v F H Q hs hd q=>by
 split at q
 ·cases hd.int;obtain⟨c,q⟩:=q.grd;exact⟨c,gotS q hs⟩
 ·exact q.elim
abbrev MeD (K:lR)(m:V->List V->Hp->VK->Prop)(E:XK)(g:List Nat->List D->Mo D):Prop:=MeO K m E (csD K) g (owD K)
def strOf (d:D):Mo (List Nat):=match d.un with |.str l=>.ok l |_=>.no
theorem ex_me {m:V->List V->Hp->VK->Prop}{g:List Nat->List D->Mo D}(o:MeD K m E g)(h0:EvX K t E env r)(h:EvAs K ta E env ra):EvX K (tBM K "str" m t ta) E env (r.bind λd=>(strOf d).bind λl=>ra.bind λc=>g l c):=by
 intro σ F H Q hL hs q;refine ex_v h0 σ F H _ hL hs (q.bind.imp λd F1 H1 x1 k1 v hv=>?_)
 have ha:=DR.un hv;unfold strOf at k1;split at k1
 ·rename_i l e;rw[e]at ha;cases ha.str
  refine⟨?_,?_⟩
  ·exact rfl
  ·refine zfT_ h σ F1 H1 _ (hL.mono x1.1) x1.2.1 (After.imp (After.bind (show After K (ra.bind λc=>g l c) E F1 H1 _ from k1)) λc F2 H2 x2 k2 vs cz=>?_)
   exact o l c vs F2 H2 Q x2.2.1 cz (k2.imp λa F3 H3 x3 k3=>k3.back (x1.2.2.1.trans x2.2.2.1))
 ·exact k1.elim
end
noncomputable def Nd.own:Nd->Bool
 |.scr=>uP |.ktup=>uP |_=>uO
def D.at:D->List Nat->Option D
 |d,[]=>uM d
 |.nd k ds,i::js=>bif k.own then ds[i]?.bind λd=>d.at js else uN
 |_,_=>uN
theorem za7_ {k:Nd}{ds:List D}{j:Nat}{js:List Nat}:(D.nd k ds).at (j::js)=bif k.own then ds[j]?.bind λd=>d.at js else uN:=by rw[D.at]
def kidsO:HO->List V
 |.tup us=>us |.lst us=>us |.dK kvs=>kvs.map (·.2)|.ins _ _ fs=>fs.map (·.2)|_=>[]
def vAt (H:Hp):V->List Nat->Option V
 |v,[]=>uM v
 |v,j::js=>(match v with |.ref p=>(H p).bind λo=>(kidsO o)[j]? |_=>uN).bind λw=>vAt H w js
noncomputable def D.put:D->List Nat->D->D
 |_,[],x=>x
 |.nd k ds,i::js,x=>(match ds[i]? with |some d=>.nd k (ds.set i (d.put js x))|none=>.nd k ds)
 |d,_,_=>d
section
variable {K:mj}{F F' h h1 h2 H H':Hp}{d:D}{ds:List D}{v:V}{us:List V}{k:Nd}{p:kR}
theorem ODs.focus:∀{ds:List D}{us:List V}{h:Hp}{i:Nat}{c:D},ODs K ds us F h->ds[i]?=uM c ->
  ∃u h1 h2,us[i]?=uM u/\Jn h1 h2 h/\OD K c u F h1/\∀c' F' u' h1' h',Same F F'->OD K c' u' F' h1'->Jn h1' h2 h'->ODs K (ds.set i c') (us.set i u') F' h'
 |[],_,_,_,_,_,e=>by simp at e
 |d::ds,_,h,0,c,q,e=>by
  unfold ODs at q;obtain⟨v,vs,h1,h2,rfl,j,a,r⟩:=q;simp at e;subst e;refine⟨v,h1,h2,rfl,j,a,λc' F' u' h1' h' g o j'=>?_⟩
  rw[oG,oG];unfold ODs;exact⟨u',vs,h1',h2,rfl,j',o,OD.mono.go g r⟩
 |d::ds,_,h,i+1,c,q,e=>by
  unfold ODs at q;obtain⟨v,vs,h1,h2,rfl,j,a,r⟩:=q;obtain⟨u,k1,k2,e1,j1,o1,f⟩:=ODs.focus r (by simpa using e)
  obtain⟨m,jm,jh⟩:=zk_ j1 (zaa_ j);refine⟨u,k1,m,by simpa using e1,jh,o1,λc' F' u' b7 h' g o' j'=>?_⟩
  rw[pj,pj];unfold ODs;exact⟨v,vs.set i u',h1,un b7 k2,rfl,jn_re jm j',a.mono g,f c' F' u' b7 _ g o' (zai_ (dj_of jm j'))⟩
theorem zcB_ {α:Type}{l:List α}{i:Nat}{x:α}(h:l[i]?=uM x):l.set i x=l:=zkv_ h
theorem Cell.same (g:Same F F')(c:Cell K k p us F h):Cell K k p us F' h:=c.mono g.tups
theorem zkO_ {k:Nd}(hk:k.own=uO)(n:NdR K k p us H):∃o,H p=uM o/\kidsO o=us:=by
 cases k with
 |tup=>exact⟨_,n,rfl⟩
 |lst=>exact⟨_,n,rfl⟩
 |dct ks=>exact⟨_,n.1,qm (qv n.2.1.symm)⟩
 |obj c ns=>obtain⟨dx,e,l⟩:=n;exact⟨_,e,qm (qv l.symm)⟩
 |_=>cases hk
theorem zb2_ (g:Same H H'):∀{js:List Nat}{v u:V},vAt H v js=uM u->vAt H' v js=uM u
 |[],_,_,h=>h
 |j::js,v,u,h=>by
  unfold vAt at h ⊢;obtain⟨w,hw,h2⟩:=k9.mp h;clear h;cases v with
  |ref p=>
   obtain⟨o,ho,hw⟩:=k9.mp hw;dsimp only;rw[g _ _ ho];exact k9.mpr ⟨w,hw,zb2_ g h2⟩
  |_=>cases hw
theorem zfX_ {k:Nd}{j:Nat}{js:List Nat}{w u:V}(hk:k.own=uO)(n:NdR K k p us H)(hw:us[j]?=uM w)(h:vAt H w js=uM u):vAt H (.ref p) (j::js)=uM u:=by
 obtain⟨o,ho,e⟩:=zkO_ hk n;unfold vAt;dsimp only;rw[ho];exact k9.mpr ⟨w,by rw[<- e]at hw;exact hw,h⟩
theorem zdZ_ {k:Nd}{j:Nat}{w:V}(hk:k.own=uO)(n:NdR K k p us H)(hw:us[j]?=uM w):∀{js:List Nat}{v:V},vAt H v js=uM (.ref p)->vAt H v (js++[j])=uM w
 |[],_,h=>by cases h;exact zfX_ hk n hw rfl
 |i::js,v,h=>by
  rw[l0];unfold vAt at h ⊢;obtain⟨x,hx,h⟩:=k9.mp h;exact k9.mpr ⟨x,hx,zdZ_ hk n hw h⟩
theorem OD.focus:∀{js:List Nat}{d:D}{v:V}{h:Hp}{c:D},OD K d v F h->d.at js=uM c ->
  ∃u h1 h2,(∀H,Same F H->Same h H->vAt H v js=uM u)/\Jn h1 h2 h/\OD K c u F h1/\∀c' F' h1' h',Same F F'->OD K c' u F' h1'->Jn h1' h2 h'->OD K (d.put js c') v F' h'
 |[],d,v,h,c,q,e=>by
  unfold D.at at e;cases e;refine⟨v,h,λ_=>uN,λH _ _=>rfl,λp=>.inr ⟨rfl,rfl⟩,q,λc' F' h1' h' g o j=>?_⟩
  unfold D.put;have:h'=h1':=by
   funext p;rcases j p with⟨a,b⟩|⟨a,b⟩
   ·rw[a,b]
   ·exact b
  rw[this];exact o
 |i::js,.nd k ds,v,h,c,q,e=>by
  rw[za7_]at e;cases hk:k.own with
  |false=>rw[hk]at e;cases e
  |true=>
  rw[hk,cond_true]at e;obtain⟨d',e1,e2⟩:=k9.mp e;unfold OD at q;obtain⟨p,us,h0,hr,rfl,cl,j,r⟩:=q;obtain⟨u1,k1,k2,eu,jk,o1,f⟩:=ODs.focus r e1;obtain⟨u,m1,m2,vp,jm,o2,g⟩:=OD.focus o1 e2;obtain⟨a,ja,jb⟩:=zk_ jm jk;obtain⟨b,jc,jd⟩:=zk_ jb (zaa_ j);refine⟨u,m1,b,λH s1 s2=>zfX_ hk (cl.nd s1 (j.l.trans s2)) eu (vp H s1 (jk.l.trans (j.r.trans s2))),jd,o2,λc' F' h1' h' s o' j'=>?_⟩
  unfold D.put;rw[e1];dsimp only;unfold OD;have d1:Dj h1' a:=λq=>by
   rcases j'.dj q with z |z
   ·exact .inl z
   ·exact .inr (jc.l.free z)
  have d2:Dj h1' m2:=λq=>by
   rcases d1 q with z |z
   ·exact .inl z
   ·exact .inr (ja.l.free z)
  have jx:Jn (un h1' m2) k2 (un h1' a):=λq=>by
   unfold un;rcases ja q with⟨z,w⟩|⟨z,w⟩
   ·rw[z]
    cases y:h1' q with
    |none=>left;exact⟨rfl,w⟩
    |some o=>
     right;rcases d1 q with t |t
     ·rw[t]at y;cases y
     ·rw[w]at t;exact⟨t,rfl⟩
   ·right
    refine⟨z,?_⟩;cases y:h1' q with
    |none=>exact w
    |some o=>rfl
  have on:=g c' F' h1' (un h1' m2) s o' (zai_ d2);have rn:=f _ F' u1 _ (un h1' a) s on jx;rw[zcB_ eu]at rn;refine⟨p,us,h0,un h1' a,rfl,cl.same s,?_,rn⟩;intro q;unfold un;rcases j' q with⟨z,w⟩|⟨z,w⟩
  ·rw[z,w]
   rcases jc q with⟨y,t⟩|⟨y,t⟩
   ·right;exact⟨y,t⟩
   ·left;exact⟨y,t⟩
  ·rw[w]
   have z0:h0 q=uN:=jc.r.free z;left;refine⟨z0,?_⟩;cases y:h1' q with
   |none=>exact(jc.l.free z).symm
   |some o=>rfl
 |_::_,.non,_,_,_,_,e=>by simp[D.at]at e
 |_::_,.bl _,_,_,_,_,e=>by simp[D.at]at e
 |_::_,.int _,_,_,_,_,e=>by simp[D.at]at e
 |_::_,.str _,_,_,_,_,e=>by simp[D.at]at e
 |_::_,.fz _,_,_,_,_,e=>by simp[D.at]at e
 |_::_,.pin _,_,_,_,_,e=>by simp[D.at]at e
 |_::_,.gone,_,_,_,_,e=>by simp[D.at]at e
theorem Hold.atG:∀{L:List Sl}{σ:L2.St}{h:Hp}{i:Nat}{s:Sl},Hold L σ F h->L[i]?=uM s ->
  ∃o h1 h2,σ[i]?=uM o/\Jn h1 h2 h/\s.P o F h1/\∀s' o' F' h1' h',Same F F'->s'.P o' F' h1'->Jn h1' h2 h'->Hold (L.set i s') (σ.set i o') F' h'
 |[],_,_,_,_,_,e=>by simp at e
 |s::L,[],_,_,_,q,_=>q.elim
 |s::L,o::σ,h,0,t,q_,e=>by
  obtain⟨h1,h2,j,p,r⟩:=q_;simp at e;subst e;exact⟨o,h1,h2,rfl,j,p,λs' o' F' h1' h' g p' j'=>⟨h1',h2,j',p',r.mono g⟩⟩
 |s::L,o::σ,h,i+1,t,q_,e=>by
  obtain⟨h1,h2,j,p,r⟩:=q_;obtain⟨o1,k1,k2,e1,j1,p1,f⟩:=Hold.atG r (by simpa using e)
  obtain⟨m,jm,jh⟩:=zk_ j1 (zaa_ j);exact⟨o1,k1,m,by simpa using e1,jh,p1,λs' o' F' b7 h' g aK j'=>⟨h1,un b7 k2,jn_re jm j',p.mono g,f s' o' F' b7 _ g aK (zai_ (dj_of jm j'))⟩⟩
theorem Hold.more:∀{L:List Sl}{σ:L2.St}{h g h':Hp},Hold L σ F h->Jn g h h'->Hold L σ F h'
 |[],[],_,_,_,_,_=>trivial
 |s::L,[],_,_,_,q,_=>q.elim
 |[],_::_,_,_,_,q,_=>q.elim
 |s::L,o::σ,h,g,h',q_,j'=>by
  obtain⟨h1,h2,j,p,r⟩:=q_;obtain⟨m,jm,jh⟩:=zk_ j (zaa_ j');exact⟨h1,m,jh,p,Hold.more r (zaa_ jm)⟩
noncomputable abbrev Ws:=Nat->Option V
def slotW (K:lR)(w:Option V)(o:Option D):Sl:=match o with
 |none=>.dead
 |some d=>(match w with |none=>.ow (owD K) d |some u=>.ow (owAt u (owD K)) d)
abbrev LofW (K:lR)(ws:Ws)(env:Env):List Sl:=env.mapIdx λi o=>slotW K (ws i) o
variable {ws:Ws}{env:Env}{σ:L2.St}{i:Nat}{js:List Nat}{c:D}
theorem zbl_ {o:Option D}(ho:env[i]?=uM o):(LofW K ws env)[i]?=uM (slotW K (ws i) o):=by
 rw[pN,ho];rfl
theorem zcF_ {o:Option D}:(LofW K ws env).set i (slotW K (ws i) o)=LofW K ws (env.set i o):=by
 refine pB λj=>?_
 rw[nu,pN,pN,nu,List.length_mapIdx];by_cases e:i=j
 ·subst e;rw[if_pos rfl,if_pos rfl];split<;>rfl
 ·rw[if_neg e,if_neg e]
theorem zli_ {w:Option V}{o:Option D}{x:Option V}(h:(slotW K w o).Z x F):(slot K o).Z x F:=by
 cases o with
 |none=>trivial
 |some d=>cases w with |none=>exact h |some u=>exact h
theorem zco_ (h:HoldF (LofW K ws env) σ F):HoldF (Lof K env) σ F:=by
 intro i s e;rw[kZ]at e;cases z:env[i]? with
 |none=>rw[z]at e;cases e
 |some o=>
  rw[z]at e;cases e;exact zli_ (h i _ (zbl_ z))
theorem zdk_ {w:Option V}{d:D}{x:Option V}(h:(slotW K w (uM d)).P x F h1):∃v,x=uM v/\(∀u,w=uM u->v=u)/\OD K d v F h1:=by
 cases w with
 |none=>obtain⟨v,e,o⟩:=h;exact⟨v,e,(λu z=>by cases z),o⟩
 |some u=>obtain⟨v,e,z,o⟩:=h;exact⟨v,e,(λu' y=>by cases y;exact z),o⟩
theorem zcA_ {w:Option V}{d:D}{v:V}(hw:∀u,w=uM u->v=u)(o:OD K d v F h1):(slotW K w (uM d)).P (uM v) F h1:=by
 cases w with
 |none=>exact⟨v,rfl,o⟩
 |some u=>exact⟨v,rfl,hw u rfl,o⟩
theorem zbO_ (hL:Hold (LofW K ws env) σ F h)(hi:env[i]?=uM (uM d))(hc:d.at js=uM c):
  ∃v u h1 h2,σ[i]?=uM (uM v)/\(∀H,Same F H->Same h H->vAt H v js=uM u)/\Jn h1 h2 h/\OD K c u F h1/\∀c' F' h1' h',Same F F'->OD K c' u F' h1'->Jn h1' h2 h'->Hold (LofW K ws (env.set i (uM (d.put js c')))) σ F' h':=by
 obtain⟨o,k1,k2,e1,j,pp,f⟩:=Hold.atG hL (zbl_ hi);obtain⟨v,rfl,hv,od⟩:=zdk_ pp;obtain⟨u,m1,m2,vp,jm,o1,g⟩:=od.focus hc;obtain⟨a,ja,jb⟩:=zk_ jm j;refine⟨v,u,m1,a,e1,(λH s1 s2=>vp H s1 (j.l.trans s2)),jb,o1,λc' F' h1' h' s o' j'=>?_⟩
 have d1:Dj h1' m2:=λq=>by
  rcases j'.dj q with z |z
  ·exact .inl z
  ·exact .inr (ja.l.free z)
 have:=f (slotW K (ws i) (uM (d.put js c'))) (uM v) F' (un h1' m2) h' s (zcA_ hv (g c' F' h1' _ s o' (zai_ d1))) ?_
 ·rw[zcF_,zcB_ e1]at this;exact this
 ·intro q
  unfold un;rcases j' q with⟨z,w⟩|⟨z,w⟩
  ·rw[z,w]
   rcases ja q with⟨y,t⟩|⟨y,t⟩
   ·left;exact⟨y,t⟩
   ·right;exact⟨y,t⟩
  ·rw[w]
   have z0:k2 q=uN:=ja.r.free z;right;refine⟨z0,?_⟩;cases y:h1' q with
   |none=>exact(ja.l.free z).symm
   |some o=>rfl
end
inductive Mr (s α:Type) where
 |ok (a:α) (t:s)|ex (c:Xc) (t:s)|no
noncomputable abbrev Fn:=List D->Mr (List D) D
def Fn.val (f:Fn)(ds:List D):Mo D:=match f ds with |.ok d _=>.ok d |.ex c _=>.ex c |.no=>.no
section
variable {K:mj}{E:XK}{F F' F0 H0 h h1 h2 H H':Hp}{d:D}{ds:List D}{v:V}{us vs:List V}{k:Nd}{p:kR}{Q:VK}{env:Env}{t:TE}{r:Mo D}{ta:TA}{ra:Mo (List D)}{f:Fn}
def FinC (K:lR)(r:Mr (List D) D)(E:XK)(F0 H0:Hp)(vs:List V)(Q:VK):Prop:=match r with
 |.ok d ds=>∀v F h H hr h2,Okk F0 H0 F h H->Jn hr h2 h->OD K d v F hr->ODs K ds vs F h2->Q v H
 |.ex c ds=>∀F h H,Okk F0 H0 F h H->ODs K ds vs F h->Tell K E c H0 F H
 |.no=>False
def CtG (K:lR)(f:Fn):Sp:=λvs H Q E=>∃F h ds,Same F H/\Dj F h/\Same h H/\ODs K ds vs F h/\FinC K (f ds) E F (less H h) vs Q
theorem zlv_ (hn:∀p,h p=uN):less H h=H:=funext λp=>z8_ (hn p)
theorem zfR_ (hs:Same F H)(hd:DRs K ds vs F)(q:After K (f.val (ds.map D.vw)) E F H (OwnK (owD K) H Q)):CtG K f vs H Q E:=by
 refine⟨F,λ_=>uN,ds.map D.vw,hs,λ_=>.inr rfl,(λp o z=>by cases z),ODs.vw (λ_=>rfl) hd,?_⟩
 rw[zlv_ λ_=>rfl]
 unfold Fn.val at q;cases e:f (ds.map D.vw)with
 |no=>rw[e]at q;exact q
 |ok d ds'=>
  rw[e]at q;intro v F' h' H' hr h2 ok j o _;refine q F' H' ok.1 v hr (λp z=>ok.2.2.2.1 p ?_) (dj_l ok.2.1 j) (j.l.trans ok.2.2.1) o
  cases y:hr p with
  |none=>exact absurd y z
  |some w=>rw[j.l _ _ y];exact sN _
 |ex c ds'=>rw[e]at q;exact λF' h' H' ok _=>q F' H' ok.1
theorem znz_ (h:EvAs K ta E env ra):EvX K (tCall (CtG K f) [] E ta) E env (ra.bind λds=>f.val (ds.map D.vw)):=by
 intro σ F H Q hL hs q;refine zfT_ h σ F H _ hL hs (q.bind.imp λds F1 H1 x1 k1 vs cz=>?_)
 rw[nU];exact zfR_ x1.2.1 cz (k1.imp λr F2 H2 x2 k2=>k2.back x1.2.2.1)
theorem zcT_:∀{ns:List Str}{us:List V}{f:Str}{v:V},us[ns.idxOf f]?=uM v->ns.length=us.length->(ns.zip us).lookup f=uM v
 |[],us,f,v,h,l=>by cases us with |nil=>simp at h |cons=>simp at l
 |n::ns,[],f,v,h,l=>by simp at l
 |n::ns,u::us,f,v,h,l=>by
  rw[lV,pH];by_cases e:n=f
  ·subst e;simp at h;simp[h]
  ·rw[sM,show(n == f)=uP from beq_eq_false_iff_ne.mpr e,cond_false,nv]at h
   rw[show(f == n)=uP from beq_eq_false_iff_ne.mpr λz=>e z.symm]
   exact zcT_ h (by simpa using l)
def tFld (K:lR)(cs:List Str)(t:TE)(f:Str):TE:=λσ H Q=>∃c∈cs,mFld (gA K c) t f σ H Q
def fldD (cs:List Str)(f:Str)(d:D):Mo D:=match d.un with
 |.nd (.obj c ns) ds=>if c∈cs then .opt ((ds[ns.idxOf f]?).map .vw)else .no
 |_=>.no
theorem zpK_ {cs:List Str}{f:Str}(h0:cs≠[])(hx:EvX K t E env r):EvX K (tFld K cs t f) E env (r.bind (fldD cs f)):=by
 intro σ F H Q hL hs q;have main:∀c∈cs,(∀d,r=.ok d->∃ns ds,d.un=.nd (.obj c ns) ds)->tFld K cs t f σ H Q:=λc hc hd=>⟨c,hc,by
  refine ex_v hx σ F H _ hL hs ?_;cases e:r with
  |no=>rw[e]at q;exact q
  |ex x=>rw[e]at q;exact q
  |ok d=>
   obtain⟨ns,ds,e2⟩:=hd d e;rw[e]at q;intro F1 H1 x1 v hv;have hv:=DR.un hv;rw[e2]at hv;obtain⟨p,us,rfl,⟨dx,hp,l⟩,rs⟩:=hv.nd;have q:After K (fldD cs f d) E F H _:=q;unfold fldD at q;rw[e2]at q;dsimp only at q;rw[if_pos hc]at q;obtain⟨d',e3,q⟩:=q.opt;obtain⟨d0,e4,rfl⟩:=lh.mp e3;rcases rs.get (ns.idxOf f)with⟨z,_⟩|⟨d1,w,g1,g2,g3⟩
   ·rw[z]at e4;cases e4
   ·rw[g1]at e4;cases e4
    refine⟨dx,_,w,x1.2.1 _ _ hp,zcT_ g2 l,?_⟩;exact gotV (E:=E) (λF2 H2 x2=>(q F2 H2 (x1.trans x2)).back x1.2.2.1) x1.2.1 g3⟩
 cases e:r with
 |no=>rw[e]at q;exact q.elim
 |ok d=>
  rw[e]at q;have q':After K (fldD cs f d) E F H (OwnK (owD K) H Q):=q;unfold fldD at q';split at q'
  ·rename_i c ns ds e2
   by_cases hc:c∈cs
   ·exact main c hc λd' z=>by rw[e]at z;cases z;exact⟨ns,ds,e2⟩
   ·rw[if_neg hc]at q';exact q'.elim
  ·exact q'.elim
 |ex x=>
  cases cs with
  |nil=>exact absurd rfl h0
  |cons c cs=>exact main c (lj ..) λd' z=>by rw[e]at z;cases z
def walkD (d:D):Mo (List D):=match d.un with
 |.str l=>.ok (l.map λc=>.str [c])
 |.nd .lst xs=>.ok xs
 |.nd .tup xs=>.ok xs
 |.nd .scr xs=>.ok xs
 |.nd .ktup xs=>.ok xs
 |_=>.no
theorem yl_L {F1:Hp}(hl:SqL K F1 p us)(r:DRs K ds us F1):Yl K (Itl K p) ds (tyD K) F1:=by
 refine⟨λi H x hH hx=>?_,λH hH=>⟨us,hH.seq hl,by rw[r.len];exact kP _⟩⟩
 rcases r.get i with⟨a,_⟩|⟨y,u,a,b,c⟩
 ·rw[a]at hx;cases hx
 ·rw[a]at hx;cases hx
  refine⟨⟨us,u,hH.seq hl,b⟩,?_⟩;rintro v H' ⟨rfl,z⟩ F hF bD;have e:=z us (hH.seq hl);rw[b]at e;cases e;exact⟨F,.refl bD,(tyD K).mono hF c⟩
theorem yl_T {F1:Hp}(hl:∀H,Same F1 H->SqT K H p us)(r:DRs K ds us F1):Yl K (Itt K p) ds (tyD K) F1:=by
 refine⟨λi H x hH hx=>?_,λH hH=>⟨us,hl H hH,by rw[r.len];exact kP _⟩⟩
 rcases r.get i with⟨a,_⟩|⟨y,u,a,b,c⟩
 ·rw[a]at hx;cases hx
 ·rw[a]at hx;cases hx
  refine⟨⟨us,u,hl H hH,b⟩,?_⟩;rintro v H' ⟨rfl,z⟩ F hF bD;have e:=z us (hl _ hH);rw[b]at e;cases e;exact⟨F,.refl bD,(tyD K).mono hF c⟩
def iAnyW (K:lR)(vs:List V)(σ:L2.St)(H1:Hp)(R:It->Hp->Prop):Prop:=match vs with |[x]=>iAny K (tC x) σ H1 R |_=>False
def WkW (K:lR)(E:XK)(wi:List V->L2.St->Hp->(It->Hp->Prop)->Prop)(g:List D->Mo (List D)):Prop:=
 ∀ds vs σ F1 H1 R,Same F1 H1->DRs K ds vs F1->After K (g ds) E F1 H1 (λxs F' H'=>∀J,Yl K J xs (tyD K) F'->R J H')->wi vs σ H1 R
theorem ei_w {wi:List V->L2.St->Hp->(It->Hp->Prop)->Prop}{g:List D->Mo (List D)}(w:WkW K E wi g)(hx:EvAs K ta E env ra):EvI K (λσ H R=>ta σ H λvs H1=>wi vs σ H1 R) E (Lof K env) (ra.bind g) (tyD K):=by
 intro σ F H R hL hs q;exact zfT_ hx σ F H _ hL hs (q.bind.imp λds F1 H1 x1 k1 vs hv=>w ds vs σ F1 H1 R x1.2.1 hv k1)
def walkA (ds:List D):Mo (List D):=match ds with |[d]=>walkD d |_=>.no
theorem w_any:WkW K E (iAnyW K) walkA:=by
 intro ds vs σ F1 H1 R x1 hv k1;unfold walkA at k1;split at k1
 rotate_left
 ·exact k1.elim
 obtain⟨v,rfl,aN⟩:=DRs.one hv;have ha:=DR.un aN;unfold walkD at k1;split at k1
 ·rename_i l e;rw[e]at ha;cases ha.str
  refine k1.ok x1 _ ⟨λi H x hH hx=>?_,λH hH=>?_⟩
  ·rw[kZ]at hx
   cases e:l[i]? with
   |none=>rw[e]at hx;cases hx
   |some c=>
    rw[e]at hx;cases hx;have hi:=(lB.mp e).1;refine⟨hi,?_⟩;rintro v H' ⟨rfl,rfl⟩ F _ hF;refine⟨F,.refl hF,?_⟩;show DR K (.str [c]) (tx [l.getD i 0]) F
    rw[kY,e];unfold DR;rfl
  ·show l.length<=_
   rw[kE];exact kP _
 ·rename_i e;rw[e]at ha;obtain⟨p,us,rfl,n,r⟩:=ha.nd
  exact .inl ⟨⟨us,.of (x1 _ _ n)⟩,k1.ok x1 _ (yl_L (.of n) r)⟩
 ·rename_i e;rw[e]at ha;obtain⟨p,us,rfl,n,r⟩:=ha.nd
  exact .inr ⟨⟨us,.of (x1 _ _ n)⟩,k1.ok x1 _ (yl_T (λH hH=>.of (hH _ _ n)) r)⟩
 ·rename_i e;rw[e]at ha;obtain⟨p,us,rfl,n,r⟩:=ha.nd
  exact .inl ⟨⟨us,x1.seq n⟩,k1.ok x1 _ (yl_L n r)⟩
 ·rename_i e;rw[e]at ha;obtain⟨p,us,rfl,n,r⟩:=ha.nd
  exact .inr ⟨⟨us,.inr n⟩,k1.ok x1 _ (yl_T (λH hH=>.inr n) r)⟩
 ·exact k1.elim
theorem ziL_ {lo:Int}{n:Nat}{F1:Hp}:Yl K (Itr lo n) ((rngI lo n).map D.int) (tyD K) F1:=by
 have y:=zrb_ (K:=K) (lo:=lo) (n:=n) (F1:=F1);refine⟨λi H x hH hx=>?_,λH hH=>by rw[kE];exact y.stop H hH⟩
 rw[kZ]at hx;obtain⟨a,ha,rfl⟩:=lh.mp hx;obtain⟨g,z⟩:=y.go i H a hH ha;refine⟨g,λv H' q F hF bD=>?_⟩
 obtain⟨F',x',e⟩:=z v H' q F hF bD;exact⟨F',x',by show DR K _ _ _;unfold DR;exact e⟩
def rng1D (ds:List D):Mo (List D):=match ds with
 |[d]=>(intD d).bind λj=>.grd (-(2 ^ 62)<=j/\j<2 ^ 62) (.ok ((rngI 0 j.toNat).map .int))
 |_=>.no
def rng2D (ds:List D):Mo (List D):=match ds with
 |[c,d]=>(intD c).bind λi=>(intD d).bind λj=>.grd (-(2 ^ 62)<=i/\i<2 ^ 62 /\ -(2 ^ 62)<=j/\j<2 ^ 62) (.ok ((rngI i (j-i).toNat).map .int))
 |_=>.no
theorem zdl_ {α:Type}{k:Int->Mo α}{kk:α->Hp->Hp->Prop}(q:After K ((intD d).bind k) E F H kk)(hd:DR K d v H'):∃i,v=.int i/\After K (k i) E F H kk:=by
 have hd:=DR.un hd;unfold intD at q;split at q
 ·rename_i i e;rw[e]at hd;exact⟨i,hd.int,q⟩
 ·exact q.elim
theorem w_rg1:WkW K E (λvs _ H1 R=>match vs with |[.int j] => -(2 ^ 62)<=j/\j<2 ^ 62/\R (Itr 0 j.toNat) H1 |_=>False) rng1D:=by
 intro ds vs σ F1 H1 R x1 hv k1;unfold rng1D at k1;split at k1
 ·obtain⟨v,rfl,a⟩:=DRs.one hv
  obtain⟨i,rfl,k1⟩:=zdl_ k1 a;obtain⟨z,k1⟩:=k1.grd;exact⟨z.1,z.2,k1.ok x1 _ ziL_⟩
 ·exact k1.elim
theorem w_rg2:WkW K E (λvs _ H1 R=>match vs with |[.int i,.int j]=>(-(2 ^ 62)<=i/\i<2 ^ 62 /\ -(2 ^ 62)<=j/\j<2 ^ 62)/\R (Itr i (j-i).toNat) H1 |_=>False) rng2D:=by
 intro ds vs σ F1 H1 R x1 hv k1;unfold rng2D at k1;split at k1
 ·obtain⟨v,v',rfl,a,b⟩:=DRs.two hv
  obtain⟨i,rfl,k1⟩:=zdl_ k1 a;obtain⟨j,rfl,k1⟩:=zdl_ k1 b;obtain⟨z,k1⟩:=k1.grd;exact⟨z,k1.ok x1 _ ziL_⟩
 ·exact k1.elim
def enumD (ds:List D):Mo (List D):=match ds with
 |[d]=>(match d.un with
  |.nd .lst xs=>.ok ((enumL xs).map λq=>.nd .tup [.int q.1,q.2])
  |.str l=>.ok ((enumL l).map λq=>.nd .tup [.int q.1,.str [q.2]])
  |_=>.no)
 |_=>.no
theorem w_en:WkW K E (λvs _ H1 R=>match vs with |[.str z]=>R (Ites z.cps.toList.length (λi=>tx [z.cps.toList.getD i 0])) H1 |[.ref a]=>(∃xs,SqL K H1 a xs)/\R (Ite K a) H1 |_=>False) enumD:=by
 intro ds vs σ F1 H1 R x1 hv k1;unfold enumD at k1;split at k1
 ·rename_i d
  obtain⟨v,rfl,a⟩:=DRs.one hv;have a:=DR.un a;split at k1
  ·rename_i xs e;rw[e]at a;obtain⟨p,us,rfl,n,r⟩:=a.nd
   refine⟨⟨us,.of (x1 _ _ n)⟩,k1.ok x1 _ ⟨λi H x hH hx=>?_,λH hH=>?_⟩⟩
   ·rw[kZ,zbD_]at hx
    rcases r.get i with⟨a,_⟩|⟨y,u,a,b,c⟩
    ·rw[a]at hx;cases hx
    ·rw[a]at hx;cases hx
     refine⟨⟨us,u,.of (hH _ _ n),b⟩,?_⟩;rintro v H' ⟨p2,w,z,bj,rfl,rfl⟩ F hF bD;have e:=z us (.of (hH _ _ n));rw[b]at e;cases e;have x:=Ext.new (o:=.tup [.int i,u]) bD bj;refine⟨_,x,?_⟩;show DR K _ _ _
     unfold DR;refine⟨p2,_,rfl,ze_,?_⟩;unfold DRs;refine⟨_,_,rfl,by unfold DR;rfl,?_⟩
     unfold DRs;exact⟨u,[],rfl,c.mono (hF.trans x.1),by unfold DRs;rfl⟩
   ·refine⟨us,.of (hH _ _ n),?_⟩
    rw[kE,zJ_,r.len];exact kP _
  ·rename_i l e;rw[e]at a;cases a.str
   refine k1.ok x1 _ ⟨λi H x hH hx=>?_,λH hH=>?_⟩
   ·rw[kZ,zbD_]at hx
    cases e:l[i]? with
    |none=>rw[e]at hx;cases hx
    |some c=>
     rw[e]at hx;cases hx;have hi:=(lB.mp e).1;refine⟨hi,?_⟩;rintro v H' ⟨p2,bj,rfl,rfl⟩ F hF bD;have x:=Ext.new (o:=.tup [.int i,tx [l.getD i 0]]) bD bj;refine⟨_,x,?_⟩;show DR K _ _ _
     unfold DR;refine⟨p2,_,rfl,ze_,?_⟩;unfold DRs;refine⟨_,_,rfl,by unfold DR;rfl,?_⟩
     unfold DRs;refine⟨_,[],rfl,?_,by unfold DRs;rfl⟩
     rw[kY,e];unfold DR;rfl
   ·show l.length<=_
    rw[kE,zJ_];exact kP _
  ·exact k1.elim
 ·exact k1.elim
structure Tg where
 tup:Bool
 is:List Nat
def tgD (g:Tg)(d:D):Option (List D):=if g.tup then(match d.un with |.nd .tup ds=>if ds.length=g.is.length then uM ds else uN |_=>uN)else if g.is.length=1 then uM [d]else uN
def tgS:List Nat->TGs
 |[]=>gNilM
 |i::is=>gConsM (gName i) (tgS is)
def tgT (K:lR)(g:Tg):TG:=if g.tup then gTupM K g.is.length (tgS g.is)else gName (g.is.headD 0)
def tyTg (K:lR)(g:Tg):Ty (List D):=⟨λds v F=>ds.length=g.is.length/\if g.tup then∃p us,v=.ref p/\F p=uM (.tup us)/\DRs K ds us F else DRs K ds [v] F,
 λ{ds v H H'} s q=>⟨q.1,by
  have q:=q.2;split at q
  ·rename_i e;rw[if_pos e];obtain⟨p,us,e1,e2,e3⟩:=q;exact⟨p,us,e1,s _ _ e2,e3.mono s⟩
  ·rename_i e;rw[if_neg e];exact q.mono s⟩⟩
def ssT (K:lR)(is:List Nat)(ds:List D):List (Nat×Sl):=is.zip (ds.map λd=>.fz (tyD K) d)
theorem tgs_R:∀{is:List Nat}{ds:List D}{us:List V}{σ:L2.St}{F H:Hp}{Q:L2.St->Hp->Prop},ds.length=is.length->DRs K ds us F->(∀vs,Plain F (ssT K is ds) vs->Q (setS σ vs) H)->tgS is us σ H Q
 |[],[],us,σ,F,H,Q,_,r,q=>by unfold DRs at r;subst r;exact q [] .nil
 |i::is,d::ds,us,σ,F,H,Q,l,r,q=>by
  unfold DRs at r;obtain⟨v,vs,rfl,a,r⟩:=r;exact tgs_R (σ:=σ.set i (uM v)) (by simpa using l) r λws hw=>q ((i,uM v)::ws) (.cons a hw)
 |[],_::_,_,_,_,_,_,l,_,_=>by simp at l
 |_::_,[],_,_,_,_,_,l,_,_=>by simp at l
theorem tg_R (g:Tg):TgR K (tgT K g) (tyTg K g) (ssT K g.is):=by
 rintro ds v σ F H Q hs ⟨hl,hd⟩ q;unfold tgT;split at hd
 ·rename_i e;rw[if_pos e]
  obtain⟨p,us,rfl,hp,r⟩:=hd;exact⟨us,.of (hs _ _ hp),by rw[<- r.len,hl],tgs_R hl r q⟩
 ·rename_i e;rw[if_neg e]
  match h:g.is,ds,hl,hd,q with
  |[i],[d],_,hd,q=>
   obtain⟨_,e,a⟩:=DRs.one hd;cases e;exact q [(i,uM v)] (.cons a .nil)
  |[],ds,hl,hd,_=>rw[ml.mp hl]at hd;unfold DRs at hd;cases hd
  |_::_::_,d::e::ds,_,hd,_=>unfold DRs at hd;obtain⟨_,_,z,_,r⟩:=hd;cases z;unfold DRs at r;obtain⟨_,_,z,_⟩:=r;cases z
def tgsD (g:Tg):List D->Option (List (List D))
 |[]=>uM []
 |d::ds=>(tgD g d).bind λx=>(tgsD g ds).map λxs=>x::xs
theorem tgD_R {g:Tg}{x:List D}(e:tgD g d=uM x)(h:DR K d v F):(tyTg K g).R x v F:=by
 unfold tgD at e;split at e
 ·rename_i z
  have h:=DR.un h;split at e
  ·rename_i ds e2
   rw[e2]at h;obtain⟨p,us,rfl,n,r⟩:=h.nd;split at e
   ·rename_i l;cases e;exact⟨l,by rw[if_pos z];exact⟨p,us,rfl,n,r⟩⟩
   ·cases e
  ·cases e
 ·rename_i z
  split at e
  ·rename_i l;cases e;exact⟨l.symm,by rw[if_neg z];unfold DRs;exact⟨v,[],rfl,h,by unfold DRs;rfl⟩⟩
  ·cases e
theorem zep_ {g:Tg}:∀{ds:List D}{xs:List (List D)},tgsD g ds=uM xs->xs.length=ds.length/\∀(i:Nat) x,xs[i]?=uM x->∃d,ds[i]?=uM d/\tgD g d=uM x
 |[],_,e=>by cases e;exact⟨rfl,λi x h=>by simp at h⟩
 |d::ds,_,e=>by
  unfold tgsD at e;obtain⟨x,e1,e⟩:=k9.mp e;obtain⟨xs,e2,rfl⟩:=lh.mp e;obtain⟨l,f⟩:=zep_ e2;refine⟨by rw[lp,lp,l],λi y h=>?_⟩
  cases i with
  |zero=>simp at h;subst h;exact⟨d,rfl,e1⟩
  |succ i=>exact f i y (by simpa using h)
theorem ei_tg {wi:TI}{L:List Sl}{rs:Mo (List D)}(g:Tg)(h:EvI K wi E L rs (tyD K)):EvI K wi E L (rs.bind λl=>.opt (tgsD g l)) (tyTg K g):=by
 intro σ F H R hL hs q;refine h σ F H _ hL hs (q.bind.imp λds F1 H1 x1 k1 J Y=>?_)
 obtain⟨xs,e,k1⟩:=k1.opt;obtain⟨l,f⟩:=zep_ e;refine k1.ok x1.2.1 J ⟨λi H x hH hx=>?_,λH hH=>by rw[l];exact Y.stop H hH⟩
 obtain⟨d,hd,e2⟩:=f i x hx;obtain⟨g1,z⟩:=Y.go i H d hH hd;refine⟨g1,λv H' q F hF bD=>?_⟩
 obtain⟨F',x',hv⟩:=z v H' q F hF bD;exact⟨F',x',tgD_R e2 hv⟩
def setE (env:Env):List Nat->List D->Env
 |i::is,d::ds=>setE (env.set i (uM d.vw)) is ds
 |_,_=>env
def cE (lv:List Str)(fr:List (Str×Nat))(env:Env):Env:=lv.map (λ_=>uN)++fr.map λq=>(env[q.2]?).join
theorem cL_eq {lv:List Str}{fr:List (Str×Nat)}:cL lv fr (Lof K env)=Lof K (cE lv fr env):=by
 unfold cL cE;show _=List.map (slot K) (_++_)
 rw[mT,lY,lY];congr 1;refine nC λq _=>?_
 simp only[Function.comp,kZ];cases env[q.2]? with
 |none=>rfl
 |some o=>rfl
def LeZ (L L':List Sl):Prop:=∀(i:Nat) s',L'[i]?=uM s'->∃s,L[i]?=uM s/\∀o F,s.Z o F->s'.Z o F
theorem LeZ.hold {L L':List Sl}{σ:L2.St}(z:LeZ L L')(h:HoldF L σ F):HoldF L' σ F:=λi s' e=>by
 obtain⟨s,e1,e2⟩:=z i s' e;exact e2 _ _ (h i s e1)
theorem ziP_:∀{is:List Nat}{ds:List D}{L:List Sl}{env:Env},LeZ L (Lof K env)->LeZ (setL L (ssT K is ds)) (Lof K (setE env is ds))
 |[],_,_,_,z=>z
 |_::_,[],_,_,z=>z
 |i::is,d::ds,L,env,z=>by
  refine ziP_ (is:=is) (ds:=ds) (L:=L.set i (.fz (tyD K) d)) (env:=env.set i (uM d.vw)) ?_;intro j s' e;rw[kZ,nu]at e;by_cases hj:i=j
  ·subst hj
   rw[if_pos rfl]at e;by_cases hl:i<env.length
   ·rw[if_pos hl]at e
    cases e;obtain⟨s,e1,_⟩:=z i _ (by rw[kZ,kz hl];rfl)
    refine⟨.fz (tyD K) d,by rw[mZ (lB.mp e1).1],?_⟩
    rintro o F ⟨v,e2,hv⟩;refine⟨v,e2,?_⟩;show DR K d.vw v F
    unfold D.vw;split
    ·exact hv
    ·split
     ·exact hv
     ·unfold DR;exact hv
   ·rw[if_neg hl]at e;cases e
  ·rw[if_neg hj]at e
   obtain⟨s,e1,e2⟩:=z j s' (by rw[kZ];exact e)
   exact⟨s,by rw[lL hj];exact e1,e2⟩
theorem zkD_ {L:List Sl}:LeZ L L:=λi s e=>⟨s,e,λ_ _ h=>h⟩
theorem zpp_ (h:(owLO (owD K)).O ds v F h1):OD K (.nd .lst ds) v F h1:=by
 obtain⟨p,vs,h2,rfl,j,q⟩:=h;unfold OD;have go:∀{ds:List D}{vs:List V}{h:Hp},OwAll (owD K) F ds vs h->ODs K ds vs F h:=λ{ds}=>by
  induction ds with
  |nil=>intro vs h q;cases vs with |nil=>unfold ODs;exact⟨rfl,q⟩|cons=>exact q.elim
  |cons d ds ih=>intro vs h q;cases vs with |nil=>exact q.elim |cons v vs=>obtain⟨h1,h2,j,a,r⟩:=q;unfold ODs;exact⟨v,vs,h1,h2,rfl,j,a,ih r⟩
 exact⟨p,vs,_,h2,rfl,rfl,j,go q⟩
theorem ziA_ {lv:List Str}{fr:List (Str×Nat)}{wi:TI}{g:Tg}{tt:TT}{te:TE}{rs:Mo (List D)}{c:List D->Mo Bool}{f:List D->Mo D}(hi:EvI K wi E (Lof K env) rs (tyD K))(hg:∀i∈g.is,i<lv.length)
  (ht:∀a,EvT K tt E0 (Lof K (setE (cE lv fr env) g.is a)) (c a)) (he:∀a,EvX K te E0 (setE (cE lv fr env) g.is a) (f a)):
  EvX K (tComp lv fr wi (tgT K g) tt te) E env ((rs.bind λl=>.opt (tgsD g l)).bind λxs=>(compM (λx=>cond1 (c x) (f x)) xs []).bind λys=>.ok (.nd .lst ys)):=by
 have z:∀a,LeZ (setL (cL lv fr (Lof K env)) (ssT K g.is a)) (Lof K (setE (cE lv fr env) g.is a)):=λa=>ziP_ (by rw[cL_eq];exact zkD_)
 have dead:∀a,DeadAt (cL lv fr (Lof K env)) ((ssT K g.is a).map (·.1)):=λa i hi s e=>by
  have:i∈g.is:=by
   obtain⟨q,hq,rfl⟩:=mz.mp hi;exact(nX hq).1
  have hl:=hg i this;unfold cL at e;rw[mF (by rw[kE];exact hl),kZ,kz hl]at e
  cases e;rfl
 have:=zjF_ (lv:=lv) (fr:=fr) (ei_tg g hi) (tg_R g) dead (λa σ F H Q hL hs q=>ht a σ F H Q ((z a).hold hL) hs q) (λa σ F H Q hL hs q=>he a σ F H Q ((z a).hold hL) hs q)
 intro σ F H Q hL hs q;refine this σ F H Q hL hs ?_;have e:∀(m:Mo (List (List D))),(m.bind λxs=>(compM (λx=>cond1 (c x) (f x)) xs []).bind λys=>.ok (D.nd .lst ys))=(m.bind λxs=>compM (λx=>cond1 (c x) (f x)) xs []).bind λys=>.ok (.nd .lst ys):=λm=>(Mo.bind_assoc _ _ _).symm
 rw[e]at q;exact q.bind.imp λys F1 H1 x1 k1 v k cf dj s o=>k1.ok x1.2.1 v k cf dj s (zpp_ o)
end
def rDGet:R2:=λx y H Q=>atD x y H λ_ kvs k=>∃v,valV kvs k=uM v/\Q v H
def rDIn (neg:Bool):R2:=λy x H Q=>atD x y H λ_ kvs k=>Q (.bl (if neg then !(valV kvs k).isSome else(valV kvs k).isSome)) H
def rIxA (K:lR):R2:=λx y H Q=>mIx K x y H Q\/rDGet x y H Q
def rInA (K:lR)(neg:Bool):R2:=λx y H Q=>mIn K neg x y H Q\/rDIn neg x y H Q
def mLenA (K:lR):List V->Hp->VK->Prop:=λvs H Q=>mLen K vs H Q\/mLenD vs H Q
section
variable {X:Cx}
theorem zjH_ (hu:X.A.units+60<cLine):IxR X rDGet:=by
 intro value slice pins s σ H x y v u Q I rx ry h hs;obtain⟨a,kvs,k,rfl,rfl,hd,w,hw,q⟩:=zgW_ h;obtain rfl:v=mE a:=rx;have g:DGet H a (kV k) (uM w):=by rw[<- hw];exact DGet.k hd
 have hT:=ze9_ I g;unfold subscriptTail;refine kJ ?_;rw[getitemInPython_of_ne hT.not_modules];refine kJ (wpAny_specialOf hT PySem.F.slot_dict_getitem.lookup ?_);have fin:lJ (model X.prog X.w) X.A (subscripted slice uP (.ref a) u) (λr az=>lJ (model X.prog X.w) X.A (letTemporaryGo value (.ref a) r>>=λ_=>pure r) (EP X pins σ Q) X.xe az) X.xe s:=by
  rw[hs];exact wpAny_operating (mM (zhl_ (Q:=EP X pins σ Q) (by lia) I g ry λw' s3 I3 bK=>⟨w,H,I3,bK,q⟩) (λr az bQ=>kJ (wpAny_letTemporaryGo (lE bQ))) λ_ _ x=>x)
 first
  |exact lE (kJ fin)
  |exact kJ (lE (kJ fin))
  |exact kJ fin
theorem ix_A (hu:X.A.units+60<cLine):IxR X (rIxA X.K):=λvalue slice pins s σ H x y v u Q I rx ry h hs=>by
 rcases h with h |h
 ·exact ix_M value slice pins s σ H x y v u Q I rx ry h hs
 ·exact zjH_ hu value slice pins s σ H x y v u Q I rx ry h hs
theorem zqd_ (hu:X.A.units+60<cLine):OpR X (lF .In) (rInA X.K uP):=λpins s σ H x y v u Q I rx ry h=>by
 rcases h with h |h
 ·exact zo2_ pins s σ H x y v u Q I rx ry h
 ·obtain⟨a,kvs,k,rfl,rfl,hd,q⟩:=zgW_ h
  cases ry;exact d_in (by lia) I (DGet.k (k:=k) hd) rx λs3 I3=>⟨.bl (valV kvs k).isSome,H,I3,rfl,q⟩
theorem zhU_ (hu:X.A.units+60<cLine):OpR X (lF .NotIn) (rInA X.K uO):=λpins s σ H x y v u Q I rx ry h=>by
 rcases h with h |h
 ·exact zhT_ pins s σ H x y v u Q I rx ry h
 ·obtain⟨a,kvs,k,rfl,rfl,hd,q⟩:=zgW_ h
  cases ry;exact zmK_ (by lia) I (DGet.k (k:=k) hd) rx λs3 I3=>⟨.bl (!(valV kvs k).isSome),H,I3,rfl,q⟩
theorem zig_:CallR X (.builtin "len") (mLenA X.K):=λpins s σ H xs us Q I r h=>by
 rcases h with h |h
 ·exact zht_ pins s σ H xs us Q I r h
 ·exact zhg_ pins s σ H xs us Q I r h
end
section
variable {K:mj}{E:XK}{F F' h h1 h2 H H':Hp}{d:D}{ds:List D}{v:V}{us vs:List V}{k:Nd}{p:kR}{Q:VK}{env:Env}{t:TE}{r r1 r2:Mo D}{ta:TA}{ra:Mo (List D)}{f:Fn}
def isDct (d:D):Bool:=match d.un with |.nd (.dct _) _=>uO |_=>uP
def ixA (a b:D):Mo D:=if isDct a then dgetD a b else ixD a b
theorem zmx_:Op2D K rDGet E dgetD:=by
 intro a b x y F H Q hs ha hb q;have ha:=DR.un ha;unfold dgetD at q;split at q
 ·rename_i ks ds k e1 e2
  rw[e1]at ha;obtain⟨p,us,rfl,n,r⟩:=ha.nd;obtain⟨d,e,q⟩:=q.opt;obtain⟨d0,e',rfl⟩:=lh.mp e;rcases zpz_ (k:=k) (ks:=ks) r with⟨h1,h2⟩|⟨d',v',g1,g2,g3⟩
  ·rw[h1]at e';cases e'
  ·rw[g1]at e';cases e'
   exact zeb_ rfl (zlf_ e2 hb).1 (hs _ _ n.1) ⟨v',g2,gotV q hs g3⟩
 ·exact q.elim
theorem zqe_:Op2D K (rIxA K) E ixA:=by
 intro a b x y F H Q hs ha hb q;unfold ixA at q;split at q
 ·exact .inr (zmx_ a b x y F H Q hs ha hb q)
 ·exact .inl (od_ix a b x y F H Q hs ha hb q)
def inA (neg:Bool)(a b:D):Mo D:=if isDct b then dinD neg a b else inD neg a b
theorem zpn_ {neg:Bool}:Op2D K (rDIn neg) E (dinD neg):=by
 intro a b x y F H Q hs ha hb q;have hb:=DR.un hb;unfold dinD at q;split at q
 ·rename_i ks ds k e1 e2
  rw[e1]at hb;obtain⟨p,us,rfl,n,r⟩:=hb.nd;refine zeb_ rfl (zlf_ e2 ha).1 (hs _ _ n.1) ?_;have e:(valV (ks.zip us) k).isSome=(valD ks ds k).isSome:=by
   rcases zpz_ (k:=k) (ks:=ks) r with⟨h1,h2⟩|⟨d',v',g1,g2,g3⟩
   ·rw[h1,h2];rfl
   ·rw[g1,g2];rfl
  rw[e];exact gotB q hs
 ·exact q.elim
theorem zm5_ {neg:Bool}:Op2D K (rInA K neg) E (inA neg):=by
 intro a b x y F H Q hs ha hb q;unfold inA at q;split at q
 ·exact .inr (zpn_ a b x y F H Q hs ha hb q)
 ·exact .inl (od_in a b x y F H Q hs ha hb q)
def lenA (ds:List D):Mo D:=match ds with |[d]=>if isDct d then dlenD ds else lenD ds |_=>.no
theorem zlo_:BlD K (mLenA K) E lenA:=by
 intro ds vs F H Q hs hd q;unfold lenA at q;split at q
 ·split at q
  ·exact .inr (zn2_ _ vs F H Q hs hd q)
  ·exact .inl (zpr_ _ vs F H Q hs hd q)
 ·exact q.elim
def makeD (f:Fn)(c:Str)(ds:List D):Mo D:=match f (.nd (.obj c []) []::ds.map .vw)with
 |.ok .non (o::_)=>.ok o
 |.ex x _=>.ex x
 |_=>.no
theorem z7_ {p dx q:kR}{o:HO}:two p dx o q=if q=p then uM o else if q=dx then uM (.own p)else uN:=rfl
theorem zjg_:∀{ds es:List D}{vs us:List V}{F:Hp},DRs K ds vs F->DRs K es us F->DRs K (ds++es) (vs++us) F
 |[],_,_,_,_,h,g=>by unfold DRs at h;subst h;exact g
 |d::ds,_,_,_,_,h,g=>by unfold DRs at h;obtain⟨v,vs,rfl,a,r⟩:=h;rw[l0,l0];unfold DRs;exact⟨v,_,rfl,a,zjg_ r g⟩
theorem zo0_ {c:Str}{dv:List D}{av:List V}(hx:EvAs K ta E env ra)(jH:∀F,DRs K dv av F):EvX K (tMake (gA K c) (CtG K f) av E ta) E env (ra.bind λds=>makeD f c (ds++dv)):=by
 intro σ F H Q hL hs q;refine zfT_ hx σ F H _ hL hs (q.bind.imp λds F1 H1 x1 k1 vs cz=>?_)
 intro x dx nx dB ne;have cz:=zjg_ cz (jH F1);have k1:=k1.imp λa F3 H3 x3 k3=>k3.back x1.2.2.1
 have sm:Same H1 (upd (upd H1 dx (.own x)) x (.ins (gA K c) dx [])):=(zW_ dB _).trans (zW_ (by rw[zc_ λz=>ne z.symm];exact nx) _)
 have eh:less (upd (upd H1 dx (.own x)) x (.ins (gA K c) dx [])) (two x dx (.ins (gA K c) dx []))=H1:=funext λp=>by
  unfold less;rw[z7_];by_cases e:p=x
  ·subst e;rw[if_pos rfl];exact nx.symm
  ·rw[if_neg e]
   by_cases e2:p=dx
   ·subst e2;rw[if_pos rfl];exact dB.symm
   ·rw[if_neg e2,zc_ e,zc_ e2]
 refine⟨F1,two x dx (.ins (gA K c) dx []),.nd (.obj c []) []::(ds++dv).map .vw,x1.2.1.trans sm,λp=>?_,λp o z=>?_,?_,?_⟩
 ·rw[z7_]
  by_cases e:p=x
  ·subst e;exact .inl (x1.2.1.free nx)
  ·rw[if_neg e]
   by_cases e2:p=dx
   ·subst e2;exact .inl (x1.2.1.free dB)
   ·rw[if_neg e2];exact .inr rfl
 ·rw[z7_]at z
  by_cases e:p=x
  ·subst e;rw[if_pos rfl]at z;cases z;exact ze_
  ·rw[if_neg e]at z
   by_cases e2:p=dx
   ·subst e2;rw[if_pos rfl]at z;cases z;rw[zc_ e];exact ze_
   ·rw[if_neg e2]at z;cases z
 ·unfold ODs
  refine⟨.ref x,_,_,λ_=>uN,rfl,no_r _ λ_=>rfl,?_,ODs.vw (λ_=>rfl) cz⟩
  unfold OD;exact⟨x,[],_,λ_=>uN,rfl,⟨dx,ne,rfl,rfl⟩,no_r _ λ_=>rfl,by unfold ODs;exact⟨rfl,λ_=>rfl⟩⟩
 ·rw [eh]
  unfold makeD at k1;cases e:f (.nd (.obj c []) []::(ds++dv).map .vw)with
  |no=>rw[e]at k1;exact k1
  |ex x ds'=>rw[e]at k1;exact λF' h' H' ok _=>k1 F' H' ok.1
  |ok d ds'=>
   rw[e]at k1;intro v F' h' H' hr h2 ok j od os;split at k1
   ·rename_i o tl ee
    cases ee;refine⟨?_,?_⟩
    ·unfold OD at od;exact od.2.non
    ·unfold ODs at os
     obtain⟨w,ws,m1,m2,e3,jm,oo,_⟩:=os;cases e3;have s1:Same m1 h':=jm.l.trans j.r;refine k1 F' H' ok.1 (.ref x) m1 (λp z=>ok.2.2.2.1 p ?_) (dj_l (dj_r ok.2.1 j) jm) (s1.trans ok.2.2.1) oo
     cases y:m1 p with
     |none=>exact absurd y z
     |some w=>rw[s1 _ _ y];exact sN _
   ·rename_i ee;cases ee
   ·exact k1.elim
def strsD:List D->Option (List (List Nat))
 |[]=>uM []
 |d::ds=>(match d.un with |.str l=>uM l |_=>uN).bind λx=>(strsD ds).map λxs=>x::xs
theorem zfw_:∀{ds:List D}{xs:List (List Nat)}{us:List V},strsD ds=uM xs->DRs K ds us H->us=xs.map tx
 |[],_,_,e,h=>by cases e;unfold DRs at h;exact h
 |d::ds,_,_,e,h=>by
  unfold strsD at e;unfold DRs at h;obtain⟨x,ex,e⟩:=k9.mp e;obtain⟨xs,exs,rfl⟩:=lh.mp e;obtain⟨v,vs,rfl,a,r⟩:=h;have a:=DR.un a;split at ex
  ·rename_i e2;cases ex;rw[e2]at a;cases a.str;rw[zfw_ exs r];rfl
  ·cases ex
def joinD (l:List Nat)(ds:List D):Mo D:=match ds with
 |[d]=>(match d.un with |.nd .lst xs=>(Mo.opt (strsD xs)).bind λls=>.grd (JoinOk ⟨l.toArray⟩ (strsL ls)=uO) (.ok (.str (joinS l (strsL ls))))|_=>.no)
 |_=>.no
theorem zhv_:∀ls:List (List Nat),strsOf (ls.map tx)=uM (strsL ls):=λls=>strsOf_of' ls
 where strsOf_of':∀ls:List (List Nat),strsOf (ls.map tx)=uM (strsL ls)
 |[]=>rfl
 |l::ls=>by show(strsOf (ls.map tx)).map _=_;rw[strsOf_of' ls];rfl
theorem znk_:MeD K (mJoin K) E joinD:=by
 intro l ds vs F H Q hs hd q;unfold joinD at q;split at q
 ·obtain⟨v,rfl,a⟩:=DRs.one hd
  have a:=DR.un a;split at q
  ·rename_i xs e;rw[e]at a;obtain⟨p,us,rfl,n,r⟩:=a.nd
   cases e3:strsD xs with
   |none=>rw[e3]at q;exact q.elim
   |some ls=>
    rw[e3]at q;obtain⟨z,q⟩:=After.grd (show After K (Mo.grd _ _) E F H _ from q)
    refine⟨us,.of (hs _ _ n),?_⟩;rw[zfw_ e3 r,zhv_];exact⟨z,gotS q hs⟩
  ·exact q.elim
 ·exact q.elim
theorem zje_:∀ls:List (List Nat),DRs K (ls.map .str) (ls.map tx) F
 |[]=>by unfold DRs;rfl
 |l::ls=>by rw[kX,kX];unfold DRs;exact⟨_,_,rfl,by unfold DR;rfl,zje_ ls⟩
def me1 (g:List Nat->List Nat->Mo D)(l:List Nat)(ds:List D):Mo D:=match ds with |[d]=>(match d.un with |.str c=>g l c |_=>.no)|_=>.no
def me1I (g:List Nat->Int->Mo D)(l:List Nat)(ds:List D):Mo D:=match ds with |[d]=>(match d.un with |.int c=>g l c |_=>.no)|_=>.no
theorem zqj_ {m:V->List V->Hp->VK->Prop}{g:List Nat->List Nat->Mo D}(hm:∀l c F H (Q:VK),Same F H->After K (g l c) E F H (OwnK (owD K) H Q)->m (tx l) [tx c] H Q):MeD K m E (me1 g):=by
 intro l ds vs F H Q hs hd q;unfold me1 at q;split at q
 ·obtain⟨v,rfl,a⟩:=DRs.one hd
  have a:=DR.un a;split at q
  ·rename_i c e;rw[e]at a;cases a.str;exact hm l c F H Q hs q
  ·exact q.elim
 ·exact q.elim
theorem znM_ {m:V->List V->Hp->VK->Prop}{g:List Nat->Int->Mo D}(hm:∀l c F H (Q:VK),Same F H->After K (g l c) E F H (OwnK (owD K) H Q)->m (tx l) [.int c] H Q):MeD K m E (me1I g):=by
 intro l ds vs F H Q hs hd q;unfold me1I at q;split at q
 ·obtain⟨v,rfl,a⟩:=DRs.one hd
  have a:=DR.un a;split at q
  ·rename_i c e;rw[e]at a;cases a.int;exact hm l c F H Q hs q
  ·exact q.elim
 ·exact q.elim
abbrev indexD:=me1 λl c=>.grd (findS l c ≠ -1) (.ok (.int (findS l c)))
abbrev zfillD:=me1I λl i=>.grd (PadOk i=uO) (.ok (.str (zfL l i)))
theorem zju_:MeD K mIndex E indexD:=zqj_ λl c F H Q hs q=>by obtain⟨z,q⟩:=q.grd;exact⟨z,gotI q hs⟩
theorem zj2_:MeD K mZfill E zfillD:=znM_ λl c F H Q hs q=>by obtain⟨z,q⟩:=q.grd;exact⟨z,gotS q hs⟩
noncomputable def tnD:D->Option String
 |.int _=>uM "int" |.bl _=>uM "bool" |.str _=>uM "str" |.non=>uM "NoneType" |.nd .lst _=>uM "list" |.nd .tup _=>uM "tuple" |_=>uN
def isaD (n:String)(d:D):Mo D:=.opt (((tnD d.un).bind λT=>isaB T n).map .bl)
theorem tnD_S {T:String}(h:tnD d=uM T)(a:DR K d v F)(hs:Same F H):tyS K H v T:=by
 cases d with
 |int=>cases h;cases a.int;rfl
 |bl=>cases h;cases a.bl;rfl
 |str=>cases h;cases a.str;rfl
 |non=>cases h;cases a.non;rfl
 |nd k ds=>
  obtain⟨p,us,rfl,m,_⟩:=a.nd;cases k with
  |lst=>cases h;exact .inl ⟨rfl,us,hs _ _ m⟩
  |tup=>cases h;exact .inr ⟨rfl,us,hs _ _ m⟩
  |_=>cases h
 |_=>cases h
def mIsaV (K:lR):List V->Hp->VK->Prop:=λxs H Q=>∃x c T b,xs=[x,.ty c]/\tyS K H x T/\isaB T c=uM b/\Q (.bl b) H
theorem zh1_ {X:Cx}:CallR X (.builtin "isinstance") (mIsaV X.K):=by
 rintro pins s σ H xs us Q I r ⟨x,c,T,b,rfl,ht,eb,hq⟩;obtain⟨u,w',rfl,r1,r2⟩:=vals2 r;cases r2;exact ziq_ I r1 (zqb_ ht) (znr_ eb) λtk=>⟨.bl b,H,I.tok tk,rfl,hq⟩
theorem zpL_ (n:String)(hx:EvX K t E env r):EvX K (tCB (mIsaV K) (tCons t (tCons (tC (.ty n)) tNil))) E env (r.bind (isaD n)):=by
 intro σ F H Q hL hs q;refine ex_v hx σ F H _ hL hs (q.bind.imp λd F1 H1 x1 k1 v hv=>?_)
 have k1:=k1.imp λa F3 H3 x3 k3=>k3.back x1.2.2.1
 obtain⟨w,e,k1⟩:=k1.opt;obtain⟨b,e0,rfl⟩:=lh.mp e;obtain⟨T,e1,e2⟩:=k9.mp e0;exact⟨v,n,T,b,rfl,tnD_S e1 (DR.un hv) x1.2.1,e2,gotB k1 x1.2.1⟩
def blsD:List D->Option (List Bool)
 |[]=>uM []
 |d::ds=>match d.un,blsD ds with |.bl b,uM bs=>uM (b::bs)|_,_=>uN
theorem znl_:∀{ds:List D}{us:List V}{bs:List Bool}{F:Hp},blsD ds=uM bs->DRs K ds us F->us=bs.map V.bl
 |[],us,bs,F,h,r=>by unfold DRs at r;subst r;cases h;rfl
 |d::ds,us,bs,F,h,r=>by
  unfold DRs at r;obtain⟨v,vs,rfl,a,r⟩:=r;unfold blsD at h;split at h
  ·rename_i b j8 e1 e2
   cases h;have a:=DR.un a;rw[e1]at a;cases a.bl;rw[znl_ e2 r];rfl
  ·cases h
def allD:List D->Mo D:=on1 λd=>match d with |.nd .lst ds=>(match blsD ds with |some bs=>.ok (.bl (bs.all id))|none=>.no)|_=>.no
theorem zqO_:BlD K (mAll K) E allD:=zdj_ λd v F H Q hs hd q=>by
 split at q
 ·obtain⟨p,us,rfl,n,r⟩:=hd.nd
  split at q
  ·rename_i bs e
   refine⟨bs,?_,gotB q hs⟩;rw[<- znl_ e r];exact .of (hs _ _ n)
  ·exact q.elim
 ·exact q.elim
theorem zoc_:EvX K tDNewK E env (.ok (.nd (.dct []) [])):=by
 intro σ F H Q hL hs q p hp;refine q F _ (.heap hs (zW_ hp _)) (.ref p) (one p (.dK [])) (λb z=>?_) (λb=>?_) (λb o z=>?_) ?_
 ·rw[zb_]at z;split at z
  ·rename_i e;rw[e];exact hp
  ·exact absurd rfl z
 ·rw[zb_];split
  ·rename_i e;rw[e];exact .inl (hs.free hp)
  ·exact .inr rfl
 ·rw[zb_]at z;split at z
  ·rename_i e;rw[e];cases z;exact ze_
  ·cases z
 ·show OD K _ _ _ _
  unfold OD;exact⟨p,[],_,λ_=>uN,rfl,⟨rfl,rfl,List.nodup_nil⟩,no_r _ λ_=>rfl,by unfold ODs;exact⟨rfl,λ_=>rfl⟩⟩
def revD (ds:List D):Mo (List D):=match ds with
 |[d]=>(match d.un with |.nd .lst xs=>.ok xs.reverse |_=>.no)
 |_=>.no
def zipD (ds:List D):Mo (List D):=match ds with
 |[d,e]=>(match d.un,e.un with
  |.nd .lst xs,.nd .lst ys=>.ok ((xs.zip ys).map λq=>.nd .tup [q.1,q.2])
  |_,_=>.no)
 |_=>.no
theorem w_zip:WkW K E (λvs _ H1 R=>match vs with
  |[.ref a,.ref b]=>(∃xs,SqL K H1 a xs)/\(∃ys,SqL K H1 b ys)/\R (Itz K a b) H1
  |_=>False) zipD:=by
 intro ds vs σ F1 H1 R x1 hv k1;unfold zipD at k1;split at k1
 ·obtain⟨v,v2,rfl,a,a2⟩:=DRs.two hv
  have a:=DR.un a;have a2:=DR.un a2;split at k1
  ·rename_i l1 l2 e1 e2
   rw[e1]at a;rw[e2]at a2;obtain⟨p,us,rfl,hp,hr⟩:=a.nd;obtain⟨p2,us2,rfl,bj,c7⟩:=a2.nd;refine⟨⟨us,.of (x1 _ _ hp)⟩,⟨us2,.of (x1 _ _ bj)⟩,k1.ok x1 _ ⟨λi H x hH hx=>?_,λH hH=>?_⟩⟩
   ·rw[kZ]at hx
    cases ez:(l1.zip l2)[i]? with
    |none=>rw[ez]at hx;cases hx
    |some q=>
    rw[ez]at hx;cases hx;obtain⟨dC,hx2⟩:=oX.mp (show(l1.zip l2)[i]?=uM (q.1,q.2)from ez)
    rcases hr.get i with⟨a,_⟩|⟨y,u,a,b,c⟩
    ·rw[a]at dC;cases dC
    rcases c7.get i with⟨a',_⟩|⟨y',u',a',b',c'⟩
    ·rw[a']at hx2;cases hx2
    rw[a]at dC;rw[a']at hx2;injection dC with dC;injection hx2 with hx2;refine⟨⟨us,us2,u,u',.of (hH _ _ hp),.of (hH _ _ bj),b,b'⟩,?_⟩;rintro v H' ⟨p3,w,w',z,z',hp3,rfl,rfl⟩ F hF bD;have e:=z us (.of (hH _ _ hp));have e':=z' us2 (.of (hH _ _ bj));rw[b]at e;cases e;rw[b']at e';cases e';have x':=Ext.new (o:=.tup [u,u']) bD hp3;refine⟨_,x',?_⟩;show DR K _ _ _
    unfold DR;refine⟨p3,_,rfl,ze_,?_⟩;unfold DRs;refine⟨_,_,rfl,by rw[<- dC];exact DR.mono (hF.trans x'.1) c,?_⟩
    unfold DRs;exact⟨_,_,rfl,by rw[<- hx2];exact DR.mono (hF.trans x'.1) c',by unfold DRs;rfl⟩
   ·refine⟨us,us2,.of (hH _ _ hp),.of (hH _ _ bj),?_⟩
    rw[kE,mB,hr.len,c7.len];lia
  ·exact k1.elim
 ·exact k1.elim
theorem newTp (q:After K (.ok (.nd .tup (ds.map .vw))) E F H (OwnK (owD K) H Q))(hs:Same F H)(hp:H p=uN)(r:DRs K ds us F):Q (.ref p) (upd H p (.tup us)):=by
 have x:=Ext.new (o:=.tup us) hs hp;refine q _ _ x (.ref p) (λ_=>uN) (λb z=>absurd rfl z) (λ_=>.inr rfl) (λb o z=>by cases z) ?_
 show OD K _ _ _ _
 unfold OD;exact⟨p,us,λ_=>uN,λ_=>uN,rfl,⟨ze_,λ_=>rfl⟩,no_r _ λ_=>rfl,ODs.vw (λ_=>rfl) (r.mono x.1)⟩
def mSlA (K:lR):V->Option Int->Option Int->Hp->VK->Prop:=λx lo hi H Q=>mSl K x lo hi H Q\/rSlT K x lo hi H Q
theorem sl_A {X:Cx}:SlR X (mSlA X.K):=SlR.or sl_M zrf_
def slA (a:D)(lo hi:Option Int):Mo D:=match a.un with
 |.nd .tup xs=>if HT.sIx xs.length 0 lo=0/\HT.sIx xs.length xs.length hi=xs.length then .no else .ok (.nd .tup ((cutG xs lo hi).map .vw))
 |_=>slD a lo hi
theorem zqQ_ {tl th:TO}{rl rh:Mo (Option Int)}(h0:EvX K t E env r)(hl:EvP K tl E (Lof K env) rl)(hh:EvP K th E (Lof K env) rh):EvX K (tSl (mSlA K) t tl th) E env (r.bind λl=>rl.bind λa=>rh.bind λb=>slA l a b):=by
 intro σ F H Q hL hs q;refine ex_v h0 σ F H _ hL hs (q.bind.imp λl F1 H1 x1 k1 v hv=>?_)
 refine hl σ F1 H1 _ (hL.mono x1.1) x1.2.1 (k1.bind.imp λlo F2 H2 x2 k2=>?_)
 refine hh σ F2 H2 _ (hL.mono (x1.1.trans x2.1)) x2.2.1 (k2.bind.imp λhi F3 H3 x3 k3=>?_)
 have ha:=DR.un ((tyD K).mono (x2.1.trans x3.1) hv);have k3:=k3.imp λc F4 H4 x4 k4=>k4.back (x1.2.2.1.trans (x2.2.2.1.trans x3.2.2.1))
 unfold slA at k3;split at k3
 ·rename_i xs e;rw[e]at ha;obtain⟨p,us,rfl,n,r⟩:=ha.nd
  split at k3
  ·exact k3.elim
  ·rename_i hn
   exact .inr ⟨p,us,rfl,.of (x3.2.1 _ _ n),by rw[<- r.len];exact hn,λp hp=>newTp k3 x3.2.1 hp (r.cut lo hi)⟩
 ·refine .inl ?_
  unfold slD at k3;split at k3
  ·rename_i l e;rw[e]at ha;cases ha.str
   obtain⟨c,k3⟩:=k3.lim;exact⟨c,gotS k3 x3.2.1⟩
  ·rename_i e;rw[e]at ha;obtain⟨p,us,rfl,n,r⟩:=ha.nd
   exact⟨us,.of (x3.2.1 _ _ n),λp hp=>newL k3 x3.2.1 hp (r.cut lo hi)⟩
  ·rename_i e;rw[e]at ha;obtain⟨p,us,rfl,n,r⟩:=ha.nd
   exact⟨us,x3.2.1.seq n,λp hp=>newL k3 x3.2.1 hp (r.cut lo hi)⟩
  ·exact k3.elim
def mAddA (K:lR):R2:=λx y H Q=>mAdd x y H Q\/rCatT K x y H Q
theorem zmY_ {X:Cx}:OpR X (nz .Add) (mAddA X.K):=λpins s σ H x y v u Q I rx ry h=>by
 rcases h with h |h
 ·exact zmg_ pins s σ H x y v u Q I rx ry h
 ·exact znt_ pins s σ H x y v u Q I rx ry h
def addA (a b:D):Mo D:=match a.un,b.un with
 |.nd .tup xs,.nd .tup ys=>if xs=[]\/ys=[]then .no else .lim (xs.length+ys.length) (.ok (.nd .tup ((xs++ys).map .vw)))
 |_,_=>addD a b
noncomputable instance (l:List D):Decidable (l=[]):=match l with |[]=>.isTrue rfl |_::_=>.isFalse λh=>by cases h
theorem znO_:Op2D K (mAddA K) E addA:=by
 intro a b x y F H Q hs ha hb q;unfold addA at q;split at q
 ·rename_i xs ys e1 e2
  have ha:=DR.un ha;have hb:=DR.un hb;rw[e1]at ha;rw[e2]at hb;obtain⟨p,us,rfl,n,r⟩:=ha.nd;obtain⟨p2,ws,rfl,n2,r2⟩:=hb.nd;split at q
  ·exact q.elim
  ·rename_i hn
   obtain⟨c,q⟩:=q.lim;have h1:us≠[]:=λz=>hn (.inl (ml.mp (by rw[r.len,z];rfl)))
   have h2:ws≠[]:=λz=>hn (.inr (ml.mp (by rw[r2.len,z];rfl)))
   exact .inr ⟨p,p2,us,ws,rfl,rfl,.of (hs _ _ n),.of (hs _ _ n2),h1,by rw[<- r.len,<- r2.len];exact c,λz=>absurd z h2,λ_ l hl=>newTp q hs hl (r.app r2)⟩
 ·exact .inl (zpq_ a b x y F H Q hs ha hb q)
def rvD (a:D):Mo D:=match a.un with
 |.nd .lst xs=>.ok (.nd .lst (xs.reverse.map .vw))
 |_=>.no
theorem zbH_:∀(ns:List Int) {H:Hp},DRs K (ns.map D.int) (ns.map V.int) H
 |[],_=>by unfold DRs;rfl
 |n::ns,H=>by rw[kX,kX];unfold DRs;exact⟨_,_,rfl,by unfold DR;rfl,zbH_ ns⟩
def lrD (a b:D):Mo D:=(intD a).bind λi=>(intD b).bind λj=>.grd (-50000<=i/\i<=50000 /\ -50000<=j/\j<=50000) (.ok (.nd .lst (((rngI i (j-i).toNat).map D.int).map .vw)))
theorem ex_lr {hX hW:TE}{ig ie:Mo D}(h1:EvX K hX E env ig)(h2:EvX K hW E env ie):EvX K (tCB (mList K) (tCons (tCB mRange (tCons hX (tCons hW tNil))) tNil)) E env (ig.bind λx=>ie.bind λy=>lrD x y):=by
 intro σ F H Q hL hs q;refine ex_v h1 σ F H _ hL hs (q.bind.imp λa F1 H1 x1 k1 v hv=>?_)
 refine ex_v h2 σ F1 H1 _ (hL.mono x1.1) x1.2.1 (k1.bind.imp λb F2 H2 x2 k2 w hw=>?_)
 have k2:=k2.imp λc F4 H4 x4 k4=>k4.back (x1.2.2.1.trans x2.2.2.1)
 unfold lrD at k2;obtain⟨i,rfl,k2⟩:=zdl_ k2 ((tyD K).mono x2.1 hv);obtain⟨j,rfl,k2⟩:=zdl_ k2 hw;obtain⟨c,k2⟩:=k2.grd;intro p hp;have x:=Ext.new (o:=.rng i j) x2.2.1 hp;have e:intsV i j=(rngI i (j-i).toNat).map V.int:=by unfold intsV rngI;simp
 refine .inr ⟨i,j,ze_,c,λl hl=>?_⟩
 rw[e];refine newL (E:=E) (ds:=(rngI i (j-i).toNat).map D.int) (F:=upd F2 p (.rng i j)) (H:=upd H2 p (.rng i j)) (λF' H' y=>OwnK.back x.2.2.1 (k2 F' H' (x.trans y))) x.2.1 hl (zbH_ _)
def intsD:List D->Option (List Int)
 |[]=>uM []
 |d::ds=>match d.un,intsD ds with |.int i,uM is=>uM (i::is)|_,_=>uN
def keysI:List Key->Option (List Int)
 |[]=>uM []
 |.inl i::ks=>(keysI ks).map (i::·)
 |_=>uN
theorem zdr_:∀{ds:List D}{us:List V}{is:List Int}{F:Hp},intsD ds=uM is->DRs K ds us F->Prs tyInt F is us
 |[],us,is,F,h,r=>by unfold DRs at r;subst r;cases h;exact .nil
 |d::ds,us,is,F,h,r=>by
  unfold DRs at r;obtain⟨v,vs,rfl,a,r⟩:=r;unfold intsD at h;split at h
  ·rename_i b j8 e1 e2
   cases h;have a:=DR.un a;rw[e1]at a;exact .cons a.int (zdr_ e2 r)
  ·cases h
def srtI (is:List Int):Mo D:=.grd (is.length<64) (.ok (.nd .lst ((srtL ltI is).map .int)))
def mListA (K:lR):List V->Hp->VK->Prop:=λxs H Q=>mList K xs H Q\/match xs with
 |[.ref p]=>∃kvs,H p=uM (.dK kvs)/\kvs.length<=lg/\∀l,H l=uN->Q (.ref l) (upd H l (.lst (kvs.map λq=>kV q.1)))
 |_=>False
theorem zmV_:∀(a:List (Key×V)) (b:List (Key×aU)) (i:Nat) q k' x,KV a b->a[i]?=uM q->b[i]?=uM (k',x)->q.1=k':=by
 intro a b i q k' x iI;unfold KV at iI;induction iI generalizing i with
 |nil=>intro e;simp at e
 |cons r t ih=>
  intro e1 e2;cases i with
  |zero=>simp at e1 e2;subst e1;have:=r.1;rw[e2]at this;exact this
  |succ i=>exact ih i (by simpa using e1) (by simpa using e2)
theorem zcv_:∀(ks:List (Key×V)) (us:List aU),ks.length=us.length->(∀(i:Nat) (q:Key×V) (u:aU),ks[i]?=uM q->us[i]?=uM u->RelV (kV q.1) u)->Vals (ks.map λq=>kV q.1) us
 |[],us,hl,_=>by cases us with |nil=>exact .nil |cons _ _=>simp at hl
 |q::ks,us,hl,hh=>by
  cases us with
  |nil=>simp at hl
  |cons u us=>exact .cons (hh 0 q u rfl rfl) (zcv_ ks us (by simpa using hl) λi q' u' e1 e2=>hh (i+1) q' u' (by simpa using e1) (by simpa using e2))
theorem zfM_ {X:Cx}(hc:X.calm=uO):CallR X (.type "list") (mListA X.K):=by
 intro pins s σ H xs us Q I r h;rcases h with h |h
 ·exact zdg_ hc pins s σ H xs us Q I r h
 ·split at h
  ·rename_i p
   obtain⟨kvs,hp,hl,q⟩:=h;obtain⟨u,rfl,rx⟩:=vals1 r;cases rx;obtain⟨z,hd,vs,rel,dd⟩:=zhV_ I.hok (.inl hp);obtain⟨ep,hat⟩:=dd.dictAt;have cC:kvs.length=vs.length:=rel.length;refine W.kdl_call (W.kdl_dict (knd:=mixKind X.prog X.w) (kvs:=vs) (ep:=ep) hd) (I.ok.hd hc) hat (by rw[<- cC];exact hl) λh' tk acc c kp ho aD=>?_
   refine⟨.ref s.heap.objs.size,_,I.laid (o:=.lst (kvs.map λq=>kV q.1)) (t':=tk) kp (kP _) ⟨by rw[kE];exact hl,acc.toList,c,?_,by simpa using ho⟩,rfl,q _ (I.hok.fresh (kP _))⟩
   have cD:acc.toList.length=kvs.length:=by rw[my,cC];exact aD.1
   refine zcv_ kvs acc.toList cD.symm λi q u e1 e2=>?_
   obtain⟨k',x,ek,bq⟩:=aD.2 i u (by rw[<- mx];exact e2)
   rw[zmV_ kvs vs i q k' x rel e1 ek];exact is_kV bq
  ·exact h.elim
def kD:Key->D
 |.inl i=>.int i
 |.inr s=>.str s.cps.toList
theorem zfy_:∀(ks:List Key) (us:List V) {H:Hp},ks.length=us.length->DRs K (ks.map kD) ((ks.zip us).map λq=>kV q.1) H
 |[],us,_,_=>by unfold DRs;rfl
 |k::ks,[],_,hl=>by cases hl
 |k::ks,u::us,H,hl=>by
  rw[lV,kX,kX];unfold DRs;refine⟨_,_,rfl,?_,zfy_ ks us (by simpa using hl)⟩
  cases k with
  |inl i=>unfold kD DR;rfl
  |inr s=>unfold kD DR;rfl
def listA:List D->Mo D:=on1 λd=>match d with
 |.nd .lst xs=>.ok (.nd .lst (xs.map .vw))
 |.nd .tup xs=>.ok (.nd .lst (xs.map .vw))
 |.nd .scr xs=>.ok (.nd .lst (xs.map .vw))
 |.nd (.dct ks) _=>.lim ks.length (.ok (.nd .lst ((ks.map kD).map .vw)))
 |_=>.no
theorem zkd_:BlD K (mListA K) E listA:=zdj_ λd v F H Q hs hd q=>by
 split at q
 ·obtain⟨p,us,rfl,n,r⟩:=hd.nd;exact .inl (.inl ⟨us,.inl (.of (hs _ _ n)),λl hl=>newL q hs hl r⟩)
 ·obtain⟨p,us,rfl,n,r⟩:=hd.nd;exact .inl (.inl ⟨us,.inr (.of (hs _ _ n)),λl hl=>newL q hs hl r⟩)
 ·obtain⟨p,us,rfl,n,r⟩:=hd.nd;exact .inl (.inl ⟨us,.inl (hs.seq n),λl hl=>newL q hs hl r⟩)
 ·obtain⟨p,us,rfl,n,r⟩:=hd.nd
  obtain⟨c,q⟩:=q.lim;refine .inr ⟨_,hs _ _ n.1,by rw[mB,n.2.1,og,<- n.2.1];exact c,λl hl=>newL q hs hl (zfy_ _ _ n.2.1)⟩
 ·exact q.elim
def mSortI (K:lR):List V->Hp->VK->Prop:=λxs H Q=>match xs with
 |[.ref p]=>∃ns:List Int,(SqL K H p (ns.map .int)\/∃kvs,H p=uM (.dK kvs)/\(kvs.map λq=>kV q.1)=ns.map .int)/\ns.length<64/\∀aX:List Int,aX.Perm ns->aX.Pairwise (·<=·)->∀l,H l=uN->Q (.ref l) (upd H l (.lst (aX.map .int)))
 |_=>False
theorem zcS_:∀{vs:List aU}{ns:List Int},IntsAre vs ns->Vals (ns.map .int) vs
 |_,_,.nil=>.nil
 |_,_,.cons _ _ h=>.cons ⟨_,rfl⟩ (zcS_ h)
theorem zaG_:∀{ns:List Int}{vs:List aU},Vals (ns.map .int) vs->IntsAre vs ns
 |[],_,r=>by cases r;exact .nil
 |n::ns,_,r=>by cases r with |cons a r=>obtain⟨t,rfl⟩:=a;exact .cons n t (zaG_ r)
theorem zg2_ {X:Cx}(hc:X.calm=uO):CallR X (.builtin "sorted") (mSortI X.K):=by
 intro pins s σ H xs us Q I r h;unfold mSortI at h;split at h
 rotate_left
 ·exact h.elim
 rename_i p
 obtain⟨ns,hp,cR,q⟩:=h;obtain⟨u,rfl,rx⟩:=vals1 r;cases rx;rcases hp with hp |⟨kvs,hp,hk⟩
 ·obtain⟨aa,rv,pl,hz⟩:=I.list hp
  have hn:=rv.length;rw[kE]at hn;refine sorted_ints pl.isList (zaG_ rv) (by lia) λout aX a1 a2 a3=>?_
  obtain⟨e,he⟩:=sortedAll_at s.heap aa out;exact⟨.ref (s.heap.objs.size+1),_,I.laid (o:=.lst (aX.map .int)) (t':=s.toks) (λ_ _=>sortedAll_old) (nj _) ⟨by rw[kE,a2.length_eq];exact zaw_ (by lia),out.toList,e,zcS_ a1,by simpa using he⟩,rfl,q aX a2 a3 _ (I.hok.fresh (nj _))⟩
 ·obtain⟨z,hd,vs,rel,dd⟩:=zhV_ I.hok (.inl hp)
  obtain⟨ep,hat⟩:=dd.dictAt;have cC:kvs.length=vs.length:=rel.length;have fJ:kvs.length=ns.length:=by have:=congrArg qO hk;simpa using this
  refine Calls.call_function_entry kind_sorted plain_sorted entry_sorted (args_sorted1 _) ?_;unfold qY.«sorted»;refine kJ (m:=checkCount "sorted" 1 1 _) (lE ?_);refine kJ (zjK_ (W.kdl_dict (knd:=mixKind X.prog X.w) (kvs:=vs) (ep:=ep) hd) (I.ok.hd hc) hat (by rw[<- cC,sizeLine_eq];lia) λh1 tk acc hsz k1 aD=>?_)
  have cD:acc.toList.length=kvs.length:=by rw[my,cC];exact aD.1
  have rv:Vals (ns.map .int) acc.toList:=by
   rw[<- hk];refine zcv_ kvs acc.toList cD.symm λi q u e1 e2=>?_
   obtain⟨k',x,ek,bq⟩:=aD.2 i u (by rw[<- mx];exact e2)
   rw[zmV_ kvs vs i q k' x rel e1 ek];exact is_kV bq
  refine kJ (wpAny_newList ?_ (by rw[sizeLine_eq];lia))
  have cK:(h1.push (seqObj "list" acc.toList.toArray 0)).get? h1.objs.size=uM (seqObj "list" acc.toList.toArray 0):=lG _ rfl;show lJ _ _ _ _ _ {s with heap:=h1.push (seqObj "list" acc.toList.toArray 0),toks:=tk}
  refine kJ (wpAny_holding (wpAny_call_entry slot_list_sort ⟨_,cK,rfl⟩ entry_list_sort (list_sort_tree cK (zaG_ rv) (by lia) λout aX a1 a2 a3=>⟨_,rfl,?_⟩) (args_list_sort _)))
  obtain⟨e,he⟩:=sortedHeap_at (out:=out) cK;have kp:∀b o,s.heap.get? b=uM o->(sortedHeap (h1.push (seqObj "list" acc.toList.toArray 0)) h1.objs.size acc.toList out).get? b=uM o:=λb o z=>by
   have hb:=k8 (k1 b o z);rw[sortedHeap_old (lI hb) (by rw[size_push'];exact oN hb)]
   exact kH _ (k1 b o z)
  exact lE ⟨_,rfl,.ref h1.objs.size,_,I.laid (o:=.lst (aX.map .int)) (t':=tk) kp (oB hsz) ⟨by rw[kE,a2.length_eq];exact zaw_ (by lia),out.toList,e,zcS_ a1,by simpa using he⟩,rfl,q aX a2 a3 _ (I.hok.fresh (oB hsz))⟩
def sortI:List D->Mo D:=on1 λd=>match d with
 |.nd .lst ds=>(match intsD ds with |some is=>srtI is |none=>.no)
 |.nd (.dct ks) _=>(match keysI ks with |some is=>srtI is |none=>.no)
 |_=>.no
end
section
variable {K:mj}{E:XK}{F H:Hp}{env:Env}
def intLs:List D->Option (List (List Int))
 |[]=>uM []
 |d::ds=>(match d with |.nd .lst es=>intsD es |_=>uN).bind λis=>(intLs ds).map λr=>is::r
def ltQ (ak:List (List Int))(i j:Nat):Bool:=ltKs ak i j ||(!ltKs ak j i && decide (i<j))
def srtQ (ak:List (List Int))(n:Nat):List Nat:=srtL (ltQ ak) (lK n)
theorem zgz_ {ak:List (List Int)}{i j:Nat}:ltQ ak i j=uP↔ltKs ak i j=uP/\(ltKs ak j i=uO\/j<=i):=by
 unfold ltQ;cases ltKs ak i j<;>cases ltKs ak j i<;>simp
theorem lo_q (ak:List (List Int)):LOr (ltQ ak):=by
 have w:=zfN_ ak;refine⟨λ{a b} h=>?_,λ{a b c} h g=>?_,λ{a b} h g=>?_⟩
 ·rw[zgz_]
  unfold ltQ at h;cases e:ltKs ak a b with
  |true=>exact⟨w.asym e,.inl rfl⟩
  |false=>
   rw[e]at h;cases e2:ltKs ak b a with
   |true=>rw[e2]at h;simp at h
   |false=>rw[e2]at h;simp at h;exact⟨rfl,.inr (by lia)⟩
 ·rw[zgz_]at h g ⊢
  refine⟨w.tr h.1 g.1,?_⟩;rcases h.2 with h2 |h2
  ·exact .inl (w.st h2 g.1)
  ·rcases g.2 with g2 |g2
   ·exact .inl (w.st' g2 h.1)
   ·exact .inr (by lia)
 ·rw[zgz_]at h g
  rcases h.2 with h2 |h2
  ·rw[g.1]at h2;cases h2
  ·rcases g.2 with g2 |g2
   ·rw[h.1]at g2;cases g2
   ·lia
theorem zmP_ {ak:List (List Int)}{n:Nat}{idx:List Nat}(h:SrtS (ltKs ak) n idx):idx=srtQ ak n:=
 zbf_ (lo_q ak) h.1 (h.2.imp λ{a b} z=>zgz_.mpr ⟨z.1,z.2.imp id oB⟩)
def strL (d:D):Mo (List (List Nat)):=match d.un with |.nd .lst ds=>.opt (strsD ds)|_=>.no
def srtK (ls:List (List Nat))(ks:List D):Mo D:=match intLs ks with |some ak=>.grd (ks.length=ls.length) (.ok (.nd .lst ((srtQ ak ls.length).map λi=>.str (ls.getD i []))))|none=>.no
theorem zcO_:∀{is:List Int}{us:List V},Prs tyInt F is us->us=is.map .int
 |_,_,.nil=>rfl
 |_,_,.cons a r=>by cases a;rw[kX,<- zcO_ r]
theorem zgE_:∀{ks:List D}{us:List V}{ak:List (List Int)}{h:Hp},intLs ks=uM ak->Same h H->Same F H->ODs K ks us F h->KeysAt K H us ak
 |[],us,ak,h,e,s,s',q=>by unfold ODs at q;cases e;rw[q.1];exact .nil
 |d::ks,us,ak,h,e,s,s',q=>by
  unfold intLs at e;obtain⟨is,e1,e2⟩:=k9.mp e;obtain⟨r,e3,rfl⟩:=lh.mp e2;unfold ODs at q;obtain⟨v,vs,h1,h2,rfl,j,o,q⟩:=q;refine .cons ?_ (zgE_ e3 (j.r.trans s) s' q);cases d with
  |nd k es=>
   cases k with
   |lst=>
    obtain⟨p,us,rfl,n,r⟩:=(o.view s' (j.l.trans s)).nd;refine⟨p,rfl,.inl (.inl ?_)⟩;rw[<- zcO_ (zdr_ e1 r)];exact n
   |_=>cases e1
  |_=>cases e1
theorem zi6_:∀(ls:List (List Nat)) {h:Hp},(∀p,h p=uN)->ODs K (ls.map .str) (ls.map tx) F h
 |[],h,n=>by unfold ODs;exact⟨rfl,n⟩
 |l::ls,h,n=>by
  rw[kX,kX];unfold ODs;refine⟨_,_,h,λ_=>uN,rfl,no_r _ λ_=>rfl,?_,zi6_ ls λ_=>rfl⟩
  unfold OD DR;exact⟨n,rfl⟩
theorem zoT_ (ls:List (List Nat)):Yl K (Itp ls.length λj=>(ls.map tx).getD j .non) (ls.map .str) (tyD K) F:=by
 refine⟨λi H x _ e=>?_,λH _=>by show ls.length<=_;rw[kE];exact kP _⟩
 rw[kZ]at e;obtain⟨l,e',rfl⟩:=lh.mp e;refine⟨(lB.mp e').1,?_⟩;rintro v H' ⟨rfl,rfl⟩ F' _ s;refine⟨F',Ext.refl s,?_⟩;show DR K (D.str l) ((ls.map tx).getD i .non) F'
 rw[kY,kZ,e'];unfold DR;rfl
theorem zjj_:∀(ls:List (List Nat)),tgsD ⟨uP,[0]⟩ (ls.map D.str)=uM (ls.map λl=>[D.str l])
 |[]=>rfl
 |l::ls=>by rw[kX];unfold tgsD;rw[zjj_ ls];rfl
theorem zo1_ {p:Str}{fr:List (Str×Nat)}{i:Nat}{te:TE}{f:List D->Mo D}(he:∀a,EvX K te E0 (setE (cE [p] fr env) [0] a) (f a)):
  EvX K (tSrt K fr i te) E env ((getE env i).bind λd=>(strL d).bind λls=>.grd (ls.length<64) ((compM (λx=>cond1 (.ok uO) (f x)) (ls.map λl=>[D.str l]) []).bind λks=>srtK ls ks)):=by
 intro σ F H Q hL hs q;have key:mVar i σ H λv H1=>∃a xs,v=.ref a/\SqL K H1 a xs/\xs.length<64/\∀H2,LamUp H1 H2->tCompR (Itp xs.length λj=>xs.getD j .non) (gName 0) tTrue te (uN::lS fr σ) H2 λb H3=>mSrt K xs b H3 Q:=by
  refine ex_v (zlu_ i) σ F H _ hL hs (q.bind.imp λd F1 H1 x1 k1 v hv=>?_)
  have hd:=DR.un hv;unfold strL at k1;split at k1
  rotate_left
  ·exact k1.elim
  rename_i ds e
  rw[e]at hd;obtain⟨a,us,rfl,n,r⟩:=hd.nd;cases e2:strsD ds with
  |none=>rw[e2]at k1;exact k1.elim
  |some ls=>
   rw[e2]at k1;obtain⟨cR,k1⟩:=After.grd (show After K (.grd (ls.length<64) ((compM (λx=>cond1 (.ok uO) (f x)) (ls.map λl=>[D.str l]) []).bind λks=>srtK ls ks)) E F1 H1 _ from k1)
   rw[zfw_ e2 r]at n;refine⟨a,ls.map tx,rfl,.inl (.inl (x1.2.1 _ _ n)),by rw[kE];exact cR,λH2 up=>?_⟩
   have cH:Same H1 H2:=up.same
   have c:=ziA_ (K:=K) (E:=E) (env:=env) (lv:=[p]) (fr:=fr) (wi:=λ_ H R=>R (Itp ls.length λj=>(ls.map tx).getD j .non) H) (g:=⟨uP,[0]⟩) (tt:=tTrue) (te:=te) (rs:=.ok (ls.map .str)) (c:=λ_=>.ok uO) (f:=f)
    (λσ F H R _ s q=>q F H (Ext.refl s) _ (zoT_ ls)) (by intro i hi;simp at hi;subst hi;exact Nat.zero_lt_one) (λa σ F H Q _ s q=>q F H (Ext.refl s)) he
   rw[kE];refine(show tComp [p] fr (λ_ H R=>R (Itp ls.length λj=>(ls.map tx).getD j .non) H) (tgT K ⟨uP,[0]⟩) tTrue te σ H2 (λb H3=>mSrt K (ls.map tx) b H3 Q)from c σ F1 H2 _ (hL.mono x1.1) (x1.2.1.trans cH) ?_)
   show After K ((Mo.opt (tgsD ⟨uP,[0]⟩ (ls.map D.str))).bind _) E F1 H2 _
   rw[zjj_];show After K ((compM (λx=>cond1 (.ok uO) (f x)) (ls.map λl=>[D.str l]) []).bind λys=>.ok (D.nd .lst ys)) E F1 H2 _
   cases e3:compM (λx=>cond1 (.ok uO) (f x)) (ls.map λl=>[D.str l]) []with
   |no=>rw[e3]at k1;exact k1
   |ex c=>rw[e3]at k1;exact λF' H' x=>(k1 F' H' ⟨x.1,x.2.1,cH.trans x.2.2.1,λp a b=>cH.free (x.2.2.2 p a b)⟩).up cH
   |ok ks=>
    rw[e3]at k1;have k1:After K (srtK ls ks) E F1 H1 (OwnK (owD K) H Q):=k1;unfold srtK at k1;split at k1
    rotate_left
    ·exact k1.elim
    rename_i ak e4
    obtain⟨iD,k1⟩:=After.grd k1;intro F' H' x v h jT dj sh o;have o:OD K (.nd .lst ks) v F' h:=o;unfold OD at o;obtain⟨kS,bF,h0,h2,rfl,cl,j,os⟩:=o;have dH:h kS=uM (.lst bF):=j.l _ _ (by rw[show h0=_ from cl];exact zq_)
    have n2:H2 kS=uN:=jT _ (by rw[dH];exact sN _)
    have nF:F' kS=uN:=by
     rcases dj kS with z |z
     ·exact z
     ·rw[dH]at z;cases z
    refine⟨kS,bF,ak,rfl,sh _ _ dH,by rw[kE,<- os.len];exact iD,zgE_ e4 (j.r.trans sh) x.2.1 os,λidx bA l hl=>?_⟩
    rw[kE]at bA;rw[zmP_ bA];have nl:l≠kS:=λz=>by rw[z,sh _ _ dH]at hl;cases hl
    have s1:∀{G:Hp},Same G H'->G kS=uN->Same G (upd (upd H' kS (.lst [])) l (.lst ((srtQ ak ls.length).map λi=>(ls.map tx).getD i .non))):=λ{G} g gn b o e=>by
     have hb:b≠kS:=zd_ e gn;have jL:b≠l:=λz=>by have:=g _ _ e;rw[z,hl]at this;cases this
     rw[zc_ jL,zc_ hb];exact g _ _ e
    have e5:((srtQ ak ls.length).map λi=>(ls.map tx).getD i .non)=((srtQ ak ls.length).map λi=>ls.getD i []).map tx:=by
     rw[lY];refine nC λi hi=>?_
     have eF:i<ls.length:=l4.mp ((zbC_ _ _).mem_iff.mp hi);simp[kY,eF]
    refine k1 F' _ ⟨x.1,s1 x.2.1 nF,s1 (cH.trans x.2.2.1) (cH.free n2),λp a b=>cH.free (x.2.2.2 p a b)⟩ (.ref l) (one l (.lst ((srtQ ak ls.length).map λi=>(ls.map tx).getD i .non))) (λp hp=>?_) (λp=>?_) (λp o e=>?_) ?_
    ·by_cases z:p=l
     ·rw[z];exact(x1.2.2.1.trans (cH.trans x.2.2.1)).free hl
     ·exact absurd (by rw[zb_,if_neg z]) hp
    ·by_cases z:p=l
     ·rw[z];exact .inl (x.2.1.free hl)
     ·exact .inr (by rw[zb_,if_neg z])
    ·rw[zb_]at e
     split at e
     ·rename_i z;rw[z,ze_];exact e
     ·cases e
    ·show OD K _ _ _ _
     unfold OD;refine⟨l,_,_,λ_=>uN,rfl,rfl,no_r _ (λ_=>rfl),?_⟩
     rw[e5];have:=zi6_ (K:=K) (F:=F') ((srtQ ak ls.length).map λi=>ls.getD i []) (h:=λ_=>uN) (λ_=>rfl)
     rw[lY]at this;exact this
 unfold mVar at key;split at key
 ·rename_i v hv
  obtain⟨a,xs,rfl,h1,h2,h3⟩:=key;exact⟨a,xs,hv,h1,h2,h3⟩
 ·exact key.elim
def taP:List (TE×TE)->TA
 |[]=>tNil
 |(k,v)::r=>tCons k (tCons v (taP r))
def prU:List V->List (V×V)
 |k::v::r=>(k,v)::prU r
 |_=>[]
theorem tp_eq:∀(trs:List (TE×TE)) (σ:L2.St) (H:Hp) (Q:List (V×V)->Hp->Prop),taP trs σ H (λvs H'=>Q (prU vs) H')=tPairs trs σ H Q
 |[],_,_,_=>rfl
 |(k,v)::r,σ,H,Q=>congrArg (k σ H) (funext λx=>funext λH1=>congrArg (v σ H1) (funext λy=>funext λH2=>tp_eq r σ H2 λps H3=>Q ((x,y)::ps) H3))
def prD:List D->Option (List Key×List D)
 |[]=>uM ([],[])
 |[_]=>uN
 |k::d::r=>(keyD k).bind λk=>(prD r).map λq=>(k::q.1,d::q.2)
def dspD (ds:List D):Mo D:=(Mo.opt (prD ds)).bind λq=>.grd (q.1.Nodup/\q.1.length<=15) (.ok (.nd (.dct q.1) q.2))
theorem zoZ_ {d:D}{v:V}{h:Hp}{k:Key}(e:keyD d=uM k)(o:OD K d v F h):(∀p,h p=uN)/\v=kV k:=by
 cases d with
 |nd=>cases e
 |_=>unfold OD at o;exact⟨o.1,(zlf_ e o.2).2⟩
theorem zn8_:∀{ds:List D}{vs:List V}{h:Hp}{ks:List Key}{es:List D},prD ds=uM (ks,es)->ODs K ds vs F h->∃us,prU vs=(ks.zip us).map (λkv=>(kV kv.1,kv.2))/\ks.length=us.length/\ODs K es us F h
 |[],vs,h,ks,es,e,o=>by
  cases e;have o':=o;unfold ODs at o';rw[o'.1]at o ⊢;exact⟨[],rfl,rfl,o⟩
 |[_],_,_,_,_,e,_=>by cases e
 |k::d::r,vs,h,ks,es,e,o=>by
  unfold prD at e;obtain⟨k',e1,e⟩:=k9.mp e;obtain⟨q,e2,e3⟩:=lh.mp e;cases e3;unfold ODs at o;obtain⟨v,vs,h1,h2,rfl,j,ok,o⟩:=o;obtain⟨n1,rfl⟩:=zoZ_ e1 ok;cases jn_no (zaa_ j) n1;unfold ODs at o;obtain⟨v,vs,m1,m2,rfl,jm,od,o⟩:=o;obtain⟨us,p1,p2,p3⟩:=zn8_ (ks:=q.1) (es:=q.2) e2 o;refine⟨v::us,?_,by simpa using p2,?_⟩
  ·show(_,_)::prU vs=_
   rw[p1];rfl
  ·unfold ODs;exact⟨v,us,m1,m2,rfl,jm,od,p3⟩
theorem zfF_:∀(kvs acc:List (Key×V)),((acc++kvs).map (·.1)).Nodup->mergeK acc kvs=acc++kvs
 |[],acc,_=>by rw[nU];rfl
 |(k,v)::r,acc,h=>by
  show mergeK (putK acc k v) r=_
  have hk:(acc.any λkv=>decide (kv.1=k))=uP:=by
   rw[rH];intro x hx z;rw[mT,p9]at h;exact h.2.2 _ (List.mem_map_of_mem hx) k (by simp) (of_decide_eq_true z)
  have e:putK acc k v=acc++[(k,v)]:=by unfold putK;rw[hk];rfl
  rw[e,zfF_ r (acc++[(k,v)]) (by rw[nr];exact h),nr];rfl
theorem ziV_ {trs:List (TE×TE)}{ra:Mo (List D)}(h:EvAs K (taP trs) E env ra):EvX K (tDisp trs) E env (ra.bind dspD):=by
 intro σ F H Q hL hs q p hp;have sn:=zW_ (H:=H) hp (.dK []);have x0:Ext F H F (upd H p (.dK [])):=.heap hs sn;rw[<- tp_eq];refine h σ F (upd H p (.dK [])) _ hL x0.2.1 ?_;cases e:ra with
 |no=>rw[e]at q;exact q
 |ex c=>rw[e]at q;exact λF' H' x=>(q F' H' (x0.trans x)).up x0.2.2.1
 |ok ds=>
  rw[e]at q;have q:After K (dspD ds) E F H (OwnK (owD K) H Q):=q;unfold dspD at q;cases e2:prD ds with
  |none=>rw[e2]at q;exact q.elim
  |some r=>
   obtain⟨ks,es⟩:=r;rw[e2]at q;obtain⟨⟨nd,gW⟩,q⟩:=After.grd (show After K (.grd (ks.Nodup/\ks.length<=15) (.ok (D.nd (.dct ks) es))) E F H (OwnK (owD K) H Q)from q)
   intro F2 H2 x2 vs k cf dw s1 o1;obtain⟨us,p1,p2,o2⟩:=zn8_ e2 o1;have bj:H2 p=uM (.dK []):=x2.2.2.1 _ _ ze_;have hF:F p=uN:=hs.free hp;have iL:F2 p=uN:=by
    cases y:F2 p with
    |none=>rfl
    |some o'=>
     have:=x2.2.2.2 p hF (by rw[y];exact sN _)
     rw[ze_]at this;cases this
   have nk:k p=uN:=by
    cases z:k p with
    |none=>rfl
    |some o=>have:=cf p (by rw[z];exact sN _);rw[ze_]at this;cases this
   refine⟨bj,ks.zip us,p1,by rw[mB,<- p2,og];exact gW,?_⟩
   have em:((ks.zip us).map (·.1))=ks:=List.map_fst_zip (by lia)
   rw[zfF_ _ [] (by rw[mQ,em];exact nd),mQ]
   have ne:∀{G:Hp}{b:kR}{o:HO},G p=uN->G b=uM o->b≠p:=λg z e=>by rw[e,g]at z;cases z
   have xx:Ext F H F2 (upd H2 p (.dK (ks.zip us))):=⟨x2.1,λb o z=>by rw[zc_ (ne iL z)];exact x2.2.1 _ _ z,λb o z=>by rw[zc_ (ne hp z)];exact x2.2.2.1 _ _ (sn _ _ z),λb a1 a2=>sn.free (x2.2.2.2 b a1 a2)⟩
   have d1:Dj (one p (.dK (ks.zip us))) k:=λq=>by
    rw[zb_];split
    ·rename_i e;rw[e];exact .inr nk
    ·exact .inl rfl
   refine q F2 _ xx (.ref p) (un (one p (.dK (ks.zip us))) k) (λq z=>?_) (λq=>?_) (λq o z=>?_) ?_
   ·unfold un at z;rw[zb_]at z
    by_cases e:q=p
    ·subst e;exact hp
    ·rw[if_neg e]at z;exact sn.free (cf q z)
   ·unfold un;rw[zb_]
    by_cases e:q=p
    ·subst e;exact .inl iL
    ·rw[if_neg e];exact dw q
   ·unfold un at z;rw[zb_]at z
    by_cases e:q=p
    ·subst e;rw[if_pos rfl]at z;cases z;exact ze_
    ·rw[if_neg e]at z;rw[zc_ e];exact s1 _ _ z
   ·show OD K _ _ _ _
    unfold OD;exact⟨p,us,_,k,rfl,⟨rfl,p2,nd⟩,zai_ d1,o2⟩
def eqsD:List D->List D->Option (List Bool)
 |[],[]=>uM []
 |d::ds,e::es=>(eqT 12 d e).bind λc=>(eqsD ds es).map λr=>c::r
 |_,_=>uN
def nedD (a b:D):Mo D:=match a.un,b.un with
 |.nd (.dct ks) ds,.nd (.dct ir) es=>.grd (ks=ir) ((Mo.opt (eqsD ds es)).bind λbs=>.ok (.bl (!(bs.all id))))
 |_,_=>.no
theorem eqs_L:∀{ds es:List D}{us ws:List V}{bs:List Bool},eqsD ds es=uM bs->DRs K ds us H->DRs K es ws H->EqL K H 12 us ws bs
 |[],[],us,ws,bs,e,h,g=>by unfold DRs at h g;subst h g;cases e;exact mP
 |[],_::_,_,_,_,e,_,_=>by cases e
 |_::_,[],_,_,_,e,_,_=>by cases e
 |d::ds,e::es,us,ws,bs,h,g,g'=>by
  unfold eqsD at h;obtain⟨c,e1,h⟩:=k9.mp h;obtain⟨r,e2,rfl⟩:=lh.mp h;unfold DRs at g g';obtain⟨v,vs,rfl,a,q⟩:=g;obtain⟨v',a_,rfl,a',q'⟩:=g';exact⟨zoB_ e1 a a',eqs_L e2 q q'⟩
theorem zqY_:Op2D K (mNeDL K) E nedD:=by
 intro a b x y F H Q hs h1 h2 k;have d1:=DR.un (K:=K) h1;have d2:=DR.un (K:=K) h2;unfold nedD at k;split at k
 ·rename_i ks ds ir es e1 e2
  rw[e1]at d1;rw[e2]at d2;obtain⟨eq,k'⟩:=After.grd k;subst eq;obtain⟨p,us,rfl,n,r⟩:=d1.nd;obtain⟨p',bF,rfl,n',r'⟩:=d2.nd;obtain⟨bs,e3,k''⟩:=After.opt k'.bind;refine⟨ks,us,bF,bs,hs _ _ n.1,hs _ _ n'.1,n.2.2,n.2.1,n'.2.1,eqs_L e3 (r.mono hs) (r'.mono hs),?_⟩;have k3:After K (.ok (D.bl (!(bs.all id)))) E F H (OwnK (owD K) H Q):=k'' F H (Ext.refl hs);exact k3 F H (Ext.refl hs) _ (λ_=>uN) (λp z=>absurd rfl z) (λp=>.inr rfl) (λp o z=>by cases z) (by show OD K _ _ _ _;unfold OD DR;exact⟨λ_=>rfl,rfl⟩)
 ·exact k.elim
theorem zi3_ {x:V}:∀{d:D},d.un.flat?=uM x->DR K d x F
 |.fz d,e=>by unfold DR;exact zi3_ (d:=d) e
 |.non,e=>by cases e;unfold DR;rfl
 |.bl _,e=>by cases e;unfold DR;rfl
 |.int _,e=>by cases e;unfold DR;rfl
 |.str _,e=>by cases e;unfold DR;rfl
 |.nd _ _,e=>by cases e
 |.pin _,e=>by cases e
 |.gone,e=>by cases e
theorem zgK_:∀{dv:List D}{av:List V},flats dv=uM av->DRs K dv av F
 |[],_,e=>by cases e;unfold DRs;rfl
 |d::dv,_,e=>by
  unfold flats at e;obtain⟨x,e1,e⟩:=k9.mp e;obtain⟨xs,e2,rfl⟩:=lh.mp e;unfold DRs;exact⟨x,xs,rfl,zi3_ e1,zgK_ e2⟩
theorem ex_no {t:TE}:EvX K t E env .no:=λ_ _ _ _ _ _ q=>q.elim
end
section
variable {X:Cx}
def mTxt (f:List Nat->List Nat->Bool):R2:=λx y H Q=>∃i j,x=.str i/\y=.str j/\Q (.bl (f i.cps.toList j.cps.toList)) H
theorem zq2_:OpR X (lF .Lt) (mTxt λi j=>decide (i<j)):=zeR_
theorem zpi_:OpR X (lF .Gt) (mTxt λi j=>decide (j<i)):=by
 intro pins s σ H x y v u Q I rx ry h;obtain⟨i,j,rfl,rfl,q⟩:=h;obtain⟨t,rfl⟩:=rx;obtain⟨t',rfl⟩:=ry;exact P.gt_str (zfc_ I q rfl)
def mLI (K:lR):V->List V->Hp->VK->Prop:=λx xs H Q=>∃(p:kR) (ls:List (List Nat)) (z:List Nat),x=.ref p/\xs=[tx z]/\SqL K H p (ls.map tx)/\z∈ls/\Q (.int (ls.idxOf z:Nat)) H
theorem zcx_:∀{ls:List (List Nat)}{us:List aU},Vals (ls.map tx) us->StrsAre us (ls.map λl=>⟨l.toArray⟩)
 |[],_,.nil=>.nil
 |l::ls,_,.cons r h=>by obtain⟨t,rfl⟩:=r;exact .cons _ t (zcx_ h)
theorem zeg_ (k:List Nat):∀{ls:List (List Nat)}{us:List aU},Vals (ls.map tx) us->∀j (h:j<us.length) (h':j<ls.length),isStrOf ⟨k.toArray⟩ us[j]=(ls[j] == k)
 |l::ls,_,.cons r h,0,_,_=>by
  obtain⟨t,rfl⟩:=r;show((⟨l.toArray⟩:Str) == ⟨k.toArray⟩)=(l == k)
  rw[nY,beq_iff_eq,beq_iff_eq];exact⟨λz=>by injection z with z;exact congrArg pU z,λz=>by rw[z]⟩
 |l::ls,_,.cons r h,j+1,a,b=>zeg_ k h j (qE a) (qE b)
theorem mt_li:MtR X "list.index" (mLI X.K):=by
 intro pins s σ H x xs v us Q I rx rv h;obtain⟨p,ls,z,rfl,rfl,hl,hz,q⟩:=h;cases rx;obtain⟨u,rfl,ru⟩:=rv.one;obtain⟨t,rfl⟩:=ru;obtain⟨aa,r,⟨⟨cls,dd,data,sl⟩,n,e,e1,e2,e3⟩,hn⟩:=I.list hl;simp only at e1 e2 e3;subst e1 e2 e3;have hlen:ls.length=aa.length:=by rw[<- r.length,kE]
 have hj:ls.idxOf z<ls.length:=nh.mpr hz;rw[kE,sizeLine_eq]at hn
 refine call_meets qp ⟨_,e,rfl⟩ PySem.F.entry_list_index (PySem.F.args_list_index_2 _ _)
  (SeqAt.list_indexAt p aa.toArray n _ _ (.str ⟨z.toArray⟩ t) (isStrOf ⟨z.toArray⟩) (ls.idxOf z) (by simpa using hlen ▸ hj) (by lia) ?_ ?_) ⟨e,λy hy=>(eq_isStrOf _ t (zcx_ r) y (by simpa using hy)).at _ _,⟨.int _,H,I.tok _,⟨_,rfl⟩,q⟩⟩
 ·show isStrOf _ aa[ls.idxOf z]=uO
  rw[zeg_ z r _ (by lia) hj]
  simpa using nO hj
 ·intro j jz ay
  show isStrOf _ aa[j]=uP
  rw[zeg_ z r j (by simpa using jz) (by lia)]
  exact List.not_of_lt_findIdx (p:=(· == z)) ay
variable {K:mj}{E:XK}{F H:Hp}{d:D}{Q:VK}{env:Env}{t1 t2:TE}{r1 r2:Mo D}
def txtD (f:List Nat->List Nat->Bool)(a b:D):Mo D:=(strOf a).bind λi=>(strOf b).bind λj=>.ok (.bl (f i j))
theorem zjC_ {l:List Nat}{v:V}(e:strOf d=.ok l)(h:DR K d v F):v=tx l:=by
 have h:=DR.un h;unfold strOf at e;split at e
 ·rename_i l' e';cases e;rw[e']at h;exact h.str
 ·cases e
theorem zbo_ (d:D):strOf d=.no\/∃l,strOf d=.ok l:=by unfold strOf;split<;>simp
theorem zl3_ {f:List Nat->List Nat->Bool}:Op2D K (mTxt f) E (txtD f):=by
 intro a b x y F H Q hs ha hb q;unfold txtD at q;rcases zbo_ a with e |⟨l,e⟩
 ·rw[e]at q;exact q.elim
 rcases zbo_ b with e' |⟨l',e'⟩
 ·rw[e,e']at q;exact q.elim
 rw[e,e']at q;exact⟨_,_,zjC_ e ha,zjC_ e' hb,gotB q hs⟩
def ltLD (a b:D):Mo D:=match a.un,b.un with
 |.nd .lst xs,.nd .lst ys=>(Mo.opt (intsD xs)).bind λis=>(Mo.opt (intsD ys)).bind λjs=>.ok (.bl (HT.lexLt is js))
 |_,_=>.no
theorem zrm_:Op2D K (mLtK K) E ltLD:=by
 intro a b x y F H Q hs ha hb q;have ha:=DR.un ha;have hb:=DR.un hb;unfold ltLD at q;split at q
 ·rename_i e1 e2;rw[e1]at ha;rw[e2]at hb
  obtain⟨p,us,rfl,n,r⟩:=ha.nd;obtain⟨p2,ws,rfl,n2,r2⟩:=hb.nd;obtain⟨is,i1,q⟩:=After.opt q.bind;obtain⟨js,i2,q⟩:=After.opt (After.bind (q F H (Ext.refl hs)));rw[zcO_ (zdr_ i1 r)]at n;rw[zcO_ (zdr_ i2 r2)]at n2;exact⟨is,js,.of (hs _ _ n),.of (hs _ _ n2),gotB (q F H (Ext.refl hs)) hs⟩
 ·exact q.elim
def intB:List D->Mo D:=on1 λd=>match d with |.bl b=>.ok (.int (if b=uO then 1 else 0))|_=>.no
theorem zql_:BlD K mIntC E intB:=zdj_ λd v F H Q hs hd q=>by
 split at q
 ·cases hd.bl;exact gotI q hs
 ·exact q.elim
def liD (ls:List (List Nat))(b:D):Mo D:=(strOf b).bind λz=>.grd (z∈ls) (.ok (.int (ls.idxOf z:Nat)))
theorem ex_li (h1:EvX K t1 E env r1)(h2:EvX K t2 E env r2):EvX K (tBM K "list" (mLI K) t1 (tCons t2 tNil)) E env (r1.bind λa=>(strL a).bind λls=>r2.bind (liD ls)):=by
 intro σ F H Q hL hs q;refine ex_v h1 σ F H _ hL hs (q.bind.imp λd F1 H1 x1 k1 v hv=>?_)
 have hd:=DR.un hv;unfold strL at k1;split at k1
 rotate_left
 ·exact k1.elim
 rename_i ds e
 rw[e]at hd;obtain⟨a,us,rfl,n,r⟩:=hd.nd;cases e2:strsD ds with
 |none=>rw[e2]at k1;exact k1.elim
 |some ls=>
  rw[e2]at k1;rw[zfw_ e2 r]at n;refine⟨.inl ⟨rfl,_,SqL.of (x1.2.1 _ _ n)⟩,?_⟩;refine ex_v h2 σ F1 H1 _ (hL.mono x1.1) x1.2.1 (After.imp (After.bind (show After K (r2.bind (liD ls)) E F1 H1 (OwnK (owD K) H Q)from k1)) λb F2 H2 x2 k2 w hw=>?_)
  unfold liD at k2;rcases zbo_ b with e' |⟨l',e'⟩
  ·rw[e']at k2;exact k2.elim
  ·rw[e']at k2
   obtain⟨c,k3⟩:=After.grd (show After K (.grd (l'∈ls) (.ok (D.int (ls.idxOf l':Nat)))) E F2 H2 (OwnK (owD K) H Q)from k2)
   exact⟨a,ls,l',rfl,by rw[zjC_ e' hw],SqL.of (x2.2.1 _ _ (x2.1 _ _ n)),c,gotI (k3.imp λa F3 H3 x3 k3=>k3.back (x1.2.2.1.trans x2.2.2.1)) x2.2.1⟩
end
section
def mSortT (K:lR):List V->Hp->VK->Prop:=λxs H Q=>match xs with
 |[.ref p]=>∃ls:List (List Nat),SqL K H p (ls.map tx)/\ls.length<64/\∀fD:List (List Nat),fD.Perm ls->fD.Pairwise (λa b=>ltS b a=uP)->∀l,H l=uN->Q (.ref l) (upd H l (.lst (fD.map tx)))
 |_=>False
theorem zbc_:∀{ss:List Str}{vs:List aU},StrsAre vs ss->Vals ((ss.map λz=>z.cps.toList).map tx) vs
 |_,_,.nil=>.nil
 |_,_,.cons _ _ h=>.cons ⟨_,rfl⟩ (zbc_ h)
theorem zmn_:∀{l:List Str}{p:Str},risingS p l=uO->(p::l).Pairwise λa b=>ltS b.cps.toList a.cps.toList=uP
 |[],_,_=>qo _ _
 |x::l,p,h=>by
  unfold risingS at h;rw[ky,px,ltCps_eq]at h;have r:=zmn_ h.2;refine ph.mpr ⟨λy hy=>?_,r⟩
  rcases lA.mp hy with rfl |hy
  ·exact h.1
  ·have a:=of_decide_eq_false h.1
   have b:=of_decide_eq_false ((ph.mp r).1 y hy);exact decide_eq_false λz=>(tu a b:_<=_) z
theorem zgj_ {X:Cx}:CallR X (.builtin "sorted") (mSortT X.K):=by
 intro pins s σ H xs us Q I r h;unfold mSortT at h;split at h
 rotate_left
 ·exact h.elim
 rename_i p
 obtain⟨ls,hp,cR,q⟩:=h;obtain⟨u,rfl,rx⟩:=vals1 r;cases rx;obtain⟨aa,rv,pl,hz⟩:=I.list hp;have hn:=rv.length;rw[kE]at hn;refine sorted_strs pl.isList (zcx_ rv) (by lia) λout fq a1 a2 a3=>?_
 obtain⟨e,he⟩:=sortedAll_at s.heap aa out;have iP:(fq.map λz:Str=>z.cps.toList).Perm ls:=by
  have:=a2.map λz:Str=>z.cps.toList
  rw[lY,show((λz:Str=>z.cps.toList)∘λl:List Nat=>(⟨l.toArray⟩:Str))=id from rfl,qT]at this
  exact this
 have j9:(fq.map λz:Str=>z.cps.toList).Pairwise λa b=>ltS b a=uP:=by
  rw[qa];cases fq with
  |nil=>exact .nil
  |cons x l=>exact zmn_ a3
 exact⟨.ref (s.heap.objs.size+1),_,I.laid (o:=.lst ((fq.map λz:Str=>z.cps.toList).map tx)) (t':=s.toks) (λ_ _=>sortedAll_old) (nj _) ⟨by rw[kE,iP.length_eq];exact zaw_ (by lia),out.toList,e,zbc_ a1,by simpa using he⟩,rfl,q _ iP j9 _ (I.hok.fresh (nj _))⟩
variable {K:mj}{E:XK}
def srtT:List D->Mo D:=on1 λd=>match d with
 |.nd .lst ds=>(match strsD ds with |some ls=>.grd (ls.length<64) (.ok (.nd .lst ((srtL ltS ls).map .str)))|none=>.no)
 |_=>.no
theorem zeZ_ {F:Hp}:∀(ls:List (List Nat)),DRs K (ls.map .str) (ls.map tx) F
 |[]=>by unfold DRs;rfl
 |l::ls=>by rw[kX,kX];unfold DRs;exact⟨_,_,rfl,by unfold DR;rfl,zeZ_ ls⟩
theorem zka_:BlD K (mSortT K) E srtT:=zdj_ λd v F H Q hs hd q=>by
 split at q
 ·obtain⟨p,us,rfl,n,r⟩:=hd.nd
  split at q
  rotate_left
  ·exact q.elim
  rename_i ls e
  obtain⟨c,q⟩:=q.grd;refine⟨ls,?_,c,λfD hp cA l hl=>?_⟩
  ·rw[<- zfw_ e r];exact .of (hs _ _ n)
  ·rw[zbf_ zmC_ hp cA]
   exact newL (by rw[lY];exact q) hs hl (zeZ_ _)
 ·exact q.elim
theorem zlD_ {X:Cx}{elts:List lq}{kk:Nat}{cV:Pos}{a b:lq}{ta:TA}{p pos:Pos}(hm:Gb X.mg "zip")(ha:PA X [a,b] ta)(hg:Gl X "zip")(hs:lQ [a,b] X.env=[(uP,eval a X.env),(uP,eval b X.env)])(aQ:lQ [b] X.env=[(uP,eval b X.env)]):
  PI X (.Tuple elts kk cV) (.Call (.Name "zip" p) [a,b] [] pos) (λσ H R=>ta σ H λvs H1=>match vs with
   |[.ref a,.ref b]=>(∃xs,SqL X.K H1 a xs)/\(∃ys,SqL X.K H1 b ys)/\R (Itz X.K a b) H1
   |_=>False):=by
 intro pins s σ H R I h;refine Call_ (zdq_ I hg hm (u:=.type "zip") (by rfl) (mV (thn (ha pos pins s σ H _ I h) λus s1 af=>?_) (by rw[hs,aQ]) (by rw[aQ];rfl)))
 obtain⟨vs,H1,I1,r1,q1⟩:=af
 try dsimp only at q1
 have lo:∀b∈[s1.heap.objs.size+4,s1.heap.objs.size+2,s1.heap.objs.size+3,s1.heap.objs.size,s1.heap.objs.size+1],s1.heap.objs.size<=b:=λb hb=>by
  simp only[lA,se,or_false]at hb;rcases hb with rfl |rfl |rfl |rfl |rfl<;>first |exact si _ _ |exact kP _
 split at q1
 ·rename_i l m
  obtain⟨⟨xs,hq⟩,⟨ys,hq2⟩,q⟩:=q1;obtain⟨w1,w2,rfl,r,r'⟩:=vals2 r1;cases r;cases r';obtain⟨aa,rv,p1,hz⟩:=I1.list hq;obtain⟨aj,rv2,p2,hz2⟩:=I1.list hq2;refine call_zip_2 p1.isList p2.isList λh' iw bX b_ h1 h2 hsz hk=>?_
  refine wpAny_pyIter_zip (s:={s1 with heap:=h'}) iw ?_;have I2:Inv X pins σ H1 {s1 with heap:=h'}:=I1.kept (t':=s1.toks) hk;have la:l<s1.heap.objs.size:=by obtain⟨o,e,_⟩:=p1.isList;exact k8 e
  have lb:m<s1.heap.objs.size:=by obtain⟨o,e,_⟩:=p2.isList;exact k8 e
  refine⟨s1.heap.objs.size+4,[s1.heap.objs.size+4,s1.heap.objs.size+2,s1.heap.objs.size+3,s1.heap.objs.size,s1.heap.objs.size+1],_,_,H1,rfl,I2,zkt_ _ _ _ _ _ l m (zhS_ la lb),⟨iw,bX,⟨_,_,b_⟩,h1,h2⟩,λb hb=>?_,q⟩
  exact I1.fpOk (lo b hb) (I1.hok.fresh (lo b hb))
 ·exact q1.elim
theorem zno_:∀{is:List Int}{us:List V},Prs tyInt F is us->us=is.map .int
 |_,_,.nil=>rfl
 |_,_,.cons a r=>by cases a;rw[kX,<- zno_ r]
theorem ziH_:∀{ks:List Key}{is:List Int}{us:List V},keysI ks=uM is->ks.length=us.length->((ks.zip us).map λq=>kV q.1)=is.map .int
 |[],is,us,h,e=>by cases h;rfl
 |.inl i::ks,is,[],h,e=>by cases e
 |.inl i::ks,is,u::us,h,e=>by
  unfold keysI at h;obtain⟨kf,h',rfl⟩:=lh.mp h;rw[lV,kX,kX,ziH_ h' (by simpa using e)];rfl
 |.inr _::_,_,_,h,_=>by cases h
theorem zlW_ {ns aX:List Int}(p:aX.Perm ns)(s:aX.Pairwise (·<=·)):aX=srtL ltI ns:=zbf_ zoj_ p (s.imp λ{a b} h=>by show decide _=uP;exact decide_eq_false (by lia))
theorem zjb_ (l:List Int):(l.map D.int).map D.vw=l.map D.int:=by rw[lY];rfl
theorem zjZ_:BlD K (mSortI K) E sortI:=zdj_ λd v F H Q hs hd q=>by
 split at q
 ·obtain⟨p,us,rfl,n,r⟩:=hd.nd
  split at q
  rotate_left
  ·exact q.elim
  rename_i is e
  unfold srtI at q;obtain⟨c,q⟩:=q.grd;refine⟨is,.inl ?_,c,λaX hp cA l hl=>?_⟩
  ·rw[<- zno_ (zdr_ e r)];exact .of (hs _ _ n)
  ·rw[zlW_ hp cA];exact newL (by rw[zjb_];exact q) hs hl (zbH_ _)
 ·obtain⟨p,us,rfl,n,r⟩:=hd.nd
  split at q
  rotate_left
  ·exact q.elim
  rename_i is e
  unfold srtI at q;obtain⟨c,q⟩:=q.grd;refine⟨is,.inr ⟨_,hs _ _ n.1,ziH_ e n.2.1⟩,c,λaX hp cA l hl=>?_⟩
  rw[zlW_ hp cA];exact newL (by rw[zjb_];exact q) hs hl (zbH_ _)
 ·exact q.elim
end
structure Gi where
 cs:List Str
 kt:List (Str×List (List Nat)):=[]
structure Gi.Ok (G:Gi)(K:lR):Prop where
 cs:G.cs≠[]
 kt:∀q∈G.kt,SqU K (gA K q.1) (q.2.map tx)
inductive Bo where
 |add |sub |mul |mod |div |lt |le |gt |ge |eq |ne |is |isn |inn |nin |ix |ned |ltT |gtT |ltL
inductive Bf where
 |len |list |min |str |all |sorted |int |sortT
inductive Sm where
 |join |index |zfill
inductive Ik where
 |any |r1 |r2 |en |zip
inductive X where
 |v (i:Nat)|k (d:D)|g (x:Str) (d:D)
 |gt (x:Str) (ls:List (List Nat))
 |bin (o:Bo) (a b:X)|ch (o o':Bo) (a b c:X)
 |and (a b:X)|or (a b:X)|not (a:X)|neg (a:X)|ifx (c a b:X)
 |sl (a:X) (lo hi:Option X)
 |tup (as:List X)|lst (as:List X)
 |fld (a:X) (f:Str)
 |call (f:Fn) (x:Str) (as:List X)
 |bf (o:Bf) (as:List X)
 |sm (o:Sm) (a:X) (as:List X)
 |comp (lv:List Str) (fr:List (Str×Nat)) (ik:Ik) (src:List X) (tg:Tg) (c:Option X) (e:X)
 |lr (a b:X)
 |srt (p:Str) (fr:List (Str×Nat)) (i:Nat) (e:X)
 |mkd (f:Fn) (c:Str) (as:List X) (dv:List D)
 |ds1 (k v:X)|ds2 (k v l w:X)
 |li (a b:X)
 |isa (a:X) (n:String)|dct0 |ch3 (o o' aK:Bo) (a b c d:X)
def Bo.r (K:lR):Bo->R2
 |.add=>mAddA K |.sub=>mSub |.mul=>mMulX |.mod=>mMod |.div=>mDivG
 |.lt=>mLt |.le=>mLe |.gt=>mGt |.ge=>mGe |.eq=>mEqA K |.ne=>mNeA K |.is=>mIs |.isn=>mIsNot
 |.inn=>rInA K uP |.nin=>rInA K uO |.ix=>rIxA K |.ned=>mNeDL K |.ltT=>mTxt λi j=>decide (i<j)|.gtT=>mTxt λi j=>decide (j<i)|.ltL=>mLtK K
def Bo.f:Bo->D->D->Mo D
 |.add=>addA |.sub=>subD |.mul=>mulD |.mod=>modD |.div=>divD
 |.lt=>ltD |.le=>leD |.gt=>gtD |.ge=>geD |.eq=>eqD uP |.ne=>eqD uO |.is=>isD uP |.isn=>isD uO
 |.inn=>inA uP |.nin=>inA uO |.ix=>ixA |.ned=>nedD |.ltT=>txtD λi j=>decide (i<j)|.gtT=>txtD λi j=>decide (j<i)|.ltL=>ltLD
def Bf.r (K:lR):Bf->List V->Hp->VK->Prop
 |.len=>mLenA K |.list=>mListA K |.min=>mTwo Min.min |.str=>mStr |.all=>mAll K |.sorted=>mSortI K |.int=>mIntC |.sortT=>mSortT K
def Bf.f:Bf->List D->Mo D
 |.len=>lenA |.list=>listA |.min=>minD |.str=>strD |.all=>allD |.sorted=>sortI |.int=>intB |.sortT=>srtT
def Sm.r (K:lR):Sm->V->List V->Hp->VK->Prop
 |.join=>mJoin K |.index=>mIndex |.zfill=>mZfill
def Sm.f:Sm->List Nat->List D->Mo D
 |.join=>joinD |.index=>indexD |.zfill=>zfillD
def Ik.w (K:lR):Ik->List V->L2.St->Hp->(It->Hp->Prop)->Prop
 |.any=>iAnyW K
 |.r1=>λvs _ H1 R=>match vs with |[.int j] => -(2 ^ 62)<=j/\j<2 ^ 62/\R (Itr 0 j.toNat) H1 |_=>False
 |.r2=>λvs _ H1 R=>match vs with |[.int i,.int j]=>(-(2 ^ 62)<=i/\i<2 ^ 62 /\ -(2 ^ 62)<=j/\j<2 ^ 62)/\R (Itr i (j-i).toNat) H1 |_=>False
 |.en=>λvs _ H1 R=>match vs with |[.str z]=>R (Ites z.cps.toList.length (λi=>tx [z.cps.toList.getD i 0])) H1 |[.ref a]=>(∃xs,SqL K H1 a xs)/\R (Ite K a) H1 |_=>False
 |.zip=>λvs _ H1 R=>match vs with
  |[.ref a,.ref b]=>(∃xs,SqL K H1 a xs)/\(∃ys,SqL K H1 b ys)/\R (Itz K a b) H1
  |_=>False
def Ik.t (K:lR)(o:Ik)(ta:TA):TI:=λσ H R=>ta σ H λvs H1=>o.w K vs σ H1 R
def Ik.f:Ik->List D->Mo (List D)
 |.any=>walkA |.r1=>rng1D |.r2=>rng2D |.en=>enumD |.zip=>zipD
theorem ik_w {K:lR}{E:XK}(o:Ik):WkW K E (o.w K) o.f:=by
 cases o with
 |any=>exact w_any
 |r1=>exact w_rg1
 |r2=>exact w_rg2
 |en=>exact w_en
 |zip=>exact w_zip
theorem ik_ok {K:lR}{E:XK}{env:Env}{ta:TA}{ra:Mo (List D)}(o:Ik)(h:EvAs K ta E env ra):EvI K (o.t K ta) E (Lof K env) (ra.bind o.f) (tyD K):=ei_w (ik_w o) h
section
variable (K:mj)(G:Gi)
mutual
def X.den:XK->X->TE
 |_,.v i=>mVar i
 |_,.k d=>tC (d.flat?.getD .non)
 |_,.g _ d=>tC (d.flat?.getD .non)
 |_,.gt x _=>tC (.ref (gA K x))
 |E,.bin o a b=>tOp (o.r K) (a.den E) (b.den E)
 |E,.ch o o' a b c=>mChain (o.r K) (o'.r K) (a.den E) (b.den E) (c.den E)
 |E,.and a b=>mAndV (a.den E) (b.den E)
 |E,.or a b=>mOrV (a.den E) (b.den E)
 |E,.not a=>mNotV (a.den E)
 |E,.neg a=>mNeg (a.den E)
 |E,.ifx c a b=>mIf (mTest (c.den E)) (a.den E) (b.den E)
 |E,.sl a lo hi=>tSl (mSlA K) (a.den E) (X.denO E lo) (X.denO E hi)
 |E,.tup as=>tTup (X.dens E as)
 |E,.lst as=>tLst (X.dens E as)
 |E,.fld a f=>tFld K G.cs (a.den E) f
 |E,.call f _ as=>tCall (CtG K f) [] E (X.dens E as)
 |E,.bf o as=>tCB (o.r K) (X.dens E as)
 |E,.sm o a as=>tBM K "str" (o.r K) (a.den E) (X.dens E as)
 |E,.comp lv fr ik src tg c e=>tComp lv fr (ik.t K (X.dens E src)) (tgT K tg) (X.denT E0 c) (e.den E0)
 |E,.lr a b=>tCB (mList K) (tCons (tCB mRange (tCons (a.den E) (tCons (b.den E) tNil))) tNil)
 |_,.srt _ fr i e=>tSrt K fr i (e.den E0)
 |E,.mkd f c as dv=>tMake (gA K c) (CtG K f) ((flats dv).getD []) E (X.dens E as)
 |E,.ds1 a0 b0=>tDisp [(a0.den E,b0.den E)]
 |E,.ds2 a0 b0 c0 d0=>tDisp [(a0.den E,b0.den E),(c0.den E,d0.den E)]
 |E,.li a b=>tBM K "list" (mLI K) (a.den E) (tCons (b.den E) tNil)
 |E,.isa a n=>tCB (mIsaV K) (tCons (a.den E) (tCons (tC (.ty n)) tNil))
 |_,.dct0=>tDNewK
 |E,.ch3 o o' aK a b c d=>mChain3 (o.r K) (o'.r K) (aK.r K) (a.den E) (b.den E) (c.den E) (d.den E)
def X.dens:XK->List X->TA
 |_,[]=>tNil
 |E,a::as=>tCons (a.den E) (X.dens E as)
def X.denO:XK->Option X->TO
 |_,uN=>tNoPart
 |E,uM a=>mPart (a.den E)
def X.denT:XK->Option X->TT
 |_,uN=>tTrue
 |E,uM a=>mTest (a.den E)
end
end
def chD (o o':Bo)(x y:D)(r:Mo D):Mo D:=(o.f x y).bind λz=>(blD z).bind λb=>if b then r.bind λw=>o'.f y w else .ok (.bl uP)
def ch3D (o o' aK:Bo)(x y:D)(r s:Mo D):Mo D:=(o.f x y).bind λz=>(blD z).bind λb=>if b then r.bind λw=>chD o' aK y w s else .ok (.bl uP)
section
variable (G:Gi)
mutual
def X.ev:Env->X->Mo D
 |env,.v i=>getE env i
 |_,.k d=>if d.flat?.isSome then .ok d else .no
 |_,.g _ d=>if d.flat?.isSome then .ok d else .no
 |_,.gt x ls=>if(x,ls)∈G.kt then .ok (.nd .ktup (ls.map .str))else .no
 |env,.bin o a b=>(a.ev env).bind λx=>(b.ev env).bind λy=>o.f x y
 |env,.ch o o' a b c=>(a.ev env).bind λx=>(b.ev env).bind λy=>chD o o' x y (c.ev env)
 |env,.and a b=>(a.ev env).bind λx=>andD x (b.ev env)
 |env,.or a b=>(a.ev env).bind λx=>orD x (b.ev env)
 |env,.not a=>(a.ev env).bind λx=>(blD x).bind λb=>.ok (.bl (!b))
 |env,.neg a=>(a.ev env).bind negD
 |env,.ifx c a b=>((c.ev env).bind blD).bind λt=>if t then a.ev env else b.ev env
 |env,.sl a lo hi=>(a.ev env).bind λx=>(X.evO env lo).bind λl=>(X.evO env hi).bind λh=>slA x l h
 |env,.tup as=>(X.evs env as).bind λds=>.lim ds.length (.ok (.nd .tup ds))
 |env,.lst as=>(X.evs env as).bind λds=>.lim ds.length (.ok (.nd .lst ds))
 |env,.fld a f=>(a.ev env).bind (fldD G.cs f)
 |env,.call f _ as=>(X.evs env as).bind λds=>f.val (ds.map .vw)
 |env,.bf o as=>(X.evs env as).bind o.f
 |env,.sm o a as=>(a.ev env).bind λd=>(strOf d).bind λl=>(X.evs env as).bind λc=>o.f l c
 |env,.comp lv fr ik src tg c e=>if tg.is.all (·<lv.length)then(((X.evs env src).bind ik.f).bind λl=>.opt (tgsD tg l)).bind λxs=>(compM (λx=>cond1 (X.evT (setE (cE lv fr env) tg.is x) c) (e.ev (setE (cE lv fr env) tg.is x))) xs []).bind λys=>.ok (.nd .lst ys)else .no
 |env,.lr a b=>(a.ev env).bind λx=>(b.ev env).bind λy=>lrD x y
 |env,.srt p fr i e=>(getE env i).bind λd=>(strL d).bind λls=>.grd (ls.length<64) ((compM (λx=>cond1 (.ok uO) (e.ev (setE (cE [p] fr env) [0] x))) (ls.map λl=>[D.str l]) []).bind λks=>srtK ls ks)
 |env,.mkd f c as dv=>if(flats dv).isSome then(X.evs env as).bind λds=>makeD f c (ds++dv)else .no
 |env,.ds1 a0 b0=>(a0.ev env).bind λa=>(b0.ev env).bind λb=>dspD [a,b]
 |env,.ds2 a0 b0 c0 d0=>(a0.ev env).bind λa=>(b0.ev env).bind λb=>(c0.ev env).bind λc=>(d0.ev env).bind λd=>dspD [a,b,c,d]
 |env,.li a b=>(a.ev env).bind λx=>(strL x).bind λls=>(b.ev env).bind (liD ls)
 |env,.isa a n=>(a.ev env).bind (isaD n)
 |_,.dct0=>.ok (.nd (.dct []) [])
 |env,.ch3 o o' aK a b c d=>(a.ev env).bind λx=>(b.ev env).bind λy=>ch3D o o' aK x y (c.ev env) (d.ev env)
def X.evs:Env->List X->Mo (List D)
 |_,[]=>.ok []
 |env,a::as=>(a.ev env).bind λd=>(X.evs env as).bind λds=>.ok (d::ds)
def X.evO:Env->Option X->Mo (Option Int)
 |_,uN=>.ok uN
 |env,uM a=>(a.ev env).bind λd=>(intD d).bind λi=>.ok (uM i)
def X.evT:Env->Option X->Mo Bool
 |_,uN=>.ok uO
 |env,uM a=>(a.ev env).bind blD
end
end
section
variable {K:mj}{E:XK}{env:Env}{G:Gi}
theorem zjB_ (o:Bo):Op2D K (o.r K) E o.f:=by
 cases o with
 |add=>exact znO_
 |sub=>exact zqA_
 |mul=>exact zo4_
 |mod=>exact zqD_
 |div=>exact zp6_
 |lt=>exact od_lt
 |le=>exact od_le
 |gt=>exact od_gt
 |ge=>exact od_ge
 |eq=>exact od_eq
 |ne=>exact od_ne
 |is=>exact od_is
 |isn=>exact zri_
 |inn=>exact zm5_
 |nin=>exact zm5_
 |ix=>exact zqe_
 |ned=>exact zqY_
 |ltT=>exact zl3_
 |gtT=>exact zl3_
 |ltL=>exact zrm_
theorem bf_ok (o:Bf):BlD K (o.r K) E o.f:=by
 cases o with
 |len=>exact zlo_
 |list=>exact zkd_
 |min=>exact zoX_
 |str=>exact zq8_
 |all=>exact zqO_
 |sorted=>exact zjZ_
 |int=>exact zql_
 |sortT=>exact zka_
theorem sm_ok (o:Sm):MeD K (o.r K) E o.f:=by
 cases o with
 |join=>exact znk_
 |index=>exact zju_
 |zfill=>exact zj2_
theorem zjw_ {α:Type}{O:Own α}{m:Mo α}{F H:Hp}{Q:VK}(q:After K m E F H (λc F' H'=>∀v,O.fr.R c v F'->Q v H')):After K m E F H (OwnK O H Q):=by
 cases m with
 |no=>exact q
 |ex c=>exact q
 |ok a=>
  intro F' H' x v h' fresh d s o;refine q (un F' h') H' ⟨x.1.trans z1_,λp o e=>?_,x.2.2.1,λp a b=>?_⟩ v (O.frz d o)
  ·unfold un at e
   cases z:F' p with
   |some w=>rw[z]at e;cases e;exact x.2.1 _ _ z
   |none=>rw[z]at e;exact s _ _ e
  ·unfold un at b
   cases z:F' p with
   |some w=>exact x.2.2.2 p a (by rw[z];exact sN _)
   |none=>rw[z]at b;exact fresh p b
theorem ex_ch {o o':Bo}{t1 t2 t3:TE}{r1 r2 r3:Mo D}(h1:EvX K t1 E env r1)(h2:EvX K t2 E env r2)(h3:EvX K t3 E env r3):EvX K (mChain (o.r K) (o'.r K) t1 t2 t3) E env (r1.bind λx=>r2.bind λy=>chD o o' x y r3):=by
 intro σ F H Q hL hs q;refine ex_v h1 σ F H _ hL hs (q.bind.imp λa F1 H1 x1 k1 v1 aN=>?_)
 refine ex_v h2 σ F1 H1 _ (hL.mono x1.1) x1.2.1 (k1.bind.imp λb F2 H2 x2 k2 v2 cX=>?_)
 refine zjB_ o a b v1 v2 F2 H2 _ x2.2.1 ((tyD K).mono x2.1 aN) cX (zjw_ (k2.bind.imp λz F3 H3 x3 k3 w hw=>?_))
 have hz:=DR.un hw;unfold blD at k3;split at k3
 ·rename_i c e
  rw[e]at hz;cases hz.bl;refine⟨λz=>?_,λz=>?_⟩
  ·subst z
   refine ex_v h3 σ F3 H3 _ (hL.mono (x1.1.trans (x2.1.trans x3.1))) x3.2.1 (After.imp (After.bind (show After K (r3.bind λw=>o'.f b w) E F3 H3 _ from k3)) λw F4 H4 x4 k4 v4 dF=>?_)
   exact zjB_ o' b w v2 v4 F4 H4 Q x4.2.1 ((tyD K).mono (x3.1.trans x4.1) cX) dF (k4.imp λa F5 H5 x5 k5=>k5.back (x1.2.2.1.trans (x2.2.2.1.trans (x3.2.2.1.trans x4.2.2.1))))
  ·subst z
   exact gotB (After.imp (show After K (.ok (D.bl uP)) E F3 H3 (OwnK (owD K) H Q)from k3) λa F5 H5 x5 k5=>k5.back (x1.2.2.1.trans (x2.2.2.1.trans x3.2.2.1))) x3.2.1
 ·exact k3.elim
theorem zoR_ {o o' aK:Bo}{t1 t2 t3 t4:TE}{r1 r2 r3 r4:Mo D}(h1:EvX K t1 E env r1)(h2:EvX K t2 E env r2)(h3:EvX K t3 E env r3)(h4:EvX K t4 E env r4):EvX K (mChain3 (o.r K) (o'.r K) (aK.r K) t1 t2 t3 t4) E env (r1.bind λx=>r2.bind λy=>ch3D o o' aK x y r3 r4):=by
 intro σ F H Q hL hs q;refine ex_v h1 σ F H _ hL hs (q.bind.imp λa F1 H1 x1 k1 v1 aN=>?_)
 refine ex_v h2 σ F1 H1 _ (hL.mono x1.1) x1.2.1 (k1.bind.imp λb F2 H2 x2 k2 v2 cX=>?_)
 refine zjB_ o a b v1 v2 F2 H2 _ x2.2.1 ((tyD K).mono x2.1 aN) cX (zjw_ (k2.bind.imp λz F3 H3 x3 k3 w hw=>?_))
 have hz:=DR.un hw;unfold blD at k3;split at k3
 ·rename_i c e
  rw[e]at hz;cases hz.bl;refine⟨λz=>?_,λz=>?_⟩
  ·subst z
   refine ex_v h3 σ F3 H3 _ (hL.mono (x1.1.trans (x2.1.trans x3.1))) x3.2.1 (After.imp (After.bind (show After K (r3.bind λw=>chD o' aK b w r4) E F3 H3 _ from k3)) λw F4 H4 x4 k4 v4 dF=>?_)
   refine zjB_ o' b w v2 v4 F4 H4 _ x4.2.1 ((tyD K).mono (x3.1.trans x4.1) cX) dF (zjw_ ((After.bind (show After K ((o'.f b w).bind _) E F4 H4 _ from k4)).imp λz5 F5 H5 x5 k5 w5 i8=>?_))
   have iu:=DR.un i8;unfold blD at k5;split at k5
   ·rename_i c5 e5
    rw[e5]at iu;cases iu.bl;refine⟨λz=>?_,λz=>?_⟩
    ·subst z
     refine ex_v h4 σ F5 H5 _ (hL.mono (x1.1.trans (x2.1.trans (x3.1.trans (x4.1.trans x5.1))))) x5.2.1 (After.imp (After.bind (show After K (r4.bind λw'=>aK.f w w') E F5 H5 _ from k5)) λw' F6 H6 x6 k6 v6 i9=>?_)
     exact zjB_ aK w w' v4 v6 F6 H6 Q x6.2.1 ((tyD K).mono (x5.1.trans x6.1) dF) i9 (k6.imp λa F7 H7 x7 k7=>k7.back (x1.2.2.1.trans (x2.2.2.1.trans (x3.2.2.1.trans (x4.2.2.1.trans (x5.2.2.1.trans x6.2.2.1))))))
    ·subst z
     exact gotB (After.imp (show After K (.ok (D.bl uP)) E F5 H5 (OwnK (owD K) H Q)from k5) λa F7 H7 x7 k7=>k7.back (x1.2.2.1.trans (x2.2.2.1.trans (x3.2.2.1.trans (x4.2.2.1.trans x5.2.2.1))))) x5.2.1
   ·exact k5.elim
  ·subst z
   exact gotB (After.imp (show After K (.ok (D.bl uP)) E F3 H3 (OwnK (owD K) H Q)from k3) λa F5 H5 x5 k5=>k5.back (x1.2.2.1.trans (x2.2.2.1.trans x3.2.2.1))) x3.2.1
 ·exact k3.elim
theorem ex_k {d:D}(i:Str):EvX K (tC (d.flat?.getD .non)) E env (if d.flat?.isSome then .ok d else .no):=by
 cases e:d.flat? with
 |none=>exact λσ F H Q hL hs q=>q.elim
 |some v=>
  intro σ F H Q hL hs q;have q:After K (.ok d) E F H (OwnK (owD K) H Q):=q;show Q v H
  cases d with
  |non=>cases e;exact gotN q hs
  |bl=>cases e;exact gotB q hs
  |int=>cases e;exact gotI q hs
  |str=>cases e;exact gotS q hs
  |_=>cases e
theorem zf5_:∀ls:List (List Nat),D.imms (ls.map .str)=uO
 |[]=>rfl
 |l::ls=>by rw[kX];unfold D.imms;rw[zf5_ ls];rfl
mutual
theorem X.sound (g0:G.Ok K):∀(x:X) (E:XK) (env:Env),EvX K (x.den K G E) E env (x.ev G env)
 |.v i,E,env=>zlu_ i
 |.k d,E,env=>ex_k ""
 |.g x d,E,env=>ex_k x
 |.gt x ls,E,env=>by
  show EvX K _ E env (if _ then _ else _)
  by_cases h:(x,ls)∈G.kt
  ·rw[if_pos h]
   exact ex_c (λF=>by unfold DR;exact⟨_,_,rfl,g0.kt _ h,zje_ ls⟩) (by unfold D.imm;exact zf5_ ls)
  ·rw[if_neg h];exact λσ F H Q hL hs q=>q.elim
 |.bin o a b,E,env=>ex_op (zjB_ o) (X.sound g0 a E env) (X.sound g0 b E env)
 |.ch o o' a b c,E,env=>ex_ch (X.sound g0 a E env) (X.sound g0 b E env) (X.sound g0 c E env)
 |.and a b,E,env=>zqR_ (X.sound g0 a E env) (X.sound g0 b E env)
 |.or a b,E,env=>ex_or (X.sound g0 a E env) (X.sound g0 b E env)
 |.not a,E,env=>zoC_ (X.sound g0 a E env)
 |.neg a,E,env=>zpe_ (X.sound g0 a E env)
 |.ifx c a b,E,env=>ex_if (zfY_ (X.sound g0 c E env)) (X.sound g0 a E env) (X.sound g0 b E env)
 |.sl a lo hi,E,env=>zqQ_ (X.sound g0 a E env) (X.soundO g0 lo E env) (X.soundO g0 hi E env)
 |.tup as,E,env=>zqJ_ (X.sounds g0 as E env)
 |.lst as,E,env=>zp9_ (X.sounds g0 as E env)
 |.fld a f,E,env=>zpK_ g0.cs (X.sound g0 a E env)
 |.call f x as,E,env=>znz_ (X.sounds g0 as E env)
 |.bf o as,E,env=>ex_cb (bf_ok o) (X.sounds g0 as E env)
 |.sm o a as,E,env=>ex_me (sm_ok o) (X.sound g0 a E env) (X.sounds g0 as E env)
 |.comp lv fr ik src tg c e,E,env=>by
  show EvX K _ E env (if _ then _ else _)
  split
  ·rename_i h
   exact ziA_ (ik_ok ik (X.sounds g0 src E env)) (λi hi=>by simpa using mm.mp h i hi) (λa=>X.soundT g0 c E0 _) (λa=>X.sound g0 e E0 _)
  ·exact λσ F H Q hL hs q=>q.elim
 |.lr a b,E,env=>ex_lr (X.sound g0 a E env) (X.sound g0 b E env)
 |.li a b,E,env=>ex_li (X.sound g0 a E env) (X.sound g0 b E env)
 |.isa a n,E,env=>zpL_ n (X.sound g0 a E env)
 |.srt p fr i e,E,env=>zo1_ λa=>X.sound g0 e E0 _
 |.mkd f c as dv,E,env=>by
  show EvX K (tMake (gA K c) (CtG K f) ((flats dv).getD []) E _) E env (if(flats dv).isSome then _ else _)
  cases e:flats dv with
  |none=>exact ex_no
  |some av=>exact zo0_ (X.sounds g0 as E env) λF=>zgK_ e
 |.ds1 a0 b0,E,env=>by
  have:=ziV_ (trs:=[(_,_)]) (zaY_ (X.sound g0 a0 E env) (zaY_ (X.sound g0 b0 E env) zgZ_));simp only[Mo.bind_assoc]at this;exact this
 |.ds2 a0 b0 c0 d0,E,env=>by
  have:=ziV_ (trs:=[(_,_),(_,_)]) (zaY_ (X.sound g0 a0 E env) (zaY_ (X.sound g0 b0 E env) (zaY_ (X.sound g0 c0 E env) (zaY_ (X.sound g0 d0 E env) zgZ_))));simp only[Mo.bind_assoc]at this;exact this
 |.dct0,E,env=>zoc_
 |.ch3 o o' aK a b c d,E,env=>zoR_ (X.sound g0 a E env) (X.sound g0 b E env) (X.sound g0 c E env) (X.sound g0 d E env)
theorem X.sounds (g0:G.Ok K):∀(as:List X) (E:XK) (env:Env),EvAs K (X.dens K G E as) E env (X.evs G env as)
 |[],E,env=>zgZ_
 |a::as,E,env=>zaY_ (X.sound g0 a E env) (X.sounds g0 as E env)
theorem X.soundO (g0:G.Ok K):∀(a:Option X) (E:XK) (env:Env),EvP K (X.denO K G E a) E (Lof K env) (X.evO G env a)
 |none,E,env=>ep_no
 |some a,E,env=>ep_x (X.sound g0 a E env)
theorem X.soundT (g0:G.Ok K):∀(a:Option X) (E:XK) (env:Env),EvT K (X.denT K G E a) E (Lof K env) (X.evT G env a)
 |none,E,env=>zlO_
 |some a,E,env=>zfY_ (X.sound g0 a E env)
end
end
mutual
def X.uses:X->List Nat
 |.v i=>[i]
 |.k _=>[]
 |.g _ _=>[]
 |.gt _ _=>[]
 |.bin _ a b=>a.uses++b.uses
 |.ch _ _ a b c=>a.uses++b.uses++c.uses
 |.and a b=>a.uses++b.uses
 |.or a b=>a.uses++b.uses
 |.not a=>a.uses
 |.neg a=>a.uses
 |.ifx c a b=>c.uses++a.uses++b.uses
 |.sl a lo hi=>a.uses++X.usesO lo++X.usesO hi
 |.tup as=>X.usesL as
 |.lst as=>X.usesL as
 |.fld a _=>a.uses
 |.call _ _ as=>X.usesL as
 |.bf _ as=>X.usesL as
 |.sm _ a as=>a.uses++X.usesL as
 |.comp _ fr _ src _ _ _=>X.usesL src++fr.map (·.2)
 |.lr a b=>a.uses++b.uses
 |.li a b=>a.uses++b.uses
 |.isa a _=>a.uses
 |.srt _ fr i _=>i::fr.map (·.2)
 |.mkd _ _ as _=>X.usesL as
 |.ds1 a0 b0=>a0.uses++b0.uses
 |.ds2 a0 b0 c0 d0=>a0.uses++(b0.uses++(c0.uses++d0.uses))
 |.dct0=>[]
 |.ch3 _ _ _ a b c d=>(a.uses++b.uses)++(c.uses++d.uses)
def X.usesL:List X->List Nat
 |[]=>[]
 |a::as=>a.uses++X.usesL as
def X.usesO:Option X->List Nat
 |none=>[]
 |some a=>a.uses
end
def Alike (is:List Nat)(e e':Env):Prop:=∀i∈is,getE e i=getE e' i
theorem Alike.l {is js:List Nat}{e e':Env}(h:Alike (is++js) e e'):Alike is e e':=λi hi=>h i (oP _ hi)
theorem Alike.r {is js:List Nat}{e e':Env}(h:Alike (is++js) e e'):Alike js e e':=λi hi=>h i (lM _ hi)
section
variable {G:Gi}
theorem ziQ_ {lv:List Str}{fr:List (Str×Nat)}{e e':Env}(h:Alike (fr.map (·.2)) e e')(j:Nat):getE (cE lv fr e) j=getE (cE lv fr e') j:=by
 unfold cE;by_cases hj:j<lv.length
 ·unfold getE
  rw[mF (by rw[kE];exact hj),mF (by rw[kE];exact hj)]
 ·have hj:=pG hj
  have key:∀e:Env,getE (lv.map (λ_=>uN)++fr.map λq=>(e[q.2]?).join) j=match fr[j-lv.length]? with |some q=>getE e q.2 |none=>.no:=λe=>by
   unfold getE;rw[mD (by rw[kE];exact hj),kE,kZ]
   cases fr[j-lv.length]? with
   |none=>rfl
   |some q=>
    rw[Option.map_some];dsimp only;cases e[q.2]? with |none=>rfl |some o=>cases o<;>rfl
  rw[key,key];cases z:fr[j-lv.length]? with
  |none=>rfl
  |some q=>exact h q.2 (mz.mpr ⟨q,mU z,rfl⟩)
theorem zj4_ {e e':Env}{i:Nat}{o:Option D}(hl:e.length=e'.length)(h:∀j,getE e j=getE e' j)(j:Nat):getE (e.set i o) j=getE (e'.set i o) j:=by
 by_cases hj:i=j
 ·subst hj
  unfold getE;rw[nu,nu,if_pos rfl,if_pos rfl,hl]
 ·have:=h j
  unfold getE at this ⊢;rw[lL hj,lL hj];exact this
theorem zcU_:∀{is:List Nat}{ds:List D}{e e':Env},e.length=e'.length->(∀j,getE e j=getE e' j)->∀j,getE (setE e is ds) j=getE (setE e' is ds) j
 |[],_,_,_,_,h=>h
 |_::_,[],_,_,_,h=>h
 |i::is,d::ds,e,e',hl,h=>λj=>zcU_ (is:=is) (ds:=ds) (e:=e.set i (uM d.vw)) (e':=e'.set i (uM d.vw)) (by rw[mS,mS,hl]) (zj4_ hl h) j
theorem zlz_ {lv:List Str}{fr:List (Str×Nat)}{e e':Env}:(cE lv fr e).length=(cE lv fr e').length:=by unfold cE;simp
mutual
theorem X.ev_uses:∀(x:X) {e e':Env},Alike x.uses e e'->x.ev G e=x.ev G e'
 |.v i,e,e',h=>h i (List.mem_singleton_self _)
 |.k d,e,e',h=>rfl
 |.g x d,e,e',h=>rfl
 |.gt x ls,e,e',h=>rfl
 |.bin o a b,e,e',h=>by show Mo.bind _ _=Mo.bind _ _;rw[X.ev_uses a h.l,X.ev_uses b h.r]
 |.ch o o' a b c,e,e',h=>by show Mo.bind _ _=Mo.bind _ _;rw[X.ev_uses a h.l.l,X.ev_uses b h.l.r,X.ev_uses c h.r]
 |.and a b,e,e',h=>by show Mo.bind _ _=Mo.bind _ _;rw[X.ev_uses a h.l,X.ev_uses b h.r]
 |.or a b,e,e',h=>by show Mo.bind _ _=Mo.bind _ _;rw[X.ev_uses a h.l,X.ev_uses b h.r]
 |.not a,e,e',h=>by show Mo.bind _ _=Mo.bind _ _;rw[X.ev_uses a h]
 |.neg a,e,e',h=>by show Mo.bind _ _=Mo.bind _ _;rw[X.ev_uses a h]
 |.ifx c a b,e,e',h=>by show Mo.bind _ _=Mo.bind _ _;rw[X.ev_uses c h.l.l,X.ev_uses a h.l.r,X.ev_uses b h.r]
 |.sl a lo hi,e,e',h=>by show Mo.bind _ _=Mo.bind _ _;rw[X.ev_uses a h.l.l,X.evO_uses lo h.l.r,X.evO_uses hi h.r]
 |.tup as,e,e',h=>by show Mo.bind _ _=Mo.bind _ _;rw[X.evs_uses as h]
 |.lst as,e,e',h=>by show Mo.bind _ _=Mo.bind _ _;rw[X.evs_uses as h]
 |.fld a f,e,e',h=>by show Mo.bind _ _=Mo.bind _ _;rw[X.ev_uses a h]
 |.call f x as,e,e',h=>by show Mo.bind _ _=Mo.bind _ _;rw[X.evs_uses as h]
 |.bf o as,e,e',h=>by show Mo.bind _ _=Mo.bind _ _;rw[X.evs_uses as h]
 |.sm o a as,e,e',h=>by show Mo.bind _ _=Mo.bind _ _;rw[X.ev_uses a h.l,X.evs_uses as h.r]
 |.comp lv fr ik src tg c x,e,e',h=>by
  show(if _ then Mo.bind _ _ else _)=(if _ then Mo.bind _ _ else _)
  rw[X.evs_uses src h.l];have g:∀ds j,getE (setE (cE lv fr e) tg.is ds) j=getE (setE (cE lv fr e') tg.is ds) j:=λds=>zcU_ zlz_ (ziQ_ h.r)
  have g1:∀ds,X.evT G (setE (cE lv fr e) tg.is ds) c=X.evT G (setE (cE lv fr e') tg.is ds) c:=λds=>X.evT_uses c λi _=>g ds i
  have g2:∀ds,x.ev G (setE (cE lv fr e) tg.is ds)=x.ev G (setE (cE lv fr e') tg.is ds):=λds=>X.ev_uses x λi _=>g ds i
  have g3:(λds=>cond1 (X.evT G (setE (cE lv fr e) tg.is ds) c) (x.ev G (setE (cE lv fr e) tg.is ds)))=λds=>cond1 (X.evT G (setE (cE lv fr e') tg.is ds) c) (x.ev G (setE (cE lv fr e') tg.is ds)):=funext λds=>by rw[g1,g2]
  rw[g3]
 |.lr a b,e,e',h=>by show Mo.bind _ _=Mo.bind _ _;rw[X.ev_uses a h.l,X.ev_uses b h.r]
 |.li a b,e,e',h=>by show Mo.bind _ _=Mo.bind _ _;rw[X.ev_uses a h.l,X.ev_uses b h.r]
 |.isa a n,e,e',h=>by show Mo.bind _ _=Mo.bind _ _;rw[X.ev_uses a h]
 |.srt p fr i x,e,e',h=>by
  show Mo.bind _ _=Mo.bind _ _
  rw[h i (lj ..)];have g:∀ds j,getE (setE (cE [p] fr e) [0] ds) j=getE (setE (cE [p] fr e') [0] ds) j:=λds=>zcU_ zlz_ (ziQ_ λi hi=>h i (ll _ hi))
  have g3:(λds=>cond1 (.ok uO) (x.ev G (setE (cE [p] fr e) [0] ds)))=λds=>cond1 (.ok uO) (x.ev G (setE (cE [p] fr e') [0] ds)):=funext λds=>by rw[X.ev_uses x λi _=>g ds i]
  rw[g3]
 |.mkd f c as dv,e,e',h=>by show(if _ then Mo.bind _ _ else _)=(if _ then Mo.bind _ _ else _);rw[X.evs_uses as h]
 |.ds1 a0 b0,e,e',h=>by show Mo.bind _ _=Mo.bind _ _;rw[X.ev_uses a0 h.l,X.ev_uses b0 h.r]
 |.ds2 a0 b0 c0 d0,e,e',h=>by show Mo.bind _ _=Mo.bind _ _;rw[X.ev_uses a0 h.l,X.ev_uses b0 h.r.l,X.ev_uses c0 h.r.r.l,X.ev_uses d0 h.r.r.r]
 |.dct0,e,e',h=>rfl
 |.ch3 o o' aK a b c d,e,e',h=>by show Mo.bind _ _=Mo.bind _ _;rw[X.ev_uses a h.l.l,X.ev_uses b h.l.r,X.ev_uses c h.r.l,X.ev_uses d h.r.r]
theorem X.evs_uses:∀(as:List X) {e e':Env},Alike (X.usesL as) e e'->X.evs G e as=X.evs G e' as
 |[],e,e',h=>rfl
 |a::as,e,e',h=>by show Mo.bind _ _=Mo.bind _ _;rw[X.ev_uses a h.l,X.evs_uses as h.r]
theorem X.evO_uses:∀(a:Option X) {e e':Env},Alike (X.usesO a) e e'->X.evO G e a=X.evO G e' a
 |none,e,e',h=>rfl
 |some a,e,e',h=>by show Mo.bind _ _=Mo.bind _ _;rw[X.ev_uses a h]
theorem X.evT_uses:∀(a:Option X) {e e':Env},Alike (X.usesO a) e e'->X.evT G e a=X.evT G e' a
 |none,e,e',h=>rfl
 |some a,e,e',h=>by show Mo.bind _ _=Mo.bind _ _;rw[X.ev_uses a h]
end
end
mutual
noncomputable def D.cold:D->Bool
 |.nd .tup ds=>D.colds ds
 |.nd .ktup ds=>D.colds ds
 |.nd _ _=>uP
 |_=>uO
noncomputable def D.colds:List D->Bool
 |[]=>uO
 |d::ds=>d.cold && D.colds ds
end
section
variable {K:mj}{E:XK}{F F' F0 F1 F2 H0 h h1 h2 h3 k H H' H1 H2:Hp}{d:D}{ds:List D}{v:V}{us vs:List V}{p:kR}{Q:VK}{env:Env}{t:TE}{ws:Ws}{σ:L2.St}{G:Gi}
theorem OD.cold:∀{d:D}{v:V}{h:Hp},d.cold=uO->OD K d v F h->(∀p,h p=uN)/\DR K d v F
 |.nd .tup ds,_,h,z,q=>by
  unfold D.cold at z;unfold OD at q;obtain⟨p,us,h0,h2,e,c,j,r⟩:=q;obtain⟨n,r⟩:=go z r;refine⟨λp=>?_,by unfold DR;exact⟨p,us,e,c.1,r⟩⟩
  rcases j p with⟨_,y⟩|⟨_,y⟩
  ·rw[y,n]
  ·rw[y,c.2]
 |.nd .ktup ds,_,h,z,q=>by
  unfold D.cold at z;unfold OD at q;obtain⟨p,us,h0,h2,e,c,j,r⟩:=q;obtain⟨n,r⟩:=go z r;refine⟨λp=>?_,by unfold DR;exact⟨p,us,e,c.1,r⟩⟩
  rcases j p with⟨_,y⟩|⟨_,y⟩
  ·rw[y,n]
  ·rw[y,c.2]
 |.nd .lst _,_,_,z,_=>by simp[D.cold]at z
 |.nd .scr _,_,_,z,_=>by simp[D.cold]at z
 |.nd (.dct _) _,_,_,z,_=>by simp[D.cold]at z
 |.nd (.obj _ _) _,_,_,z,_=>by simp[D.cold]at z
 |.non,_,_,_,q=>by unfold OD at q;exact q
 |.bl _,_,_,_,q=>by unfold OD at q;exact q
 |.int _,_,_,_,q=>by unfold OD at q;exact q
 |.str _,_,_,_,q=>by unfold OD at q;exact q
 |.fz _,_,_,_,q=>by unfold OD at q;exact q
 |.pin _,_,_,_,q=>by unfold OD at q;exact q
 |.gone,_,_,_,q=>by unfold OD at q;exact q
where go:∀{ds:List D}{us:List V}{h:Hp},D.colds ds=uO->ODs K ds us F h->(∀p,h p=uN)/\DRs K ds us F
 |[],_,_,_,q=>by unfold ODs at q;exact⟨q.2,by unfold DRs;exact q.1⟩
 |d::ds,_,h,z,q=>by
  unfold D.colds at z;obtain⟨z1,z2⟩:=lX.mp z;unfold ODs at q;obtain⟨v,vs,h1,h2,e,j,a,r⟩:=q;obtain⟨n1,a⟩:=OD.cold z1 a;obtain⟨n2,r⟩:=go z2 r;refine⟨λp=>?_,by unfold DRs;exact⟨v,vs,e,a,r⟩⟩
  rcases j p with⟨_,y⟩|⟨_,y⟩
  ·rw[y,n2]
  ·rw[y,n1]
theorem zfv_:∀{d:D},d.imm=uO->d.cold=uO
 |.nd .tup ds,z=>by unfold D.imm at z;unfold D.cold;exact go z
 |.nd .ktup ds,z=>by unfold D.imm at z;unfold D.cold;exact go z
 |.nd .lst _,z=>by simp[D.imm]at z
 |.nd .scr _,z=>by simp[D.imm]at z
 |.nd (.dct _) _,z=>by simp[D.imm]at z
 |.nd (.obj _ _) _,z=>by simp[D.imm]at z
 |.non,_=>rfl
 |.bl _,_=>rfl
 |.int _,_=>rfl
 |.str _,_=>rfl
 |.fz _,_=>rfl
 |.pin _,_=>rfl
 |.gone,_=>rfl
where go:∀{ds:List D},D.imms ds=uO->D.colds ds=uO
 |[],_=>rfl
 |d::ds,z=>by
  unfold D.imms at z;obtain⟨z1,z2⟩:=lX.mp z;unfold D.colds;rw[zfv_ z1,go z2];rfl
theorem znQ_ (d:D):d.vw.cold=uO:=by
 unfold D.vw;split
 ·exact zfv_ (by assumption)
 ·split<;>rfl
theorem vw_vw (d:D):d.vw.vw=d.vw:=by
 unfold D.vw;by_cases h:d.imm=uO
 ·rw[if_pos h,if_pos h]
 ·rw[if_neg h]
  cases d with
  |fz d=>dsimp only;rw[if_neg h]
  |_=>dsimp only;rw[if_neg (by unfold D.imm;exact h)]
theorem zaE_ (ok:Okk F0 H0 F1 h H1)(j:Jn k h2 h)(aA:Okk F1 (less H1 h2) F2 h3 H2):Same F1 F2/\Dj k h3/\Okk F0 H0 F2 (un k h3) H2:=by
 obtain⟨x,d,s,fr,nt⟩:=ok;obtain⟨x2,d2,s2,e_,nt2⟩:=aA;have kh:∀p,k p≠uN->(less H1 h2) p≠uN:=λp z=>by
  cases y:k p with
  |none=>exact absurd y z
  |some o=>
   have n2:h2 p=uN:=by
    rcases j.dj p with w |w
    ·rw[w]at y;cases y
    ·exact w
   rw[z8_ n2,s _ _ (j.l _ _ y)];exact sN _
 have dk:Dj k h3:=λp=>by
  cases y:k p with
  |none=>exact .inl rfl
  |some o=>
   right;cases w:h3 p with
   |none=>rfl
   |some o'=>exact absurd (e_ p (by rw[w];exact sN _)) (kh p (by rw[y];exact sN _))
 have gX:Same H0 (less H1 h2):=λp o e=>by
  have n2:h2 p=uN:=by
   cases w:h2 p with
   |none=>rfl
   |some o'=>have:=fr p (by rw[j.r _ _ w];exact sN _);rw[this]at e;cases e
  rw[z8_ n2];exact x.2.2.1 _ _ e
 refine⟨x2.1,dk,⟨x.1.trans x2.1,x2.2.1,gX.trans x2.2.2.1,λp a b=>?_⟩,λp=>?_,λp o e=>?_,λp z=>?_,λp xs e=>?_⟩
 ·cases y:F1 p with
  |some o=>exact x.2.2.2 p a (by rw[y];exact sN _)
  |none=>exact gX.free (x2.2.2.2 p y b)
 ·unfold un
  cases y:k p with
  |none=>exact d2 p
  |some o=>
   left;cases w:F2 p with
   |none=>rfl
   |some o'=>
    have n1:F1 p=uN:=by
     rcases d p with z |z
     ·exact z
     ·rw[j.l _ _ y]at z;cases z
    exact absurd (x2.2.2.2 p n1 (by rw[w];exact sN _)) (kh p (by rw[y];exact sN _))
 ·unfold un at e
  cases y:k p with
  |none=>rw[y]at e;exact s2 _ _ e
  |some o'=>
   rw[y]at e;cases e;refine x2.2.2.1 _ _ ?_;have n2:h2 p=uN:=by
    rcases j.dj p with w |w
    ·rw[w]at y;cases y
    ·exact w
   rw[z8_ n2];exact s _ _ (j.l _ _ y)
 ·unfold un at z
  cases y:k p with
  |none=>rw[y]at z;exact gX.free (e_ p z)
  |some o=>exact fr p (by rw[j.l _ _ y];exact sN _)
 ·unfold un at e
  cases y:k p with
  |none=>rw[y]at e;exact nt2 p xs e
  |some o=>rw[y]at e;cases e;exact nt p xs (j.l _ _ y)
theorem zg8_ (ok:Okk F0 H0 F1 h H1)(j:Jn k h2 h):Okk F1 (less H1 h2) F1 h2 H1:=
 zbr_ ok.1.2.1 (dj_r ok.2.1 j) (j.r.trans ok.2.2.1) λp xs e=>ok.2.2.2.2 p xs (j.r _ _ e)
theorem zbW_ {c:Xc}(ok:Okk F0 H0 F1 h H1)(j:Jn k h2 h)(t:Tell K E c H0 F2 H2):Tell K E c (less H1 h2) F2 H2:=by
 refine t.up λp o e=>?_
 have n2:h2 p=uN:=by
  cases w:h2 p with
  |none=>rfl
  |some o'=>have:=ok.2.2.2.1 p (by rw[j.r _ _ w];exact sN _);rw[this]at e;cases e
 rw[z8_ n2];exact ok.1.2.2.1 _ _ e
def frz1 (env:Env)(i:Nat):Env:=match env[i]? with |some (uM d)=>env.set i (uM d.vw)|_=>env
def frzE (env:Env)(is:List Nat):Env:=is.foldl frz1 env
theorem zhC_ {i:Nat}(hL:Hold (LofW K ws env) σ F h)(ok:Okk F0 H0 F h H):∃F' h',Hold (LofW K ws (frz1 env i)) σ F' h'/\Okk F0 H0 F' h' H:=by
 unfold frz1;split
 ·rename_i d hi
  obtain⟨o,k1,k2,e1,j,pp,f⟩:=Hold.atG hL (zbl_ hi);obtain⟨v,rfl,hv,od⟩:=zdk_ pp;obtain⟨o1,o2,o3,o4,o5⟩:=ok;have d1:DR K d v (un F k1):=OD.view z1_ (zd1_ (dj_l o2 j)) od;refine⟨un F k1,k2,?_,⟨o1.1.trans z1_,λp o e=>?_,o1.2.2.1,λp a b=>?_⟩,λp=>?_,j.r.trans o3,λp z=>?_,λp xs e=>o5 p xs (j.r _ _ e)⟩
  ·have:=f (slotW K (ws i) (uM d.vw)) (uM v) (un F k1) (λ_=>uN) k2 z1_ (zcA_ hv (OD.vw (λ_=>rfl) d1)) λp=>.inl ⟨rfl,rfl⟩
   rw[zcF_,zcB_ e1]at this;exact this
  ·unfold un at e
   cases z:F p with
   |some w=>rw[z]at e;cases e;exact o1.2.1 _ _ z
   |none=>rw[z]at e;exact o3 _ _ (j.l _ _ e)
  ·unfold un at b
   cases z:F p with
   |some w=>exact o1.2.2.2 p a (by rw[z];exact sN _)
   |none=>
    rw[z]at b;cases y:k1 p with
    |none=>exact absurd y b
    |some w=>exact o4 p (by rw[j.l _ _ y];exact sN _)
  ·unfold un
   cases z:F p with
   |some w=>
    rcases dj_r o2 j p with y |y
    ·rw[y]at z;cases z
    ·exact .inr y
   |none=>exact j.dj p
  ·cases y:k2 p with
   |none=>exact absurd y z
   |some w=>exact o4 p (by rw[j.r _ _ y];exact sN _)
 ·exact⟨F,h,hL,ok⟩
theorem zgg_:∀(is:List Nat) {env:Env}{F h:Hp},Hold (LofW K ws env) σ F h->Okk F0 H0 F h H->∃F' h',Hold (LofW K ws (frzE env is)) σ F' h'/\Okk F0 H0 F' h' H
 |[],env,F,h,hL,ok=>⟨F,h,hL,ok⟩
 |i::is,env,F,h,hL,ok=>by
  obtain⟨F1,h1,a,b⟩:=zhC_ (i:=i) hL ok;exact zgg_ is a b
theorem zh8_ (env:Env)(i j:Nat):getE (frz1 env i) j=getE env j:=by
 unfold frz1;split
 ·rename_i d hi
  unfold getE;by_cases e:i=j
  ·subst e;rw[mZ (lB.mp hi).1,hi];dsimp only;rw[vw_vw]
  ·rw[lL e]
 ·rfl
theorem zgk_:∀(is:List Nat) (env:Env) (j:Nat),getE (frzE env is) j=getE env j
 |[],_,_=>rfl
 |i::is,env,j=>(zgk_ is (frz1 env i) j).trans (zh8_ env i j)
def coldE (env:Env):Env:=env.map λo=>o.bind λd=>if d.cold then uM d else uN
def Cold (env:Env)(i:Nat):Prop:=∀d,env[i]?=uM (uM d)->d.cold=uO
theorem zeB_ {env:Env}{i j:Nat}(h:i=j\/Cold env j):Cold (frz1 env i) j:=by
 unfold frz1;split
 ·rename_i d hi
  intro d' e;by_cases z:i=j
  ·subst z;rw[mZ (lB.mp hi).1]at e;cases e;exact znQ_ d
  ·rw[lL z]at e
   rcases h with h |h
   ·exact absurd h z
   ·exact h d' e
 ·rename_i hi
  rcases h with h |h
  ·subst h;exact λd e=>absurd e (hi d)
  ·exact h
theorem zgm_:∀(is:List Nat) {env:Env}{j:Nat},(j∈is\/Cold env j)->Cold (frzE env is) j
 |[],env,j,h=>by rcases h with h |h;exact absurd h (by simp);exact h
 |i::is,env,j,h=>zgm_ is (by
  rcases h with h |h
  ·rcases lA.mp h with h |h
   ·exact .inr (zeB_ (.inl h.symm))
   ·exact .inl h
  ·exact .inr (zeB_ (.inr h)))
theorem zfD_ {i:Nat}(h:Cold env i):getE (coldE env) i=getE env i:=by
 unfold getE coldE;rw[kZ];cases z:env[i]? with
 |none=>rfl
 |some o=>
  cases o with
  |none=>rfl
  |some d=>
   have:=h d z;simp[this]
theorem zfC_ (hL:Hold (LofW K ws env) σ F h):HoldF (Lof K (coldE env)) σ F:=by
 intro i s e;unfold coldE at e;rw[kZ,kZ]at e;cases z:env[i]? with
 |none=>rw[z]at e;cases e
 |some o=>
  rw[z]at e;cases e;cases o with
  |none=>trivial
  |some d=>
   by_cases c:d.cold=uO
   ·simp only[Option.bind,c,if_true]
    obtain⟨o,k1,k2,e1,j,pp,f⟩:=Hold.atG hL (zbl_ z);obtain⟨v,rfl,hv,od⟩:=zdk_ pp;rw[e1];exact⟨v,rfl,(OD.cold c od).2⟩
   ·simp only[Option.bind,c]
    trivial
def FinE (K:lR)(r:Mr Env D)(E:XK)(ws:Ws)(σ:L2.St)(F0 H0:Hp)(Q:VK):Prop:=match r with
 |.ok d env=>∀v F hr h2 h H,Hold (LofW K ws env) σ F h2->OD K d v F hr->Jn hr h2 h->Okk F0 H0 F h H->Q v H
 |.ex c env=>∀F h H,Hold (LofW K ws env) σ F h->Okk F0 H0 F h H->Tell K E c H0 F H
 |.no=>False
def EvE (K:lR)(t:TE)(E:XK)(ws:Ws)(env:Env)(r:Mr Env D):Prop:=
 ∀F0 H0 σ F h H (Q:VK),Hold (LofW K ws env) σ F h->Okk F0 H0 F h H->FinE K r E ws σ F0 H0 Q->t σ H Q
def FinK (K:lR)(r:Mr Env D)(E:XK)(ws:Ws)(σ:L2.St)(F0 H0 Hs:Hp)(Q:VK):Prop:=match r with
 |.ok d env=>∀v F hr h2 h H,Hold (LofW K ws env) σ F h2->OD K d v F hr->Jn hr h2 h->Okk F0 H0 F h H->Same Hs H->Q v H
 |.ex c env=>∀F h H,Hold (LofW K ws env) σ F h->Okk F0 H0 F h H->Tell K E c H0 F H
 |.no=>False
def EvK (K:lR)(t:TE)(E:XK)(ws:Ws)(env:Env)(r:Mr Env D):Prop:=
 ∀F0 H0 σ F h H (Q:VK),Hold (LofW K ws env) σ F h->Okk F0 H0 F h H->FinK K r E ws σ F0 H0 H Q->t σ H Q
theorem EvK.e {r:Mr Env D}(h:EvK K t E ws env r):EvE K t E ws env r:=λF0 H0 σ F hh H Q hL ok fin=>h F0 H0 σ F hh H Q hL ok (by
 cases r with
 |no=>exact fin
 |ex c e=>exact fin
 |ok d e=>exact λv F hr h2 h H' a b c d _=>fin v F hr h2 h H' a b c d)
def stX (G:Gi)(env:Env)(x:X):Mr Env D:=match x.ev G env with
 |.ok d=>if d.new then .ok d env else .ok d (frzE env x.uses)
 |.ex c=>.ex c env
 |.no=>.no
theorem ek_x (g0:G.Ok K)(x:X):EvK K (x.den K G E) E ws env (stX G env x):=by
 intro F0 H0 σ F h H Q hL ok fin;unfold stX at fin;cases e:x.ev G env with
 |no=>rw[e]at fin;exact fin.elim
 |ex c=>
  rw[e]at fin;refine X.sound g0 x E env σ (un F h) H _ (zco_ (hL.froz ok.2.1)) ok.thaw ?_;rw[e];exact λF' H' y=>(fin _ _ _ (hL.mono (ok.back y).2.1) (ok.back y).1).back ok y
 |ok d=>
  rw[e]at fin;have fin:FinK K (if d.new then .ok d env else .ok d (frzE env x.uses)) E ws σ F0 H0 H Q:=fin
  by_cases dn:d.new=uO
  ·rw[if_pos dn]at fin
   refine X.sound g0 x E env σ (un F h) H _ (zco_ (hL.froz ok.2.1)) ok.thaw ?_;rw[e];intro F' H' y v hn fresh dj hs o;obtain⟨o1,hsF,ht⟩:=ok.back y;have j6:Dj (less F' h) hn:=λp=>by
    unfold less;cases z:h p with
    |none=>exact dj p
    |some w=>exact .inl rfl
   have dh:Dj hn h:=zkM_ ok.2.2.1 fresh;refine fin v (less F' h) hn h (un hn h) H' (hL.mono hsF) (OD.newImm ht dn o) (zai_ dh) ⟨o1.1,λp=>?_,λp o e=>?_,λp z=>?_,λp xs z=>?_⟩ y.2.2.1
   ·unfold un
    cases z:hn p with
    |some w=>
     rcases j6 p with y |y
     ·exact .inl y
     ·rw[y]at z;cases z
    |none=>exact o1.2.1 p
   ·unfold un at e
    cases z:hn p with
    |some w=>rw[z]at e;cases e;exact hs _ _ z
    |none=>rw[z]at e;exact o1.2.2.1 _ _ e
   ·unfold un at z
    cases y:hn p with
    |some w=>exact ok.1.2.2.1.free (fresh p (by rw[y];exact sN _))
    |none=>rw[y]at z;exact ok.2.2.2.1 p z
   ·unfold un at z
    cases y:hn p with
    |some w=>rw[y]at z;cases z;exact OD.notup o p xs y
    |none=>rw[y]at z;exact ok.2.2.2.2 p xs z
  ·rw[if_neg dn]at fin
   obtain⟨F1,hh,aw,ax⟩:=zgg_ x.uses hL ok;have al:Alike x.uses (coldE (frzE env x.uses)) env:=λi hi=>(zfD_ (zgm_ x.uses (.inl hi))).trans (zgk_ _ _ _)
   refine X.sound g0 x E (coldE (frzE env x.uses)) σ F1 H _ (zfC_ aw) ax.1.2.1 ?_;rw[X.ev_uses x al,e];intro F' H' y v hn fresh dj hs o;have o1:=ax.cold y;have dh:Dj hn hh:=zkM_ ax.2.2.1 fresh;refine fin v F' hn hh (un hn hh) H' (aw.mono y.1) o (zai_ dh) ⟨o1.1,λp=>?_,λp o e=>?_,λp z=>?_,λp xs z=>?_⟩ y.2.2.1
   ·unfold un
    cases z:hn p with
    |some w=>
     rcases dj p with y |y
     ·exact .inl y
     ·rw[y]at z;cases z
    |none=>exact o1.2.1 p
   ·unfold un at e
    cases z:hn p with
    |some w=>rw[z]at e;cases e;exact hs _ _ z
    |none=>rw[z]at e;exact o1.2.2.1 _ _ e
   ·unfold un at z
    cases y:hn p with
    |some w=>exact ax.1.2.2.1.free (fresh p (by rw[y];exact sN _))
    |none=>rw[y]at z;exact ax.2.2.2.1 p z
   ·unfold un at z
    cases y:hn p with
    |some w=>rw[y]at z;cases z;exact OD.notup o p xs y
    |none=>rw[y]at z;exact ax.2.2.2.2 p xs z
theorem ee_x (g0:G.Ok K)(x:X):EvE K (x.den K G E) E ws env (stX G env x):=(ek_x g0 x).e
end
noncomputable def apartL:List Nat->List Nat->Bool
 |j::js,i::is=>j != i ||apartL js is
 |_,_=>uP
theorem zv_ {k:Nd}{ds:List D}{j:Nat}{js:List Nat}{a c:D}(e:ds[j]?=uM c):(D.nd k ds).put (j::js) a=.nd k (ds.set j (c.put js a)):=by rw[D.put,e]
theorem zC_ {k:Nd}{ds:List D}{j:Nat}{js:List Nat}{a:D}(e:ds[j]?=uN):(D.nd k ds).put (j::js) a=.nd k ds:=by rw[D.put,e]
theorem zbm_ {d a:D}{js:List Nat}(h:∀k ds,d≠.nd k ds)(hj:js≠[]):d.put js a=d:=by
 cases js with
 |nil=>exact absurd rfl hj
 |cons j js=>cases d with |nd k ds=>exact absurd rfl (h k ds)|_=>simp[D.put]
theorem zjq_ {d:D}{js:List Nat}(h:∀k ds,d≠.nd k ds)(hj:js≠[]):d.at js=uN:=by
 cases js with
 |nil=>exact absurd rfl hj
 |cons j js=>cases d with |nd k ds=>exact absurd rfl (h k ds)|_=>simp[D.at]
theorem zns_ (d:D):(∃k ds,d=.nd k ds)\/∀k ds,d≠.nd k ds:=by
 cases d with
 |nd k ds=>exact .inl ⟨k,ds,rfl⟩
 |_=>exact .inr λk ds z=>by cases z
theorem zaL_ {α:Type}{l:List α}{j:Nat}{c x:α}(e:l[j]?=uM c):(l.set j x)[j]?=uM x:=mZ (lB.mp e).1
theorem ziC_:∀(js:List Nat) (d a b:D),(d.put js a).put js b=d.put js b
 |[],d,a,b=>by rw[D.put,D.put]
 |j::js,d,a,b=>by
  rcases zns_ d with⟨k,ds,rfl⟩|h
  ·cases e:ds[j]? with
   |none=>rw[zC_ e,zC_ e]
   |some c=>rw[zv_ e,zv_ e,zv_ (zaL_ e),pC,ziC_ js c a b]
  ·rw[zbm_ h (by simp),zbm_ h (by simp)]
theorem zgc_:∀(js is:List Nat) (d a b:D),apartL js is=uO->(d.put js a).put is b=(d.put is b).put js a
 |[],_,_,_,_,h=>by cases h
 |_::_,[],_,_,_,h=>by cases h
 |j::js,i::is,d,a,b,h=>by
  rcases zns_ d with⟨k,ds,rfl⟩|hd
  ·by_cases ij:j=i
   ·subst ij
    cases e:ds[j]? with
    |none=>rw[zC_ e,zC_ e,zC_ e]
    |some c=>rw[zv_ e,zv_ e,zv_ (zaL_ e),zv_ (zaL_ e),pC,pC,zgc_ js is c a b (by simpa [apartL]using h)]
   ·cases e:ds[j]? with
    |none=>
     cases e2:ds[i]? with
     |none=>rw[zC_ e,zC_ e2,zC_ e]
     |some c2=>rw[zC_ e,zv_ e2,zC_ (by rw[lL (λz=>ij z.symm)];exact e)]
    |some c=>
     cases e2:ds[i]? with
     |none=>rw[zv_ e,zC_ e2,zv_ e,zC_ (by rw[lL ij];exact e2)]
     |some c2=>rw[zv_ e,zv_ e2,zv_ (by rw[lL ij];exact e2),zv_ (by rw[lL (λz=>ij z.symm)];exact e),tw _ _ ij]
  ·rw[zbm_ hd (by simp),zbm_ hd (by simp),zbm_ hd (by simp)]
theorem znX_:∀(js:List Nat) (d a x:D),d.at js=uM x->(d.put js a).at js=uM a
 |[],d,a,x,h=>by rw[D.put,D.at]
 |j::js,d,a,x,h=>by
  rcases zns_ d with⟨k,ds,rfl⟩|hd
  ·cases hk:k.own with
   |false=>rw[za7_,hk]at h;cases h
   |true=>
    rw[za7_,hk,cond_true]at h;obtain⟨c,e,h⟩:=k9.mp h;rw[zv_ e,za7_,hk,cond_true,zaL_ e];exact znX_ js c a x h
  ·rw[zjq_ hd (by simp)]at h;cases h
theorem zgs_:∀(js is:List Nat) (d a:D),apartL js is=uO->(d.put js a).at is=d.at is
 |[],_,_,_,h=>by cases h
 |_::_,[],_,_,h=>by cases h
 |j::js,i::is,d,a,h=>by
  rcases zns_ d with⟨k,ds,rfl⟩|hd
  ·cases e:ds[j]? with
   |none=>rw[zC_ e]
   |some c=>
    rw[zv_ e,za7_,za7_];congr 1;by_cases ij:j=i
    ·subst ij
     rw[zaL_ e,e];exact zgs_ js is c a (by simpa [apartL]using h)
    ·rw[lL ij]
  ·rw[zbm_ hd (by simp)]
theorem zcn_:∀{js is:List Nat},apartL js is=uO->apartL is js=uO
 |[],_,h=>by cases h
 |_::_,[],h=>by cases h
 |j::js,i::is,h=>by
  unfold apartL at h ⊢;rw[n5]at h ⊢;rcases h with h |h
  ·left;simpa [bne_iff_ne,ne_comm]using h
  ·right;exact zcn_ h
noncomputable abbrev Pl:=Nat×List Nat
def apart (q q':Pl):Bool:=q.1 != q'.1 ||apartL q.2 q'.2
def atE (env:Env)(q:Pl):Option D:=match env[q.1]? with |some (uM d)=>d.at q.2 |_=>uN
def putE (env:Env)(q:Pl)(c:D):Env:=match env[q.1]? with |some (uM d)=>env.set q.1 (uM (d.put q.2 c))|_=>env
theorem zh_ {env:Env}{q:Pl}{c d:D}(e:env[q.1]?=uM (uM d)):putE env q c=env.set q.1 (uM (d.put q.2 c)):=by unfold putE;rw[e]
theorem z0_ {env:Env}{q:Pl}{c:D}(e:∀d,env[q.1]?≠uM (uM d)):putE env q c=env:=by
 unfold putE;split
 ·rename_i d z;exact absurd z (e d)
 ·rfl
theorem ze2_ (env:Env)(i:Nat):(∃d,env[i]?=uM (uM d))\/∀d,env[i]?≠uM (uM d):=by
 cases env[i]? with
 |none=>exact .inr λd z=>by cases z
 |some o=>cases o with |none=>exact .inr λd z=>by cases z |some d=>exact .inl ⟨d,rfl⟩
theorem zhx_ (env:Env)(q:Pl)(a b:D):putE (putE env q a) q b=putE env q b:=by
 rcases ze2_ env q.1 with⟨d,e⟩|e
 ·rw[zh_ e,zh_ e,zh_ (zaL_ e),pC,ziC_]
 ·rw[z0_ e]
theorem zff_ {env:Env}{q:Pl}{c:D}{i:Nat}(h:q.1≠i):(putE env q c)[i]?=env[i]?:=by
 rcases ze2_ env q.1 with⟨d,e⟩|e
 ·rw[zh_ e,lL h]
 ·rw[z0_ e]
theorem zX_ {env:Env}{q:Pl}{d:D}(e:env[q.1]?=uM (uM d)):atE env q=d.at q.2:=by unfold atE;rw[e]
theorem zeF_ {env:Env}{q q':Pl}{c:D}(h:apart q q'=uO):atE (putE env q c) q'=atE env q':=by
 unfold apart at h;by_cases e:q.1=q'.1
 ·have h:apartL q.2 q'.2=uO:=by simpa [e]using h
  rcases ze2_ env q.1 with⟨d,z⟩|z
  ·rw[zh_ z,zX_ (d:=d.put q.2 c) (by rw[<- e];exact zaL_ z),zX_ (d:=d) (by rw[<- e];exact z)]
   exact zgs_ _ _ d c h
  ·rw[z0_ z]
 ·unfold atE;rw[zff_ e]
theorem zml_ {env:Env}{q:Pl}{a x:D}(h:atE env q=uM x):atE (putE env q a) q=uM a:=by
 rcases ze2_ env q.1 with⟨d,z⟩|z
 ·rw[zX_ z]at h
  rw[zh_ z,zX_ (d:=d.put q.2 a) (zaL_ z)];exact znX_ _ d a x h
 ·unfold atE at h
  split at h
  ·rename_i d e;exact absurd e (z d)
  ·cases h
theorem zis_ {env:Env}{q q':Pl}{a b:D}(h:apart q q'=uO):putE (putE env q a) q' b=putE (putE env q' b) q a:=by
 unfold apart at h;by_cases e:q.1=q'.1
 ·have h:apartL q.2 q'.2=uO:=by simpa [e]using h
  rcases ze2_ env q.1 with⟨d,z⟩|z
  ·have z':env[q'.1]?=uM (uM d):=by rw[<- e];exact z
   rw[zh_ z,zh_ z',zh_ (d:=d.put q.2 a) (by rw[<- e];exact zaL_ z),zh_ (d:=d.put q'.2 b) (by rw[e];exact zaL_ z'),<- e,pC,pC,zgc_ _ _ d a b h]
  ·have z':∀d,env[q'.1]?≠uM (uM d):=by rw[<- e];exact z
   rw[z0_ z,z0_ z',z0_ z]
 ·rcases ze2_ env q.1 with⟨d,z⟩|z
  ·rcases ze2_ env q'.1 with⟨d2,z2⟩|z2
   ·rw[zh_ z,zh_ z2,zh_ (d:=d2) (by rw[lL e];exact z2),zh_ (d:=d) (by rw[lL (λy=>e y.symm)];exact z),tw _ _ e]
   ·rw[z0_ z2,zh_ z,z0_ (by rw[lL e];exact z2)]
  ·rcases ze2_ env q'.1 with⟨d2,z2⟩|z2
   ·rw[z0_ z,zh_ z2,z0_ (by rw[lL (λy=>e y.symm)];exact z)]
   ·rw[z0_ z,z0_ z2,z0_ z]
section
variable {K:mj}{E:XK}{F F' F1 F2 h k H H' H1 H2:Hp}{d c:D}{ds:List D}{v u:V}{us:List V}{p:kR}{Q:VK}{env:Env}{t:TE}{σ:L2.St}{G:Gi}{q:Pl}
inductive Pt where
 |v (i:Nat)|f (p:Pt) (n:Str)|s (p:Pt) (x:X)
def Pt.x:Pt->X
 |.v i=>.v i
 |.f p n=>.fld p.x n
 |.s p y=>.bin .ix p.x y
def kIx:List Key->Key->Nat
 |[],_=>0
 |k0::ks,k=>if k0=k then 0 else kIx ks k+1
def stepF (cs:List Str)(n:Str)(c:D):Option Nat:=match c with
 |.nd (.obj c ns) ds=>if c∈cs/\ns.idxOf n<ds.length then uM (ns.idxOf n)else uN
 |_=>uN
def stepS (c d:D):Option Nat:=match c with
 |.nd .lst ds=>(match d.un with |.int i=>(ixN ds.length i).bind λj=>if j<ds.length then uM j else uN |_=>uN)
 |.nd .tup ds=>(match d.un with |.int i=>(ixN ds.length i).bind λj=>if j<ds.length then uM j else uN |_=>uN)
 |.nd (.dct ks) ds=>(keyD d).bind λk=>if kIx ks k<ks.length/\ks.length=ds.length then uM (kIx ks k)else uN
 |_=>uN
def Pt.ev (G:Gi)(env:Env):Pt->Mo Pl
 |.v i=>if(atE env (i,[])).isSome then .ok (i,[])else .no
 |.f p n=>(p.ev G env).bind λq=>.opt ((atE env q).bind λc=>(stepF G.cs n c).map λj=>(q.1,q.2++[j]))
 |.s p x=>(p.ev G env).bind λq=>(x.ev G env).bind λd=>.opt ((atE env q).bind λc=>(stepS c d).map λj=>(q.1,q.2++[j]))
def EvPa (K:lR)(t:TE)(E:XK)(env:Env)(r:Mo Pl):Prop:=∀σ F H (Q:VK),HoldF (Lof K env) σ F->Same F H ->
 (match r with
  |.ok q=>∀F' H' v u c,Ext F H F' H'->σ[q.1]?=uM (uM v)->vAt H' v q.2=uM u->atE env q=uM c->DR K c u H'->Q u H'
  |.ex c=>∀F' H',Ext F H F' H'->Tell K E c H F' H'
  |.no=>False)->t σ H Q
theorem zfS_:∀{ks:List Key}{us:List V}{k:Key}{w:V},us[kIx ks k]?=uM w->kIx ks k<ks.length->valV (ks.zip us) k=uM w
 |[],_,_,_,_,h=>by simp at h
 |k0::ks,[],k,w,h,_=>by simp at h
 |k0::ks,u::us,k,w,h,hl=>by
  unfold valV;rw[lV,m6];unfold kIx at h hl;by_cases e:k0=k
  ·rw[if_pos e]at h;simp at h;subst h
   rw[show decide ((k0,u).1=k)=uO from decide_eq_true e];rfl
  ·rw[if_neg e,nv]at h
   rw[if_neg e]at hl;rw[show decide ((k0,u).1=k)=uP from decide_eq_false e]
   exact zfS_ h (by simpa using hl)
theorem ziI_ {k:Nd}{ds:List D}{j:Nat}{c:D}(hk:k.own=uO)(hc:ds[j]?=uM c):∀{js:List Nat}{d:D},d.at js=uM (.nd k ds)->d.at (js++[j])=uM c
 |[],d,h=>by rw[D.at]at h;cases h;rw[mQ,za7_,hk,cond_true,hc];show D.at _ []=_;rw[D.at]
 |i::js,d,h=>by
  rcases zns_ d with⟨k',ds',rfl⟩|hd
  ·rw[za7_]at h
   cases bq:k'.own with
   |false=>rw[bq]at h;cases h
   |true=>
    rw[bq,cond_true]at h;obtain⟨c',e,h⟩:=k9.mp h;rw[l0,za7_,bq,cond_true,e];exact ziI_ hk hc h
  ·rw[zjq_ hd (by simp)]at h;cases h
theorem zfx_ {env:Env}{q0:Pl}{k:Nd}{ds:List D}{j:Nat}{c:D}(hk:k.own=uO)(hc:ds[j]?=uM c)(h:atE env q0=uM (.nd k ds)):atE env (q0.1,q0.2++[j])=uM c:=by
 rcases ze2_ env q0.1 with⟨d,hd⟩|hd
 ·rw[zX_ hd]at h
  rw[zX_ (q:=(q0.1,q0.2++[j])) hd];exact ziI_ hk hc h
 ·unfold atE at h;split at h
  ·rename_i d z;exact absurd z (hd d)
  ·cases h
theorem hL_at {i:Nat}{d:D}(hL:HoldF (Lof K env) σ F)(hd:env[i]?=uM (uM d)):∃v,σ[i]?=uM (uM v)/\DR K d v F:=by
 obtain⟨v,ev,rv⟩:=hL i (slot K (uM d)) (by rw[kZ,hd];rfl)
 refine⟨v,?_,rv⟩;cases z:σ[i]? with
 |none=>rw[z]at ev;cases ev
 |some o=>rw[z]at ev;cases(show o=uM v from ev);rfl
theorem Pt.sound (g0:G.Ok K):∀(p:Pt) (E:XK) (env:Env),EvPa K (p.x.den K G E) E env (p.ev G env)
 |.v i,E,env=>by
  intro σ F H Q hL hs q;unfold Pt.ev at q;rcases ze2_ env i with⟨d,hd⟩|hd
  ·have ha:atE env (i,[])=uM d:=by rw[zX_ (q:=(i,[])) hd];show d.at []=_;rw[D.at]
   rw[ha]at q;obtain⟨v,hv,rv⟩:=hL_at hL hd;show mVar i σ H Q
   unfold mVar;rw[hv];exact q F H v v d (.refl hs) hv rfl ha (rv.mono hs)
  ·rw[show atE env (i,[])=uN from by
    unfold atE;split
    ·rename_i d z;exact absurd z (hd d)
    ·rfl]at q
   exact q.elim
 |.f p n,E,env=>by
  intro σ F H Q hL hs q;unfold Pt.ev at q;cases e:p.ev G env with
  |no=>rw[e]at q;exact q.elim
  |ex c=>
   rw[e]at q;cases b8:G.cs with
   |nil=>exact absurd b8 g0.cs
   |cons c0 cs=>exact⟨c0,by rw[b8];exact lj ..,Pt.sound g0 p E env σ F H _ hL hs (by rw[e];exact q)⟩
  |ok q0=>
   rw[e]at q;dsimp only[Mo.bind]at q;cases e1:atE env q0 with
   |none=>rw[e1]at q;exact q.elim
   |some c=>
    rw[e1]at q;cases e2:stepF G.cs n c with
    |none=>rw[show(Option.bind (uM c) λc=>(stepF G.cs n c).map λj=>(q0.1,q0.2++[j]))=uN from by simp[e2]]at q;exact q.elim
    |some j=>
     rw[show(Option.bind (uM c) λc=>(stepF G.cs n c).map λj=>(q0.1,q0.2++[j]))=uM (q0.1,q0.2++[j])from by simp[e2]]at q
     unfold stepF at e2;split at e2
     ·rename_i cn ns ds
      split at e2
      ·rename_i hz
       cases e2;refine⟨cn,hz.1,Pt.sound g0 p E env σ F H _ hL hs ?_⟩;rw[e];intro F1 H1 v u c' x1 hv hu hc hr;rw[e1]at hc;cases hc;obtain⟨p',us,rfl,nd,r⟩:=hr.nd;rcases r.get (ns.idxOf n)with⟨z,_⟩|⟨d',w,g4,g5,g6⟩
       ·rw[kz hz.2]at z;cases z
       have i0:=nd;obtain⟨dx,g3,gl⟩:=nd;exact⟨dx,_,w,g3,zcT_ g5 gl,q F1 H1 v w d' x1 hv (zdZ_ rfl i0 g5 hu) (zfx_ rfl g4 e1) g6⟩
      ·cases e2
     ·cases e2
 |.s p x,E,env=>by
  intro σ F H Q hL hs q;unfold Pt.ev at q;cases e:p.ev G env with
  |no=>rw[e]at q;exact q.elim
  |ex c=>rw[e]at q;exact Pt.sound g0 p E env σ F H _ hL hs (by rw[e];exact q)
  |ok q0=>
   rw[e]at q;refine Pt.sound g0 p E env σ F H _ hL hs ?_;rw[e];intro F1 H1 v u c x1 hv hu hc hr;dsimp only[Mo.bind]at q;cases ex:x.ev G env with
   |no=>rw[ex]at q;exact q.elim
   |ex c=>
    rw[ex]at q;refine X.sound g0 x E env σ F1 H1 _ (hL.mono x1.1) x1.2.1 ?_;rw[ex];exact λF2 H2 x2=>(q F2 H2 (x1.trans x2)).up x1.2.2.1
   |ok d0=>
    rw[ex]at q;dsimp only at q;rw[hc]at q;cases e2:stepS c d0 with
    |none=>rw[show(Option.bind (uM c) λc=>(stepS c d0).map λj=>(q0.1,q0.2++[j]))=uN from by simp[e2]]at q;exact q.elim
    |some j=>
     rw[show(Option.bind (uM c) λc=>(stepS c d0).map λj=>(q0.1,q0.2++[j]))=uM (q0.1,q0.2++[j])from by simp[e2]]at q
     refine ex_v (X.sound g0 x E env) σ F1 H1 _ (hL.mono x1.1) x1.2.1 ?_;rw[ex];intro F2 H2 x2 y hy;have cJ:=DR.un hy;have c7:=hr.mono x2.2.2.1;have fin:∀{k:Nd}{ds:List D}{p':kR}{us:List V},k.own=uO->c=.nd k ds->u=.ref p'->NdR K k p' us H2->DRs K ds us H2->j<ds.length->∃w,us[j]?=uM w/\Q w H2:=λ{k ds p' us} hk ec eu nd r hj=>by
      subst ec;subst eu;rcases r.get j with⟨z,_⟩|⟨d',w,g4,g5,g6⟩
      ·rw[kz hj]at z;cases z
      exact⟨w,g5,q F2 H2 v w d' (x1.trans x2) hv (zdZ_ hk nd g5 (zb2_ x2.2.2.1 hu)) (zfx_ hk g4 hc) g6⟩
     unfold stepS at e2;split at e2
     ·split at e2
      ·rename_i i ei
       rw[ei]at cJ;cases cJ.int;obtain⟨j',ej,e2⟩:=k9.mp e2;split at e2
       ·rename_i hj
        cases e2;obtain⟨p',us,rfl,nd,r⟩:=c7.nd;obtain⟨w,g5,fin⟩:=fin rfl rfl rfl nd r hj;refine .inl ⟨us,.inl (.of nd),?_⟩;rw[show atI us i=uM w from by unfold atI;rw[<- r.len,ej];exact g5];exact fin
       ·cases e2
      ·cases e2
     ·split at e2
      ·rename_i i ei
       rw[ei]at cJ;cases cJ.int;obtain⟨j',ej,e2⟩:=k9.mp e2;split at e2
       ·rename_i hj
        cases e2;obtain⟨p',us,rfl,nd,r⟩:=c7.nd;obtain⟨w,g5,fin⟩:=fin rfl rfl rfl nd r hj;refine .inl ⟨us,.inr (.of nd),?_⟩;rw[show atI us i=uM w from by unfold atI;rw[<- r.len,ej];exact g5];exact fin
       ·cases e2
      ·cases e2
     ·rename_i ks ds
      obtain⟨k,ek,e2⟩:=k9.mp e2;split at e2
      ·rename_i hz
       cases e2;obtain⟨p',us,rfl,nd,r⟩:=c7.nd;obtain⟨w,g5,fin⟩:=fin rfl rfl rfl nd r (by rw[<- hz.2];exact hz.1)
       exact .inr (zeb_ rfl (zlf_ ek hy).1 nd.1 ⟨w,zfS_ g5 hz.1,fin⟩)
      ·cases e2
     ·cases e2
end
def Mr.bind {s α β:Type}(m:Mr s α)(k:α->s->Mr s β):Mr s β:=match m with |.ok a t=>k a t |.ex c t=>.ex c t |.no=>.no
inductive A where
 |x (x:X)|l (p:Pt)
def A.t:A->X
 |.x y=>y
 |.l p=>p.x
inductive Ag where
 |d (d:D)|l (q:Pl)
def evG (G:Gi):Env->List A->Mr Env (List Ag)
 |env,[]=>.ok [] env
 |env,.x x::as=>(stX G env x).bind λd e=>(evG G e as).bind λgs e'=>.ok (.d d::gs) e'
 |env,.l p::as=>match p.ev G env with
  |.ok q=>(evG G env as).bind λgs e'=>.ok (.l q::gs) e'
  |.ex c=>.ex c env
  |.no=>.no
section
variable {K:mj}{E:XK}{F F' F0 F1 F2 H0 h h1 h2 H H' H1 H2:Hp}{d c:D}{ds:List D}{v u:V}{vs:List V}{p:kR}{Q:VK}{env:Env}{t:TE}{ws:Ws}{σ:L2.St}{G:Gi}{q:Pl}{ta:TA}{f:Fn}
def AgR (K:lR)(σ:L2.St)(F H:Hp):List Ag->List V->Hp->Prop
 |[],vs,h=>vs=[]/\∀p,h p=uN
 |.d d::gs,vs,h=>∃v a_ h1 h2,vs=v::a_/\Jn h1 h2 h/\OD K d v F h1/\AgR K σ F H gs a_ h2
 |.l q::gs,vs,h=>∃u v a_,vs=u::a_/\σ[q.1]?=uM (uM v)/\vAt H v q.2=uM u/\AgR K σ F H gs a_ h
def FinG (K:lR)(r:Mr Env (List Ag))(E:XK)(ws:Ws)(σ:L2.St)(F0 H0 Hs:Hp)(Q:List V->Hp->Prop):Prop:=match r with
 |.ok gs env=>∀vs F hA hE h H,Hold (LofW K ws env) σ F hE->AgR K σ F H gs vs hA->Jn hA hE h->Okk F0 H0 F h H->Same Hs H->Q vs H
 |.ex c env=>∀F h H,Hold (LofW K ws env) σ F h->Okk F0 H0 F h H->Tell K E c H0 F H
 |.no=>False
def EvG (K:lR)(t:TA)(E:XK)(ws:Ws)(env:Env)(r:Mr Env (List Ag)):Prop:=
 ∀F0 H0 σ F h H (Q:List V->Hp->Prop),Hold (LofW K ws env) σ F h->Okk F0 H0 F h H->FinG K r E ws σ F0 H0 H Q->t σ H Q
theorem no_l (z:Hp)(hz:∀p,z p=uN):Jn z h h:=λp=>.inl ⟨hz p,rfl⟩
theorem zoq_ {a b c:Hp}(d1:Dj a b)(d2:Dj a c)(d3:Dj b c):Jn (un a b) c (un a (un b c)):=λp=>by
 unfold un;cases x:a p with
 |some o=>
  right;rcases d2 p with y |y
  ·rw[y]at x;cases x
  ·exact⟨y,rfl⟩
 |none=>
  cases y:b p with
  |some o=>
   right;rcases d3 p with z |z
   ·rw[z]at y;cases y
   ·exact⟨z,rfl⟩
  |none=>left;exact⟨rfl,rfl⟩
theorem zcc_ (j:Jn h1 h2 h):h=un h1 h2:=funext λp=>by
 unfold un;rcases j p with⟨a,b⟩|⟨a,b⟩
 ·rw[a,b]
 ·rw[b]
  cases h1 p with
  |none=>exact a.symm
  |some o=>rfl
theorem zpo_:EvG K tNil E ws env (.ok [] env):=λF0 H0 σ F h H Q hL ok fin=>fin [] F (λ_=>uN) h h H hL ⟨rfl,λ_=>rfl⟩ (no_l _ λ_=>rfl) ok (Same.refl _)
theorem eg_x {r:Mr Env D}{g:Env->Mr Env (List Ag)}(he:EvK K t E ws env r)(hg:∀e,EvG K ta E ws e (g e)):EvG K (tCons t ta) E ws env (r.bind λd e=>(g e).bind λgs e'=>.ok (.d d::gs) e'):=by
 intro F0 H0 σ F h H Q hL ok fin;refine he F0 H0 σ F h H _ hL ok ?_;cases r with
 |no=>exact fin
 |ex c e=>exact fin
 |ok d e=>
  intro v F1 hr hE h' H1 aw od j ax iV;have o2:=zg8_ ax j;refine hg e F1 (less H1 hE) σ F1 hE H1 _ aw o2 ?_;dsimp only[Mr.bind]at fin;cases e2:g e with
  |no=>rw[e2]at fin;exact fin
  |ex c e'=>
   rw[e2]at fin;intro F2 h2 H2 bC aA;obtain⟨s,dk,bc⟩:=zaE_ ax j aA;refine zbW_ ax j (fin F2 (un hr h2) H2 (Hold.more bC (zai_ dk)) bc)
  |ok gs e'=>
   rw[e2]at fin;intro vs F2 hA eV h2 H2 bC ag j2 aA fu;obtain⟨s,dk,bc⟩:=zaE_ ax j aA;have eh:=zcc_ j2;subst eh;have d1:Dj hr hA:=λp=>by rcases dk p with z |z;exact .inl z;exact .inr ((zai_ j2.dj).l.free z)
   have d2:Dj hr eV:=λp=>by rcases dk p with z |z;exact .inl z;exact .inr ((zai_ j2.dj).r.free z)
   exact fin (v::vs) F2 (un hr hA) eV _ H2 bC ⟨v,vs,hr,hA,rfl,zai_ d1,od.mono s,ag⟩ (zoq_ d1 d2 j2.dj) bc (iV.trans fu)
theorem eg_l (g0:G.Ok K){pt:Pt}{r:Mr Env (List Ag)}(hg:EvG K ta E ws env r):EvG K (tCons (pt.x.den K G E) ta) E ws env (match pt.ev G env with |.ok q=>r.bind λgs e'=>.ok (.l q::gs) e' |.ex c=>.ex c env |.no=>.no):=by
 intro F0 H0 σ F h H Q hL ok fin;refine Pt.sound g0 pt E env σ (un F h) H _ (zco_ (hL.froz ok.2.1)) ok.thaw ?_;cases e:pt.ev G env with
 |no=>rw[e]at fin;exact fin
 |ex c=>
  rw[e]at fin;exact λF' H' y=>(fin _ _ _ (hL.mono (ok.back y).2.1) (ok.back y).1).back ok y
 |ok q=>
  rw[e]at fin;intro F1 H1 v u c x1 hv hu _ _;obtain⟨o1,hsF,ht⟩:=ok.back x1;refine hg F0 H0 σ _ h H1 _ (hL.mono hsF) o1 ?_;cases r with
  |no=>exact fin
  |ex c e'=>exact fin
  |ok gs e'=>exact λvs F2 hA eV h2 H2 bC ag j2 aA fu=>fin (u::vs) F2 hA eV h2 H2 bC ⟨u,v,vs,rfl,hv,zb2_ fu hu,ag⟩ j2 aA (x1.2.2.1.trans fu)
theorem zdD_ (g0:G.Ok K):∀(as:List A) (env:Env),EvG K (X.dens K G E (as.map A.t)) E ws env (evG G env as)
 |[],env=>zpo_
 |.x x::as,env=>eg_x (ek_x g0 x) λe=>zdD_ g0 as e
 |.l p::as,env=>eg_l g0 (zdD_ g0 as env)
def resolve (env:Env):List Ag->Option (List D)
 |[]=>uM []
 |.d d::gs=>(resolve env gs).map λds=>d::ds
 |.l q::gs=>(atE env q).bind λc=>(resolve env gs).map λds=>c::ds
def apartOf (q:Pl):List Ag->Bool
 |[]=>uO
 |.d _::gs=>apartOf q gs
 |.l q'::gs=>apart q q' && apartOf q gs
def apartAll:List Ag->Bool
 |[]=>uO
 |.d _::gs=>apartAll gs
 |.l q::gs=>apartOf q gs && apartAll gs
def restE (env:Env):List Ag->List D->Env
 |.d _::gs,_::ds=>restE env gs ds
 |.l q::gs,d::ds=>putE (restE env gs ds) q d
 |_,_=>env
theorem zbn_ {c:D}:∀{gs:List Ag},apartOf q gs=uO->resolve (putE env q c) gs=resolve env gs
 |[],_=>rfl
 |.d d::gs,h=>by unfold apartOf at h;unfold resolve;rw[zbn_ h]
 |.l q'::gs,h=>by
  unfold apartOf at h;obtain⟨h1,h2⟩:=lX.mp h;unfold resolve;rw[zbn_ h2,zeF_ h1]
theorem zef_ {c:D}:∀{gs:List Ag}{ds:List D},apartOf q gs=uO->restE (putE env q c) gs ds=putE (restE env gs ds) q c
 |[],_,_=>by unfold restE;rfl
 |.d d::gs,[],_=>by unfold restE;rfl
 |.l q'::gs,[],_=>by unfold restE;rfl
 |.d d::gs,_::ds,h=>by unfold apartOf at h;unfold restE;exact zef_ h
 |.l q'::gs,d::ds,h=>by
  unfold apartOf at h;obtain⟨h1,h2⟩:=lX.mp h;unfold restE;rw[zef_ h2,zis_ h1]
theorem zgS_:∀{gs:List Ag}{ds:List D},apartOf q gs=uO->atE (restE env gs ds) q=atE env q
 |[],_,_=>by unfold restE;rfl
 |.d d::gs,[],_=>by unfold restE;rfl
 |.l q'::gs,[],_=>by unfold restE;rfl
 |.d d::gs,_::ds,h=>by unfold apartOf at h;unfold restE;exact zgS_ h
 |.l q'::gs,d::ds,h=>by
  unfold apartOf at h;obtain⟨h1,h2⟩:=lX.mp h;unfold restE;have h1':apart q' q=uO:=by
   unfold apart at h1 ⊢;rw[n5]at h1 ⊢;rcases h1 with h1 |h1
   ·left;simpa [bne_iff_ne,ne_comm]using h1
   ·right;exact zcn_ h1
  rw[zeF_ h1',zgS_ h2]
theorem lend:∀{gs:List Ag}{env:Env}{ds:List D}{vs:List V}{hA hE h:Hp},resolve env gs=uM ds->apartAll gs=uO->AgR K σ F H gs vs hA->Hold (LofW K ws env) σ F hE->Jn hA hE h->Same F H->Same h H ->
  ∃hD hR,Jn hD hR h/\ODs K ds vs F hD/\ds.length=gs.length/\∀ds' F' cQ h',Same F F'->ODs K ds' vs F' cQ->Jn cQ hR h'->Hold (LofW K ws (restE env gs ds')) σ F' h'
 |[],env,ds,vs,hA,hE,h,e,_,ag,hL,j,sF,sH=>by
  unfold resolve at e;cases e;obtain⟨rfl,n⟩:=ag;refine⟨hA,hE,j,by unfold ODs;exact⟨rfl,n⟩,rfl,λds' F' cQ h' s os j'=>?_⟩
  unfold restE;exact Hold.more (hL.mono s) j'
 |.d d::gs,env,ds,vs,hA,hE,h,e,ap,ag,hL,j,sF,sH=>by
  unfold resolve at e;obtain⟨ds1,e1,rfl⟩:=lh.mp e;obtain⟨v,a_,h1,h2,rfl,j1,od,ag⟩:=ag;obtain⟨m,jm,jh⟩:=zk_ j1 j;obtain⟨hD,hR,jd,os,ln,f⟩:=lend e1 (by unfold apartAll at ap;exact ap) ag hL jm sF (jh.r.trans sH)
  obtain⟨a,ja,jb⟩:=zk_ (zaa_ jh |> λz=>z |> zaa_) (show Jn h (λ_=>uN) h from λp=>.inr ⟨rfl,rfl⟩)
  have dd:Dj h1 hD:=λp=>by rcases jh.dj p with z |z;exact .inl z;exact .inr (jd.l.free z)
  have dr:Dj h1 hR:=λp=>by rcases jh.dj p with z |z;exact .inl z;exact .inr (jd.r.free z)
  refine⟨un h1 hD,hR,?_,by unfold ODs;exact⟨v,a_,h1,hD,rfl,zai_ dd,od,os⟩,by rw[lp,lp,ln],λds' F' cQ h' s aM j'=>?_⟩
  ·have:=zoq_ dd dr jd.dj
   rw[<- zcc_ jd,<- zcc_ jh]at this;exact this
  ·cases ds' with
   |nil=>unfold ODs at aM;cases aM.1
   |cons d' ds'=>
    unfold ODs at aM;obtain⟨v',vs2,m1,m2,ee,jm2,_,aM⟩:=aM;cases ee;obtain⟨b,jb1,jb2⟩:=zk_ jm2 j';unfold restE;exact Hold.more (f ds' F' m2 b s aM jb1) jb2
 |.l q::gs,env,ds,vs,hA,hE,h,e,ap,ag,hL,j,sF,sH=>by
  unfold resolve at e;obtain⟨c,ec,e⟩:=k9.mp e;obtain⟨ds1,e1,rfl⟩:=lh.mp e;obtain⟨u,v,a_,rfl,ev,vp,ag⟩:=ag;unfold apartAll at ap;obtain⟨hG,ap2⟩:=lX.mp ap;rcases ze2_ env q.1 with⟨d0,hd⟩|hd
  rotate_left
  ·unfold atE at ec;split at ec
   ·rename_i d z;exact absurd z (hd d)
   ·cases ec
  have hc:d0.at q.2=uM c:=by rw[<- zX_ hd];exact ec
  obtain⟨v',u',k1,k2,ev',vp',jk,oc,g⟩:=zbO_ hL hd hc;rw[ev]at ev';cases ev';have jQ:Same hE H:=j.r.trans sH;have eu:u'=u:=lP ((vp' H sF jQ).symm.trans vp);subst eu;have hp:putE env q (.pin u')=env.set q.1 (uM (d0.put q.2 (.pin u'))):=zh_ hd;have aw:Hold (LofW K ws (putE env q (.pin u'))) σ F k2:=by
   rw[hp];exact g (.pin u') F (λ_=>uN) k2 (Same.refl _) (by unfold OD;exact⟨λ_=>rfl,by unfold DR;rfl⟩) (no_l _ λ_=>rfl)
  obtain⟨m,jm,jh⟩:=zk_ jk (zaa_ j);have jA:Jn hA k2 m:=zaa_ jm;obtain⟨hD,hR,jd,os,ln,f⟩:=lend (gs:=gs) (env:=putE env q (.pin u')) (by rw[zbn_ hG];exact e1) ap2 ag aw jA sF (jh.r.trans sH)
  have dd:Dj k1 hD:=λp=>by rcases jh.dj p with z |z;exact .inl z;exact .inr (jd.l.free z)
  have dr:Dj k1 hR:=λp=>by rcases jh.dj p with z |z;exact .inl z;exact .inr (jd.r.free z)
  refine⟨un k1 hD,hR,?_,by unfold ODs;exact⟨u',a_,k1,hD,rfl,zai_ dd,oc,os⟩,by rw[lp,lp,ln],λds' F' cQ h' s aM j'=>?_⟩
  ·have:=zoq_ dd dr jd.dj
   rw[<- zcc_ jd,<- zcc_ jh]at this;exact this
  ·cases ds' with
   |nil=>unfold ODs at aM;cases aM.1
   |cons d' ds'=>
    unfold ODs at aM;obtain⟨w,vs2,m1,m2,ee,jm2,fW,aM⟩:=aM;cases ee;obtain⟨b,jb1,jb2⟩:=zk_ jm2 j';have h2:=f ds' F' m2 b s aM jb1;have ea:atE (restE (putE env q (.pin u')) gs ds') q=uM (.pin u'):=by rw[zgS_ hG];exact zml_ ec
    rcases ze2_ (restE (putE env q (.pin u')) gs ds') q.1 with⟨d2,hd2⟩|hd2
    rotate_left
    ·unfold atE at ea;split at ea
     ·rename_i d z;exact absurd z (hd2 d)
     ·cases ea
    have a7:d2.at q.2=uM (.pin u'):=by rw[<- zX_ hd2];exact ea
    obtain⟨v3,u3,n1,n2,_,_,jn,on,g2⟩:=zbO_ h2 hd2 a7;unfold OD at on;obtain⟨nn,on⟩:=on;unfold DR at on;subst on;have en:b=n2:=by rw[zcc_ jn];funext p;unfold un;rw[nn p]
    subst en;have:=g2 d' F' m1 h' (Same.refl _) fW jb2;unfold restE;rw[show putE (restE env gs ds') q d'=putE (restE (putE env q (.pin u3)) gs ds') q d' from by rw[zef_ hG,zhx_],zh_ hd2]
    exact this
def callG (f:Fn)(gs:List Ag)(env:Env):Mr Env D:=match resolve env gs with
 | some ds=>if apartAll gs then(match f ds with
   |.ok d ds'=>.ok d (restE env gs ds')
   |.ex c ds'=>.ex c (restE env gs ds')
   |.no=>.no)else .no
 |none=>.no
def CtX (K:lR)(f:Fn)(ds:List D)(vs:List V)(H:Hp)(Q:VK)(E:XK):Prop:=∃F h,Same F H/\Dj F h/\Same h H/\ODs K ds vs F h/\FinC K (f ds) E F (less H h) vs Q
theorem CtX.g {ds:List D}(h:CtX K f ds vs H Q E):CtG K f vs H Q E:=by obtain⟨F,h,a⟩:=h;exact⟨F,h,ds,a⟩
theorem zfU_ {gs:List Ag}{hA hE:Hp}(hL:Hold (LofW K ws env) σ F hE)(ag:AgR K σ F H gs vs hA)(j:Jn hA hE h)(ok:Okk F0 H0 F h H)(fin:FinE K (callG f gs env) E ws σ F0 H0 Q):∃ds,resolve env gs=uM ds/\CtX K f ds vs H Q E:=by
 unfold callG at fin;cases er:resolve env gs with
 |none=>rw[er]at fin;exact fin.elim
 |some ds=>
  rw[er]at fin;dsimp only at fin;by_cases ap:apartAll gs=uO
  rotate_left
  ·rw[if_neg ap]at fin;exact fin.elim
  rw[if_pos ap]at fin;obtain⟨hD,hR,jd,os,ln,g⟩:=lend er ap ag hL j ok.1.2.1 ok.2.2.1;have f9:=zaa_ jd;refine⟨ds,rfl,F,hD,ok.1.2.1,dj_l ok.2.1 jd,jd.l.trans ok.2.2.1,os,?_⟩;cases ef:f ds with
  |no=>rw[ef]at fin;exact fin
  |ex c ds'=>
   rw[ef]at fin;intro F2 h2 H2 aA os2;obtain⟨s,dk,bc⟩:=zaE_ ok f9 aA;exact zbW_ ok f9 (fin F2 (un hR h2) H2 (g ds' F2 h2 _ s os2 (zaa_ (zai_ dk))) bc)
  |ok d ds'=>
   rw[ef]at fin;intro v F2 h2 H2 hr hm aA j2 od os2;obtain⟨s,dk,bc⟩:=zaE_ ok f9 aA;have d1:Dj hR hr:=λp=>by rcases dk p with z |z;exact .inl z;exact .inr (j2.l.free z)
   have d2:Dj hR hm:=λp=>by rcases dk p with z |z;exact .inl z;exact .inr (j2.r.free z)
   have dm:Dj hm hR:=λp=>(d2 p).symm
   refine fin v F2 hr (un hm hR) (un hR h2) H2 (g ds' F2 hm _ s os2 (zai_ dm)) od ?_ bc;rw[zcc_ j2];intro p;unfold un;cases x:hr p with
   |some o=>
    right;rcases j2.dj p with z |z
    ·rw[z]at x;cases x
    ·rcases d1 p with y |y
     ·rw[z,y];exact⟨rfl,rfl⟩
     ·rw[y]at x;cases x
   |none=>
    left;refine⟨rfl,?_⟩;cases y:hR p with
    |some o=>
     rcases d2 p with z |z
     ·rw[z]at y;cases y
     ·rw[z]
    |none=>cases hm p<;>rfl
theorem zcp_ {gs:List Ag}{hA hE:Hp}(hL:Hold (LofW K ws env) σ F hE)(ag:AgR K σ F H gs vs hA)(j:Jn hA hE h)(ok:Okk F0 H0 F h H)(fin:FinE K (callG f gs env) E ws σ F0 H0 Q):CtG K f vs H Q E:=by
 obtain⟨ds,_,c⟩:=zfU_ hL ag j ok fin;exact c.g
theorem zmI_ {r:Mr Env (List Ag)}(hg:EvG K ta E ws env r):EvE K (tCall (CtG K f) [] E ta) E ws env (r.bind (callG f)):=by
 intro F0 H0 σ F h H Q hL ok fin;refine hg F0 H0 σ F h H _ hL ok ?_;cases r with
 |no=>exact fin
 |ex c e=>exact fin
 |ok gs e=>
  intro vs F1 hA hE h1 H1 aw ag j ax _;rw[nU];exact zcp_ aw ag j ax fin
end
inductive Fl where
 |nx |rt (d:D)|ct |bk
section
variable {K:mj}{E:XK}{F F' F0 F1 F2 H0 h h1 h2 H H' H1 H2:Hp}{d c:D}{ds:List D}{v u:V}{vs:List V}{p:kR}{env:Env}{t:TE}{ws:Ws}{σ:L2.St}{q:Pl}{ta:TA}{f:Fn}{s s1 s2:TS}{i:Nat}
def FinS (K:lR)(r:Mr Env Fl)(E:XK)(ws:Ws)(F0 H0:Hp)(N:Ends):Prop:=match r with
 |.ok .nx env=>∀σ F h H,Hold (LofW K ws env) σ F h->Okk F0 H0 F h H->N.nx σ H
 |.ok .ct env=>∀σ F h H,Hold (LofW K ws env) σ F h->Okk F0 H0 F h H->N.ct σ H
 |.ok .bk env=>∀σ F h H,Hold (LofW K ws env) σ F h->Okk F0 H0 F h H->N.bk σ H
 |.ok (.rt d) env=>∀v σ F hr h2 h H,Hold (LofW K ws env) σ F h2->OD K d v F hr->Jn hr h2 h->Okk F0 H0 F h H->N.rt v H
 |.ex c env=>∀σ F h H,Hold (LofW K ws env) σ F h->Okk F0 H0 F h H->Tell K E c H0 F H
 |.no=>False
def EvS (K:lR)(t:TS)(E:XK)(ws:Ws)(env:Env)(r:Mr Env Fl):Prop:=
 ∀F0 H0 σ F h H (N:Ends),Hold (LofW K ws env) σ F h->Okk F0 H0 F h H->FinS K r E ws F0 H0 N->t N σ H
theorem ziF_:EvS K tNext E ws env (.ok .nx env):=λF0 H0 σ F h H N hL ok fin=>fin σ F h H hL ok
theorem zol_:EvS K tCont E ws env (.ok .ct env):=λF0 H0 σ F h H N hL ok fin=>fin σ F h H hL ok
def seqM (r:Mr Env Fl)(g:Env->Mr Env Fl):Mr Env Fl:=r.bind λo e=>match o with |.nx=>g e |_=>.ok o e
theorem znf_ {r:Mr Env Fl}{g:Env->Mr Env Fl}(d8:EvS K s1 E ws env r)(aQ:∀e,EvS K s2 E ws e (g e)):EvS K (tSeq s1 s2) E ws env (seqM r g):=by
 intro F0 H0 σ F h H N hL ok fin;refine d8 F0 H0 σ F h H {N with nx:=s2 N} hL ok ?_;cases r with
 |no=>exact fin
 |ex c e=>exact fin
 |ok o e=>
  cases o with
  |nx=>exact λσ F h H hL ok=>aQ e F0 H0 σ F h H N hL ok fin
  |rt d=>exact fin
  |ct=>exact fin
  |bk=>exact fin
theorem zfG_ {hr hE:Hp}(hw:ws i=uN)(hi:i<env.length)(hL:Hold (LofW K ws env) σ F hE)(od:OD K d v F hr)(j:Jn hr hE h):Hold (LofW K ws (env.set i (uM d))) (σ.set i (uM v)) F h:=by
 obtain⟨o,k1,k2,e1,jk,pp,g⟩:=Hold.atG hL (zbl_ (kz hi));have d1:Dj hr k2:=λp=>by rcases j.dj p with z |z;exact .inl z;exact .inr (jk.r.free z)
 have:=g (slotW K (ws i) (uM d)) (uM v) F hr (un hr k2) (Same.refl _) (zcA_ (λu z=>by rw[hw]at z;cases z) od) (zai_ d1)
 rw[zcF_]at this;refine Hold.more this (g:=k1) ?_;rw[zcc_ j,zcc_ jk];intro p;unfold un;cases x:hr p with
 |some o=>
  left;refine⟨?_,rfl⟩;rcases j.dj p with z |z
  ·rw[z]at x;cases x
  ·exact jk.l.free z
 |none=>
  cases y:k1 p with
  |some o=>
   right;refine⟨?_,rfl⟩;rcases jk.dj p with z |z
   ·rw[z]at y;cases y
   ·exact z
  |none=>left;exact⟨rfl,rfl⟩
def asgM (pn:Nat->Bool)(i:Nat)(r:Mr Env D):Mr Env Fl:=r.bind λd e=>if pn i=uP/\i<e.length then .ok .nx (e.set i (uM d))else .no
theorem zpu_ {pn:Nat->Bool}{r:Mr Env D}(hp:∀i,pn i=uP->ws i=uN)(he:EvE K t E ws env r):EvS K (tAsg t (gName i)) E ws env (asgM pn i r):=by
 intro F0 H0 σ F h H N hL ok fin;refine he F0 H0 σ F h H _ hL ok ?_;cases r with
 |no=>exact fin
 |ex c e=>exact λF h H hL ok=>fin σ F h H hL ok
 |ok d e=>
  have fin:FinS K (if pn i=uP/\i<e.length then .ok .nx (e.set i (uM d))else .no) E ws F0 H0 N:=fin
  split at fin
  ·rename_i z
   exact λv F1 hr hE h1 H1 aw od j ax=>fin _ F1 h1 H1 (zfG_ (hp i z.1) z.2 aw od j) ax
  ·exact fin.elim
def dropM (r:Mr Env D):Mr Env Fl:=r.bind λ_ e=>.ok .nx e
theorem zma_ {r:Mr Env D}(he:EvE K t E ws env r):EvS K (tDrop t) E ws env (dropM r):=by
 intro F0 H0 σ F h H N hL ok fin;refine he F0 H0 σ F h H _ hL ok ?_;cases r with
 |no=>exact fin
 |ex c e=>exact λF h H hL ok=>fin σ F h H hL ok
 |ok d e=>exact λv F1 hr hE h1 H1 aw od j ax=>fin σ F1 h1 H1 (Hold.more aw j) ax
def retM (r:Mr Env D):Mr Env Fl:=r.bind λd e=>.ok (.rt d) e
theorem zqZ_ {r:Mr Env D}(he:EvE K t E ws env r):EvS K (tRet t) E ws env (retM r):=by
 intro F0 H0 σ F h H N hL ok fin;refine he F0 H0 σ F h H _ hL ok ?_;cases r with
 |no=>exact fin
 |ex c e=>exact λF h H hL ok=>fin σ F h H hL ok
 |ok d e=>exact λv F1 hr hE h1 H1 aw od j ax=>fin v σ F1 hr hE h1 H1 aw od j ax
theorem zmo_:EvS K tRetN E ws env (.ok (.rt .non) env):=λF0 H0 σ F h H N hL ok fin=>
 fin .non σ F (λ_=>uN) h h H hL (by unfold OD;exact⟨λ_=>rfl,by unfold DR;rfl⟩) (no_l _ λ_=>rfl) ok
def ifM (env:Env)(b:Mo Bool)(r1 r2:Mr Env Fl):Mr Env Fl:=match b with
 |.ok c=>if c then r1 else r2
 |.ex c=>.ex c env
 |.no=>.no
theorem es_if {tt:TT}{b:Mo Bool}{r1 r2:Mr Env Fl}(hc:EvT K tt E (Lof K env) b)(d8:EvS K s1 E ws env r1)(aQ:EvS K s2 E ws env r2):EvS K (mIfS tt s1 s2) E ws env (ifM env b r1 r2):=by
 intro F0 H0 σ F h H N hL ok fin;refine hc σ (un F h) H _ (zco_ (hL.froz ok.2.1)) ok.thaw ?_;cases b with
 |no=>exact fin
 |ex c=>exact λF' H' y=>(fin σ _ _ _ (hL.mono (ok.back y).2.1) (ok.back y).1).back ok y
 |ok c=>
  intro F' H' y;obtain⟨o,hsF,ht⟩:=ok.back y;refine⟨λz=>?_,λz=>?_⟩
  ·subst z;exact d8 F0 H0 σ _ h H' N (hL.mono hsF) o fin
  ·subst z;exact aQ F0 H0 σ _ h H' N (hL.mono hsF) o fin
def forM (step:Env->List D->Mr Env Fl):List (List D)->Env->Mr Env Fl
 |[],e=>.ok .nx e
 |x::xs,e=>(step e x).bind λo e'=>match o with |.nx=>forM step xs e' |.ct=>forM step xs e' |.bk=>.ok .nx e' |.rt d=>.ok (.rt d) e'
def setG (pn:Nat->Bool):Env->List Nat->List D->Option Env
 |e,i::is,d::ds=>if pn i=uP/\i<e.length then setG pn (e.set i (uM d.vw)) is ds else uN
 |e,[],[]=>uM e
 |_,_,_=>uN
theorem zeC_ {pn:Nat->Bool}(hp:∀i,pn i=uP->ws i=uN):∀{is:List Nat}{ds:List D}{env e:Env}{σ:L2.St}{vs:List (Nat×Option V)},setG pn env is ds=uM e->Plain F (ssT K is ds) vs->Hold (LofW K ws env) σ F h->Hold (LofW K ws e) (setS σ vs) F h
 |[],[],env,e,σ,vs,z,pl,hL=>by unfold setG at z;cases z;cases pl;exact hL
 |i::is,d::ds,env,e,σ,vs,z,pl,hL=>by
  unfold setG at z;split at z
  ·rename_i y
   cases pl with
   |cons hv pl=>
    refine zeC_ hp (is:=is) (ds:=ds) (σ:=σ.set i (uM _)) z pl ?_;exact zfG_ (hp i y.1) y.2 hL (OD.vw (h:=λ_=>uN) (λ_=>rfl) hv) (no_l _ λ_=>rfl)
  ·cases z
 |[],_::_,_,_,_,_,z,_,_=>by unfold setG at z;cases z
 |_::_,[],_,_,_,_,z,_,_=>by unfold setG at z;cases z
theorem zja_ {hr hE:Hp}(od:ODs K ds vs F hr)(j:Jn hr hE h)(ok:Okk F0 H0 F h H):DRs K ds vs (un F hr)/\Same F (un F hr)/\Okk F0 H0 (un F hr) hE H:=by
 obtain⟨o1,o2,o3,o4,o5⟩:=ok;refine⟨OD.view.go z1_ (zd1_ (dj_l o2 j)) od,z1_,⟨o1.1.trans z1_,λp o e=>?_,o1.2.2.1,λp a b=>?_⟩,λp=>?_,j.r.trans o3,λp z=>?_,λp xs e=>o5 p xs (j.r _ _ e)⟩
 ·unfold un at e
  cases z:F p with
  |some w=>rw[z]at e;cases e;exact o1.2.1 _ _ z
  |none=>rw[z]at e;exact o3 _ _ (j.l _ _ e)
 ·unfold un at b
  cases z:F p with
  |some w=>exact o1.2.2.2 p a (by rw[z];exact sN _)
  |none=>
   rw[z]at b;cases y:hr p with
   |none=>exact absurd y b
   |some w=>exact o4 p (by rw[j.l _ _ y];exact sN _)
 ·unfold un
  cases z:F p with
  |some w=>
   rcases dj_r o2 j p with y |y
   ·rw[y]at z;cases z
   ·exact .inr y
  |none=>exact j.dj p
 ·cases y:hE p with
  |none=>exact absurd y z
  |some w=>exact o4 p (by rw[j.r _ _ y];exact sN _)
noncomputable def dsOf:List Ag->Option (List D)
 |[]=>uM []
 |.d d::gs=>(dsOf gs).map λds=>d::ds
 |.l _::_=>uN
theorem ag_ds:∀{gs:List Ag}{ds:List D}{vs:List V}{h:Hp},dsOf gs=uM ds->AgR K σ F H gs vs h->ODs K ds vs F h
 |[],_,_,_,e,r=>by unfold dsOf at e;cases e;unfold ODs;exact r
 |.d d::gs,_,_,_,e,q_=>by
  obtain⟨v,a_,h1,h2,e1,j,o,r⟩:=q_;unfold dsOf at e;obtain⟨ds,e2,rfl⟩:=lh.mp e;unfold ODs;exact⟨v,a_,h1,h2,e1,j,o,ag_ds e2 r⟩
 |.l _::_,_,_,_,e,_=>by unfold dsOf at e;cases e
def forS (pn:Nat->Bool)(ik:Ik)(g:Tg)(r:Mr Env (List Ag))(body:Env->Mr Env Fl):Mr Env Fl:=r.bind λgs e=>match dsOf gs with
 |some ds=>(match ik.f ds with
  |.ok items=>(match tgsD g items with
   |some xs=>forM (λe x=>match setG pn e g.is x with |some e'=>body e' |none=>.no) xs e
   |none=>.no)
  |_=>.no)
 |none=>.no
theorem zq6_ {pn:Nat->Bool}{ik:Ik}{g:Tg}{r:Mr Env (List Ag)}{body:Env->Mr Env Fl}(hp:∀i,pn i=uP->ws i=uN)(hg:EvG K ta E ws env r)(hb:∀e,EvS K s E ws e (body e)):EvS K (tFor (ik.t K ta) (tgT K g) s) E ws env (forS pn ik g r body):=by
 intro F0 H0 σ F h H N hL ok fin;refine hg F0 H0 σ F h H _ hL ok ?_;cases r with
 |no=>exact fin
 |ex c e=>exact λF h H hL ok=>fin σ F h H hL ok
 |ok gs e=>
  intro vs F1 hA hE h1 H1 aw ag j ax _
  have fin:FinS K (match dsOf gs with
   |some ds=>(match ik.f ds with
    |.ok items=>(match tgsD g items with
     |some xs=>forM (λe x=>match setG pn e g.is x with |some e'=>body e' |none=>.no) xs e
     |none=>.no)
    |_=>.no)
   |none=>.no) E ws F0 H0 N:=fin
  cases e1:dsOf gs with
  |none=>rw[e1]at fin;exact fin.elim
  |some ds=>
   rw[e1]at fin;dsimp only at fin;obtain⟨dr,sF,aA⟩:=zja_ (ag_ds e1 ag) j ax;cases e2:ik.f ds with
   |no=>rw[e2]at fin;exact fin.elim
   |ex c=>rw[e2]at fin;exact fin.elim
   |ok items=>
    rw[e2]at fin;dsimp only at fin;cases e3:tgsD g items with
    |none=>rw[e3]at fin;exact fin.elim
    |some xs=>
     rw[e3]at fin;dsimp only at fin;refine ik_w (E:=E) ik ds vs σ (un F1 hA) H1 _ aA.1.2.1 dr ?_;rw[e2];intro F2 H2 x2 J Y;have bc:=aA.cold x2;obtain⟨l,gx⟩:=zep_ e3;have xx:Ext F0 H0 F2 H2:=bc.1
     refine⟨λn m σ H=>m=xs.length-n/\n<=xs.length/\∃e F h,Hold (LofW K ws e) σ F h/\Okk F2 H0 F h H/\FinS K (forM (λe x=>match setG pn e g.is x with |some e'=>body e' |none=>.no) (xs.drop n) e) E ws F0 H0 N,
      ⟨_,rfl,me _,e,F2,hE,aw.mono (sF.trans x2.1),bc.rebase xx (Same.refl _),fin⟩,?_⟩
     rintro n m σ H ⟨rfl,hn,e,F,h,hL,ok,fin⟩;have s1:Same F2 H:=ok.1.1.trans ok.1.2.1;by_cases ay:n<xs.length
     ·right
      obtain⟨d,hd,td⟩:=gx n xs[n] (kz ay);obtain⟨g1,g2⟩:=Y.go n H d s1 hd;refine⟨g1,λai H'=>n+1<=xs.length/\∃e F h,Hold (LofW K ws e) ai F h/\Okk F2 H0 F h H'/\FinS K (forM (λe x=>match setG pn e g.is x with |some e'=>body e' |none=>.no) (xs.drop (n+1)) e) E ws F0 H0 N,λai H' z=>⟨xs.length-(n+1),by lia,rfl,z⟩,λv H3 hy=>?_⟩
      obtain⟨F3,x3,hv⟩:=g2 v H3 hy F ok.1.1 ok.1.2.1;refine tg_R g xs[n] v σ F3 H3 _ x3.2.1 (tgD_R td hv) λvs pl=>?_
      rw[oY ay]at fin;unfold forM at fin;cases es:setG pn e g.is xs[n]with
      |none=>rw[es]at fin;exact fin.elim
      |some e'=>
       rw[es]at fin;refine hb e' F2 H0 _ F3 h H3 _ (zeC_ hp es pl (hL.mono x3.1)) (ok.cold x3) ?_;dsimp only[Mr.bind]at fin;cases eb:body e' with
       |no=>rw[eb]at fin;exact fin
       |ex c e2=>rw[eb]at fin;exact λσ F h H hL ok=>fin σ F h H hL (ok.unbase xx)
       |ok o e2=>
        rw[eb]at fin;cases o with
        |nx=>exact λai F' h' H' eU bL=>⟨ay,e2,F',h',eU,bL,fin⟩
        |ct=>exact λai F' h' H' eU bL=>⟨ay,e2,F',h',eU,bL,fin⟩
        |bk=>exact λai F' h' H' eU bL=>fin ai F' h' H' eU (bL.unbase xx)
        |rt a=>exact λv σ F hr h2 h H a1 a2 a3 ok=>fin v σ F hr h2 h H a1 a2 a3 (ok.unbase xx)
     ·left
      have en:n=xs.length:=by lia
      subst en;rw[qj]at fin;exact⟨by rw[l];exact Y.stop H s1,fin σ F h H hL (ok.unbase xx)⟩
theorem zid_:∀{gs:List Ag}{vs:List V}{h:Hp},AgR K σ F H gs vs h->vs.length=gs.length
 |[],_,_,r=>by rw[r.1];rfl
 |.d d::gs,_,_,r=>by obtain⟨v,a_,h1,h2,e,j,o,r⟩:=r;rw[e,lp,lp,zid_ r]
 |.l q::gs,_,_,r=>by obtain⟨u,v,a_,e,e1,f,r⟩:=r;rw[e,lp,lp,zid_ r]
variable {h3 k:Hp}{us:List V}{Q:VK}{G:Gi}
theorem ODs.snoc:∀{ds:List D}{us:List V}{h1 h:Hp},ODs K ds us F h1->OD K d v F h2->Jn h1 h2 h->ODs K (ds++[d]) (us++[v]) F h
 |[],_,h1,h,q,o,j=>by
  unfold ODs at q;rw[q.1,mQ,mQ];have:h=h2:=by rw[zcc_ j];funext p;unfold un;rw[q.2 p]
  subst this;unfold ODs;exact⟨v,[],h,λ_=>uN,rfl,no_r _ λ_=>rfl,o,by unfold ODs;exact⟨rfl,λ_=>rfl⟩⟩
 |e::es,_,h1,h,q,o,j=>by
  unfold ODs at q;obtain⟨w,ws,k1,k2,rfl,jk,a,r⟩:=q;obtain⟨m,jm,jh⟩:=zk_ jk j;rw[l0,l0];unfold ODs;exact⟨w,ws++[v],k1,m,rfl,jh,a,ODs.snoc r o jm⟩
theorem ODs.app:∀{ds es:List D}{us ws:List V}{h1 h2 h:Hp},ODs K ds us F h1->ODs K es ws F h2->Jn h1 h2 h->ODs K (ds++es) (us++ws) F h
 |[],es,_,ws,h1,h2,h,q,o,j=>by
  unfold ODs at q;rw[q.1,mQ,mQ];have:h=h2:=by rw[zcc_ j];funext p;unfold un;rw[q.2 p]
  subst this;exact o
 |e::ds,es,_,ws,h1,h2,h,q,o,j=>by
  unfold ODs at q;obtain⟨w,ws',k1,k2,rfl,jk,a,r⟩:=q;obtain⟨m,jm,jh⟩:=zk_ jk j;rw[l0,l0];unfold ODs;exact⟨w,ws'++ws,k1,m,rfl,jh,a,ODs.app r o jm⟩
theorem zd8_ {o o':HO}{hc ha k:Hp}{ds':List D}(hs:Same F H)(dj:Dj F h)(sh:Same h H)(nt:∀p xs,h p≠uM (.tup xs))(jh:Jn (one p o) k h)(n':∀xs,o'≠.tup xs){d:D}{v:V}{hr h2:Hp}(jk:Jn hr h2 (un (one p o') k))
  (od:OD K d v F hr) (os:ODs K ds' vs F h2) (fin:∀v F' h' H' hr h2,Okk F (less H h) F' h' H'->Jn hr h2 h'->OD K d v F' hr->ODs K ds' vs F' h2->Q v H'):Q v (upd H p o'):=by
 have ok:=zbr_ hs dj sh nt;have hp:h p≠uN:=by rw[jh.l _ _ zq_];exact sN _
 have bL:=zf9_ (h1':=h) (hr:=h) (h':=h) ok hp n' (un (one p o') k) λq=>by
  unfold un;rw[zb_];by_cases e:q=p
  ·rw[if_pos e,if_pos e]
  ·rw[if_neg e,if_neg e]
   rcases jh q with⟨_,b⟩|⟨a,b⟩
   ·exact b.symm
   ·rw[a,b,zb_,if_neg e]
 exact fin v F _ _ hr h2 bL jk od os
def BmOk (K:lR)(r:V->List V->Hp->VK->Prop)(f:Fn):Prop:=∀x xs H Q E,CtG K f (x::xs) H Q E->r x xs H Q
def appendF:Fn:=λds=>match ds with
 |[.nd .lst xs,d]=>if xs.length<lg then .ok .non [.nd .lst (xs++[d]),.gone]else .no
 |_=>.no
theorem ze8_ (os:ODs K ds vs F h):∀p xs,h p≠uM (.tup xs):=OD.notup.go os
theorem zaM_ {h:Hp}(hn:∀p,h p=uN):OD K .gone v F h:=by unfold OD;exact⟨hn,by unfold DR;trivial⟩
theorem zcK_ {h:Hp}(hn:∀p,h p=uN):OD K .non .non F h:=by unfold OD;exact⟨hn,by unfold DR;rfl⟩
theorem zic_:BmOk K rAppend appendF:=by
 rintro x xs H Q E ⟨F,h,ds,hs,dj,sh,os,fin⟩;have nt:=ze8_ os;unfold appendF at fin;split at fin
 ·rename_i ys d
  split at fin
  ·rename_i hl
   unfold ODs at os;obtain⟨w,ws,m1,m2,e1,jm,o1,os⟩:=os;cases e1;unfold ODs at os;obtain⟨y,ws2,n1,n2,e2,jn,o2,os⟩:=os;cases e2;unfold ODs at os;obtain⟨rfl,nn⟩:=os;unfold OD at o1;obtain⟨p,us,h0,hc,rfl,cl,jc,oc⟩:=o1;have e0:h0=one p (.lst us):=cl;subst e0;have em:m2=n1:=by rw[zcc_ jn];funext q;unfold un;cases z:n1 q with |none=>exact nn q |some o=>rfl
   subst em;obtain⟨a,ja,jb⟩:=zk_ jc jm;have hp:H p=uM (.lst us):=sh _ _ (jb.l _ _ zq_);refine⟨p,us,y,rfl,rfl,hp,by rw[<- ODs.len oc];exact hl,?_⟩
   have d1:Dj (one p (.lst (us++[y]))) a:=λq=>by
    rw[zb_];split
    ·rename_i e;subst e;right;exact(by rcases jb.dj q with z |z;rw[zq_]at z;cases z;exact z)
    ·exact .inl rfl
   refine zd8_ (vs:=[.ref p,y]) (ds':=[.nd .lst (ys++[d]),.gone]) (hr:=λ_=>uN) (h2:=un (one p (.lst (us++[y]))) a) (hc:=h) (ha:=h) hs dj sh nt jb (λxs z=>by cases z) (no_l _ λ_=>rfl) (zcK_ λ_=>rfl) ?_ fin
   unfold ODs;refine⟨.ref p,[y],_,λ_=>uN,rfl,no_r _ λ_=>rfl,?_,?_⟩
   ·unfold OD
    exact⟨p,us++[y],_,a,rfl,rfl,zai_ d1,ODs.snoc oc o2 ja⟩
   ·unfold ODs
    exact⟨y,[],λ_=>uN,λ_=>uN,rfl,no_r _ λ_=>rfl,zaM_ λ_=>rfl,by unfold ODs;exact⟨rfl,λ_=>rfl⟩⟩
  ·exact fin.elim
 ·exact fin.elim
theorem recv1 {k:Nd}{ys args:List D}{x:V}{xs:List V}(os:ODs K (.nd k ys::args) (x::xs) F h):∃p us h0 hc ha a,x=.ref p/\Cell K k p us F h0/\Jn h0 a h/\Jn hc ha a/\ODs K ys us F hc/\ODs K args xs F ha:=by
 unfold ODs at os;obtain⟨w,ws,m1,m2,e1,jm,o1,os⟩:=os;cases e1;unfold OD at o1;obtain⟨p,us,h0,hc,rfl,cl,jc,oc⟩:=o1;obtain⟨a,ja,jb⟩:=zk_ jc jm;exact⟨p,us,h0,hc,m2,a,rfl,cl,jb,ja,oc,os⟩
theorem ze6_ {o o':HO}{a:Hp}(jb:Jn (one p o) a h):Dj (one p o') a:=λq=>by
 rw[zb_];split
 ·rename_i e;subst e;right;rcases jb.dj q with z |z
  ·rw[zq_]at z;cases z
  ·exact z
 ·exact .inl rfl
theorem recv2 {cp cT:List D}{bF:List V}{xs:List V}{a b aB:Hp}(d1:Dj (one p (.lst bF)) a)(jc:Jn aB b a)(oc:ODs K cp bF F aB)(oa:ODs K cT xs F b):ODs K (.nd .lst cp::cT) (.ref p::xs) F (un (one p (.lst bF)) a):=by
 have d2:Dj (one p (.lst bF)) aB:=λq=>by rcases d1 q with z |z;exact .inl z;exact .inr (jc.l.free z)
 have d3:Dj (one p (.lst bF)) b:=λq=>by rcases d1 q with z |z;exact .inl z;exact .inr (jc.r.free z)
 unfold ODs;refine⟨.ref p,xs,un (one p (.lst bF)) aB,b,rfl,?_,?_,oa⟩
 ·have:=zoq_ d2 d3 jc.dj
  rw[<- zcc_ jc]at this;exact this
 ·unfold OD
  exact⟨p,bF,_,aB,rfl,rfl,zai_ d2,oc⟩
theorem zhO_ {y:V}:ODs K [.gone] [y] F (λ_=>uN):=by
 unfold ODs;exact⟨y,[],λ_=>uN,λ_=>uN,rfl,no_r _ λ_=>rfl,zaM_ λ_=>rfl,by unfold ODs;exact⟨rfl,λ_=>rfl⟩⟩
theorem zez_:∀{ds:List D}{us:List V},ds.length=us.length->ODs K (ds.map λ_=>.gone) us F (λ_=>uN)
 |[],[],_=>by rw[n6];unfold ODs;exact⟨rfl,λ_=>rfl⟩
 |d::ds,u::us,l=>by rw[kX];unfold ODs;exact⟨u,us,λ_=>uN,λ_=>uN,rfl,no_r _ λ_=>rfl,zaM_ λ_=>rfl,zez_ (by simpa using l)⟩
 |[],_::_,l=>by simp at l
 |_::_,[],l=>by simp at l
theorem zcX_:ODs K [] [] F (λ_=>uN):=by unfold ODs;exact⟨rfl,λ_=>rfl⟩
theorem zeA_ {y:V}(h1:ODs K [d] [y] F h):OD K d y F h:=by
 unfold ODs at h1;obtain⟨v,vs,m1,m2,e,j,o,r⟩:=h1;cases e;unfold ODs at r;have:h=m1:=by rw[zcc_ j];funext q;unfold un;cases z:m1 q with |none=>exact r.2 q |some o=>rfl
 rw[this];exact o
theorem zhe_ {xs:List V}(h1:ODs K [d] xs F h):∃y,xs=[y]:=m4.mp (ODs.len h1).symm
theorem len2_ {l:List V}(h:l.length=2):∃a b,l=[a,b]:=by
 obtain⟨a,t,rfl⟩:=mh h;obtain⟨b,rfl⟩:=m4.mp (mR h);exact⟨a,b,rfl⟩
theorem len3_ {l:List V}(h:l.length=3):∃a b c,l=[a,b,c]:=by
 obtain⟨a,t,rfl⟩:=mh h;obtain⟨b,c,rfl⟩:=len2_ (mR h);exact⟨a,b,c,rfl⟩
def extendF:Fn:=λds=>match ds with
 |[.nd .lst xs,.nd .lst ys]=>if xs.length+ys.length<=lg then .ok .non [.nd .lst (xs++ys),.nd .lst (ys.map λ_=>.gone)]else .no
 |[.nd .lst xs,.fz d]=>(match d.un with |.nd .lst ys=>if xs.length+ys.length<=lg then .ok .non [.nd .lst (xs++ys.map .vw),.gone]else .no |_=>.no)
 |_=>.no
theorem zhw_:BmOk K rExtend extendF:=by
 rintro x xs H Q E ⟨F,h,ds,hs,dj,sh,os,fin⟩;have nt:=ze8_ os;unfold extendF at fin;split at fin
 ·rename_i ys zs
  split at fin
  ·rename_i hl
   obtain⟨p,us,h0,hc,ha,a,rfl,cl,jb,ja,oc,oa⟩:=recv1 os;have e0:h0=one p (.lst us):=cl;subst e0;obtain⟨y,rfl⟩:=zhe_ oa;have o2:=zeA_ oa;unfold OD at o2;obtain⟨p2,us2,h2,a7,rfl,cl2,jc2,dA⟩:=o2;have e2:h2=one p2 (.lst us2):=cl2;subst e2;have hp:H p=uM (.lst us):=sh _ _ (jb.l _ _ zq_);have bj:H p2=uM (.lst us2):=sh _ _ (jb.r _ _ (ja.r _ _ (jc2.l _ _ zq_)));refine⟨p,p2,us,us2,rfl,rfl,hp,bj,by rw[<- ODs.len oc,<- ODs.len dA];exact hl,?_⟩
   obtain⟨m,jm,jh⟩:=zk_ (zaa_ jc2) (zaa_ ja);obtain⟨m3,jm3,jh3⟩:=zk_ jm (zaa_ jh);have iY:=ODs.app oc dA jm3;have jg:Jn m3 (one p2 (.lst us2)) a:=zaa_ jh3;refine zd8_ (vs:=[.ref p,.ref p2]) (ds':=[.nd .lst (ys++zs),.nd .lst (zs.map λ_=>.gone)]) (hr:=λ_=>uN) (h2:=un (one p (.lst (us++us2))) a) (hc:=h) (ha:=h) hs dj sh nt jb (λxs z=>by cases z) (no_l _ λ_=>rfl) (zcK_ λ_=>rfl) (recv2 (ze6_ jb) jg iY ?_) fin
   unfold ODs;refine⟨.ref p2,[],_,λ_=>uN,rfl,no_r _ λ_=>rfl,?_,zcX_⟩
   unfold OD;exact⟨p2,us2,_,λ_=>uN,rfl,rfl,no_r _ λ_=>rfl,zez_ (ODs.len dA)⟩
  ·exact fin.elim
 ·rename_i ys d
  split at fin
  ·rename_i zs e
   split at fin
   ·rename_i hl
    obtain⟨p,us,h0,hc,ha,a,rfl,cl,jb,ja,oc,oa⟩:=recv1 os;have e0:h0=one p (.lst us):=cl;subst e0;obtain⟨y,rfl⟩:=zhe_ oa;have o2:=zeA_ oa;unfold OD at o2;obtain⟨n2,r2⟩:=o2;have r2:=DR.un r2;rw[show(D.fz d).un=d.un from by rw[D.un],e]at r2
    obtain⟨p2,us2,rfl,n,r⟩:=r2.nd;have hp:H p=uM (.lst us):=sh _ _ (jb.l _ _ zq_);refine⟨p,p2,us,us2,rfl,rfl,hp,hs _ _ n,by rw[<- ODs.len oc,<- r.len];exact hl,?_⟩
    have ea:a=hc:=by rw[zcc_ ja];funext q;unfold un;cases z:hc q with |none=>exact n2 q |some o=>rfl
    subst ea;exact zd8_ (vs:=[.ref p,.ref p2]) (ds':=[.nd .lst (ys++zs.map D.vw),.gone]) (hr:=λ_=>uN) (h2:=un (one p (.lst (us++us2))) a) (hc:=h) (ha:=h) hs dj sh nt jb (λxs z=>by cases z) (no_l _ λ_=>rfl) (zcK_ λ_=>rfl) (recv2 (ze6_ jb) (no_r _ λ_=>rfl) (ODs.app oc (ODs.vw (h:=λ_=>uN) (λ_=>rfl) r) (no_r _ λ_=>rfl)) zhO_) fin
   ·exact fin.elim
  ·exact fin.elim
 ·exact fin.elim
theorem recvV {v0 d0:D}{args:List D}{x y:V}{xs:List V}(os:ODs K (v0::d0::args) (x::y::xs) F h):∃h1 h2 h3 a,Jn h1 a h/\Jn h2 h3 a/\OD K v0 x F h1/\OD K d0 y F h2/\ODs K args xs F h3:=by
 unfold ODs at os;obtain⟨w,ws,m1,m2,e1,jm,o1,os⟩:=os;cases e1;unfold ODs at os;obtain⟨w2,ws2,n1,n2,e2,jn,o2,os⟩:=os;cases e2;exact⟨m1,n1,n2,m2,jm,jn,o1,o2,os⟩
def rSetD:TSet:=λo i v H Q=>atD o i H λa kvs k=>kvs.length<lg/\Q (upd H a (.dK (putK kvs k v)))
def rSetA:TSet:=λo i v H Q=>mSet o i v H Q\/rSetD o i v H Q
theorem set_A {X:Cx}(hu:X.A.units+60<cLine):PSet X rSetA:=by
 intro pins s σ H o i v ov iv u Q I ro ri rv h;rcases h with h |h
 ·exact set_M pins s σ H o i v ov iv u Q I ro ri rv h
 ·obtain⟨a,kvs,k,rfl,rfl,hd,hl,q⟩:=zgW_ h
  cases ro;exact zik_ (by lia) I (DPut.k hd hl) ri rv λs4 I4=>⟨_,I4,q⟩
def setIF:Fn:=λds=>match ds with
 |[v,.nd .lst xs,.int i]=>(match ixN xs.length i with |some j=>.ok .non [.gone,.nd .lst (xs.set j v),.int i]|none=>.no)
 |[v,.nd (.dct ks) xs,k]=>(match keyD k with
  |some k'=>if kIx ks k'<ks.length/\xs.length<lg then .ok .non [.gone,.nd (.dct ks) (xs.set (kIx ks k') v),k]else if xs.length<lg/\¬kIx ks k'<ks.length then .ok .non [.gone,.nd (.dct (ks++[k'])) (xs++[v]),k]else .no
  |none=>.no)
 |_=>.no
theorem zey_ {o o':HO}{k m:Hp}{ds':List D}(hs:Same F H)(dj:Dj F h)(sh:Same h H)(nt:∀p xs,h p≠uM (.tup xs))(jh:Jn (one p o) k h)(n':∀xs,o'≠.tup xs)(sm:Same m (un (one p o') k)){d:D}{v:V}{hr h2:Hp}(jk:Jn hr h2 m)
  (od:OD K d v F hr) (os:ODs K ds' vs F h2) (fin:∀v F' h' H' hr h2,Okk F (less H h) F' h' H'->Jn hr h2 h'->OD K d v F' hr->ODs K ds' vs F' h2->Q v H'):Q v (upd H p o'):=by
 have ok:=zbr_ hs dj sh nt;have hp:h p≠uN:=by rw[jh.l _ _ zq_];exact sN _
 have bL:=zf9_ (h1':=h) (hr:=h) (h':=h) ok hp n' (un (one p o') k) λq=>by
  unfold un;rw[zb_];by_cases e:q=p
  ·rw[if_pos e,if_pos e]
  ·rw[if_neg e,if_neg e]
   rcases jh q with⟨_,b⟩|⟨a,b⟩
   ·exact b.symm
   ·rw[a,b,zb_,if_neg e]
 exact fin v F _ _ hr h2 (zdy_ bL sm) jk od os
theorem zdU_:∀{ks:List Key}{k:Key},kIx ks k<ks.length↔k∈ks
 |[],k=>by simp[kIx]
 |k0::ks,k=>by
  unfold kIx;by_cases e:k0=k
  ·subst e;simp
  ·rw[if_neg e,lp,Nat.succ_lt_succ_iff,zdU_,lA]
   exact⟨.inr,λz=>by rcases z with z |z;exact absurd z.symm e;exact z⟩
theorem zmy_:∀{ks:List Key}{us:List V}{k:Key}{v:V},k∈ks->ks.Nodup->ks.length=us.length->putK (ks.zip us) k v=ks.zip (us.set (kIx ks k) v):=λ{ks us k v} hk nd hl=>by
 have ha:((ks.zip us).any λkv=>decide (kv.1=k))=uO:=by
  rw[qq];obtain⟨i,hi,e⟩:=pT hk;exact⟨(ks[i],us[i]'(by lia)),mU (i:=i) (by rw[oX];exact⟨by rw[kz hi],by rw[kz]⟩),by simpa using e⟩
 unfold putK;rw[if_pos ha];clear ha;induction ks generalizing us with
 |nil=>simp at hk
 |cons k0 ks ih=>
  cases us with
  |nil=>simp at hl
  |cons u us=>
   obtain⟨n1,n2⟩:=nW.mp nd;rw[lV,kX];unfold kIx;by_cases e:k0=k
   ·subst e
    rw[if_pos rfl,if_pos rfl,oG,lV];congr 1;have:∀q∈ks.zip us,(if q.1=k0 then(q.1,v)else q)=q:=λq hq=>by
     have h1:=(nX (a:=q.1) (b:=q.2) hq).1;rw[if_neg (show¬q.1=k0 from λz=>n1 (z ▸ h1))]
    exact(nC this).trans (qT _)
   ·rw[if_neg e,if_neg e,pj,lV]
    congr 1;exact ih (by rcases lA.mp hk with z |z;exact absurd z.symm e;exact z) n2 (by simpa using hl)
theorem zg9_ {ks:List Key}{us:List V}{k:Key}{v:V}(hk:k∉ks)(hl:ks.length=us.length):putK (ks.zip us) k v=(ks++[k]).zip (us++[v]):=by
 have ha:¬((ks.zip us).any λkv=>decide (kv.1=k))=uO:=by
  rw[qq];rintro⟨q,hq,e⟩;exact hk (by have:=(nX hq).1;simp at e;rw[<- e];exact this)
 unfold putK;rw[if_neg ha,List.zip_append hl];rfl
theorem zkB_ {k:Nd}{ys:List D}(o:OD K (.nd k ys) v F h):∃p us h0 hc,v=.ref p/\Cell K k p us F h0/\Jn h0 hc h/\ODs K ys us F hc:=by unfold OD at o;exact o
theorem ods3 {a b c:D}{x y z:V}{h1 h2 h3 m:Hp}(o1:OD K a x F h1)(o2:OD K b y F h2)(o3:OD K c z F h3)(j1:Jn h2 h3 m)(j2:Jn h1 m h):ODs K [a,b,c] [x,y,z] F h:=by
 unfold ODs;refine⟨x,[y,z],h1,m,rfl,j2,o1,?_⟩;unfold ODs;refine⟨y,[z],h2,h3,rfl,j1,o2,?_⟩;unfold ODs;exact⟨z,[],h3,λ_=>uN,rfl,no_r _ λ_=>rfl,o3,zcX_⟩
theorem zpf_ {x o i:V}{QQ:Hp->Prop}(h0:CtG K setIF [x,o,i] H (λv H'=>v=.non->QQ H') E):rSetA o i x H QQ:=by
 obtain⟨F,h,ds,hs,dj,sh,os,fin⟩:=h0;have nt:=ze8_ os;unfold setIF at fin;split at fin
 ·rename_i v0 ys j0
  obtain⟨h1,h2,h3,a,ja,jb,ov,orr,oi⟩:=recvV os;have oi:=zeA_ oi;unfold OD at oi;obtain⟨n3,r3⟩:=oi;cases r3.int;obtain⟨p,us,c0,hc,rfl,cl,jc,oc⟩:=zkB_ orr;have e0:c0=one p (.lst us):=cl;subst e0;have ea:a=h2:=by rw[zcc_ jb];funext q;unfold un;cases z:h2 q with |none=>exact n3 q |some o=>rfl
  subst ea;cases ej:ixN ys.length j0 with
  |none=>rw[ej]at fin;exact fin.elim
  |some j=>
   rw[ej]at fin;dsimp only at fin;have gG:=(zge_ ej).2.1;obtain⟨u,k1,k2,eu,jk,ow,g⟩:=ODs.focus oc (kz gG);obtain⟨m,jm,jh⟩:=zk_ jc (zaa_ ja);have d1:Dj h1 hc:=λq=>(jm.dj q).symm
   have d2:Dj h1 k2:=λq=>by rcases d1 q with z |z;exact .inl z;exact .inr (jk.r.free z)
   have on:=g v0 F x h1 (un h1 k2) (Same.refl _) ov (zai_ d2);have hp:H p=uM (.lst us):=sh _ _ (jh.l _ _ zq_);have sm:Same (un h1 k2) m:=λq o e=>by
    unfold un at e;cases z:h1 q with
    |some w=>rw[z]at e;cases e;exact jm.r _ _ z
    |none=>rw[z]at e;exact jm.l _ _ (jk.r _ _ e)
   have dp:Dj (one p (.lst (us.set j x))) (un h1 k2):=λq=>by
    rcases ze6_ (o':=.lst (us.set j x)) jh q with z |z
    ·exact .inl z
    ·exact .inr (sm.free z)
   refine .inl ⟨us,hp,?_⟩;rw[<- ODs.len oc,ej];refine zey_ (vs:=[x,.ref p,.int j0]) (m:=un (one p (.lst (us.set j x))) (un h1 k2)) (d:=.non) (v:=.non) (Q:=λv H'=>v=.non->QQ H') (hr:=λ_=>uN) hs dj sh nt jh (λxs z=>by cases z) (λq o e=>?_) (no_l _ λ_=>rfl) (zcK_ λ_=>rfl) (ods3 (zaM_ λ_=>rfl) ?_ (by unfold OD;exact⟨λ_=>rfl,by unfold DR;rfl⟩) (no_r _ λ_=>rfl) (no_l _ λ_=>rfl)) fin rfl
   ·unfold un at e ⊢
    cases z:one p (.lst (us.set j x)) q with
    |some w=>rw[z]at e;exact e
    |none=>rw[z]at e;exact sm _ _ e
   ·unfold OD
    exact⟨p,us.set j x,_,un h1 k2,rfl,rfl,zai_ dp,on⟩
 ·rename_i v0 ks ys key
  obtain⟨h1,h2,h3,a,ja,jb,ov,orr,oi⟩:=recvV os;have oi:=zeA_ oi;obtain⟨p,us,c0,hc,rfl,cl,jc,oc⟩:=zkB_ orr;obtain⟨e0,el,nd⟩:=cl;subst e0;cases ek:keyD key with
  |none=>rw[ek]at fin;exact fin.elim
  |some k'=>
   rw[ek]at fin;dsimp only at fin;have ck:(∀q,h3 q=uN)/\DR K key i F:=by
    have:∀{d:D}{k:Key},keyD d=uM k->d.cold=uO:=λ{d}=>by
     cases d with
     |nd=>intro k e;cases e
     |_=>intro k e;rfl
    exact OD.cold (this ek) oi
   obtain⟨n3,r3⟩:=ck;have kv:=zlf_ ek r3;have ea:a=h2:=by rw[zcc_ jb];funext q;unfold un;cases z:h2 q with |none=>exact n3 q |some o=>rfl
   subst ea;obtain⟨m,jm,jh⟩:=zk_ jc (zaa_ ja);have hp:H p=uM (.dK (ks.zip us)):=sh _ _ (jh.l _ _ zq_);have d1:Dj h1 hc:=λq=>(jm.dj q).symm
   split at fin
   ·rename_i gF
    obtain⟨hk,de⟩:=gF;have hj:kIx ks k'<ys.length:=by rw[ODs.len oc,<- el];exact hk
    obtain⟨u,k1,k2,eu,jk,ow,g⟩:=ODs.focus oc (kz hj);have d2:Dj h1 k2:=λq=>by rcases d1 q with z |z;exact .inl z;exact .inr (jk.r.free z)
    have on:=g v0 F x h1 (un h1 k2) (Same.refl _) ov (zai_ d2);have sm:Same (un h1 k2) m:=λq o e=>by
     unfold un at e;cases z:h1 q with
     |some w=>rw[z]at e;cases e;exact jm.r _ _ z
     |none=>rw[z]at e;exact jm.l _ _ (jk.r _ _ e)
    have dp:Dj (one p (.dK (ks.zip (us.set (kIx ks k') x)))) (un h1 k2):=λq=>by
     rcases ze6_ (o':=.dK (ks.zip (us.set (kIx ks k') x))) jh q with z |z
     ·exact .inl z
     ·exact .inr (sm.free z)
    refine .inr (zeb_ rfl kv.1 hp ⟨?_,?_⟩)
    ·rw[mB,el,og,<- ODs.len oc];exact de
    ·rw[zmy_ (zdU_.mp hk) nd el]
     refine zey_ (vs:=[x,.ref p,i]) (m:=un (one p (.dK (ks.zip (us.set (kIx ks k') x)))) (un h1 k2)) (d:=.non) (v:=.non) (Q:=λv H'=>v=.non->QQ H') (hr:=λ_=>uN) hs dj sh nt jh (λxs z=>by cases z) (λq o e=>?_) (no_l _ λ_=>rfl) (zcK_ λ_=>rfl) (ods3 (zaM_ λ_=>rfl) ?_ oi (λq=>.inr ⟨n3 q,rfl⟩) (no_l _ λ_=>rfl)) fin rfl
     ·unfold un at e ⊢
      cases z:one p (.dK (ks.zip (us.set (kIx ks k') x))) q with
      |some w=>rw[z]at e;exact e
      |none=>rw[z]at e;exact sm _ _ e
     ·unfold OD
      exact⟨p,us.set (kIx ks k') x,_,un h1 k2,rfl,⟨rfl,by rw[mS];exact el,nd⟩,zai_ dp,on⟩
   ·split at fin
    ·rename_i de
     obtain⟨hl,hk⟩:=de;have bq:k'∉ks:=λz=>hk (zdU_.mpr z)
     refine .inr (zeb_ rfl kv.1 hp ⟨by rw[mB,el,og,<- ODs.len oc];exact hl,?_⟩)
     rw[zg9_ bq el];have on:=ODs.snoc oc ov jm;have dp:=ze6_ (o':=.dK ((ks++[k']).zip (us++[x]))) jh;refine zey_ (vs:=[x,.ref p,i]) (m:=un (one p (.dK ((ks++[k']).zip (us++[x])))) m) (d:=.non) (v:=.non) (Q:=λv H'=>v=.non->QQ H') (hr:=λ_=>uN) hs dj sh nt jh (λxs z=>by cases z) (Same.refl _) (no_l _ λ_=>rfl) (zcK_ λ_=>rfl) (ods3 (zaM_ λ_=>rfl) ?_ oi (λq=>.inr ⟨n3 q,rfl⟩) (no_l _ λ_=>rfl)) fin rfl
     unfold OD;exact⟨p,us++[x],_,m,rfl,⟨rfl,by simp[el],p9.mpr ⟨nd,by simp,by rintro a ha b hb rfl;simp at hb;subst hb;exact bq ha⟩⟩,zai_ dp,on⟩
    ·exact fin.elim
 ·exact fin.elim
theorem zgf_ {dx:kR}{o o':HO}{k m:Hp}{ds':List D}(hs:Same F H)(dj:Dj F h)(sh:Same h H)(nt:∀p xs,h p≠uM (.tup xs))(jh:Jn (two p dx o) k h)(n':∀xs,o'≠.tup xs)(sm:Same m (un (two p dx o') k)){d:D}{v:V}{hr h2:Hp}(jk:Jn hr h2 m)
  (od:OD K d v F hr) (os:ODs K ds' vs F h2) (fin:∀v F' h' H' hr h2,Okk F (less H h) F' h' H'->Jn hr h2 h'->OD K d v F' hr->ODs K ds' vs F' h2->Q v H'):Q v (upd H p o'):=by
 have ok:=zbr_ hs dj sh nt;have hp:h p≠uN:=by rw[jh.l _ _ zqn_];exact sN _
 have bL:=zf9_ (h1':=h) (hr:=h) (h':=h) ok hp n' (un (two p dx o') k) λq=>by
  unfold un;rw[z7_];by_cases e:q=p
  ·rw[if_pos e,if_pos e]
  ·rw[if_neg e,if_neg e]
   rcases jh q with⟨a,b⟩|⟨a,b⟩
   ·rw[z7_,if_neg e]at a
    rw[b];split at a
    ·cases a
    ·rename_i z;rw[if_neg z]
   ·rw[a,b,z7_,if_neg e];split<;>(rename_i z;exact z.symm)
 exact fin v F _ _ hr h2 (zdy_ bL sm) jk od os
theorem ziN_:∀{ns:List Str}{us:List V}{f:Str}{v:V},f∈ns->ns.length=us.length->putF f v (ns.zip us)=ns.zip (us.set (ns.idxOf f) v)
 |[],_,_,_,h,_=>by simp at h
 |n::ns,[],_,_,_,l=>by simp at l
 |n::ns,u::us,f,v,h,l=>by
  rw[lV,putF];by_cases e:n=f
  ·subst e;rw[if_pos rfl];simp
  ·rw[if_neg e,ziN_ (by rcases lA.mp h with z |z;exact absurd z.symm e;exact z) (by simpa using l),sM,show(n == f)=uP from beq_eq_false_iff_ne.mpr e,cond_false,pj,lV]
def setFF (f:Str):Fn:=λds=>match ds with
 |[v,.nd (.obj c ns) xs]=>if ns.length<1000 then(if f∈ns then .ok .non [.gone,.nd (.obj c ns) (xs.set (ns.idxOf f) v)]else .ok .non [.gone,.nd (.obj c (ns++[f])) (xs++[v])])else .no
 |_=>.no
theorem zlH_ {dx:kR}{o o':HO}{a:Hp}(jb:Jn (two p dx o) a h):Dj (two p dx o') a:=λq=>by
 rcases jb.dj q with z |z
 ·left
  rw[z7_]at z ⊢;split at z
  ·cases z
  ·rename_i e;rw[if_neg e];exact z
 ·exact .inr z
theorem ods2 {a b:D}{x y:V}{h1 h2:Hp}(o1:OD K a x F h1)(o2:OD K b y F h2)(j2:Jn h1 h2 h):ODs K [a,b] [x,y] F h:=by
 unfold ODs;refine⟨x,[y],h1,h2,rfl,j2,o1,?_⟩;unfold ODs;exact⟨y,[],h2,λ_=>uN,rfl,no_r _ λ_=>rfl,o2,zcX_⟩
theorem zlj_ {x o:V}{n:Str}{v0:D}{c':Str}{ns:List Str}{ys:List D}{QQ:Hp->Prop}(h0:CtX K (setFF n) [v0,.nd (.obj c' ns) ys] [x,o] H (λv H'=>v=.non->QQ H') E):
  ∃a,o=.ref a/\∃dx fs,H a=uM (.ins (gA K c') dx fs)/\fs.length<1000/\QQ (upd H a (.ins (gA K c') dx (putF n x fs))):=by
 obtain⟨F,h,hs,dj,sh,os,fin⟩:=h0;have nt:=ze8_ os;unfold setFF at fin;dsimp only at fin
 ·split at fin
  ·rename_i hl
   obtain⟨h1,h2,h3,a,ja,jb,ov,orr,oi⟩:=recvV os;obtain⟨p,us,c0,hcc,rfl,cl,jc,oc⟩:=zkB_ orr;obtain⟨dx,dB,e0,el⟩:=cl;subst e0;unfold ODs at oi;have ea:a=h2:=by rw[zcc_ jb];funext q;unfold un;cases z:h2 q with |none=>exact oi.2 q |some o=>rfl
   subst ea;obtain⟨m,jm,jh⟩:=zk_ jc (zaa_ ja);have hp:H p=uM (.ins (gA K c') dx (ns.zip us)):=sh _ _ (jh.l _ _ zqn_);have d1:Dj h1 hcc:=λq=>(jm.dj q).symm
   refine⟨p,rfl,dx,ns.zip us,hp,by rw[mB,el,og,<- el];exact hl,?_⟩
   split at fin
   ·rename_i hn
    have hj:ns.idxOf n<ys.length:=by rw[ODs.len oc,<- el];exact nh.mpr hn
    obtain⟨u,k1,k2,eu,jk,ow,g⟩:=ODs.focus oc (kz hj);have d2:Dj h1 k2:=λq=>by rcases d1 q with z |z;exact .inl z;exact .inr (jk.r.free z)
    have on:=g v0 F x h1 (un h1 k2) (Same.refl _) ov (zai_ d2);have sm:Same (un h1 k2) m:=λq o e=>by
     unfold un at e;cases z:h1 q with
     |some w=>rw[z]at e;cases e;exact jm.r _ _ z
     |none=>rw[z]at e;exact jm.l _ _ (jk.r _ _ e)
    have dp:Dj (two p dx (.ins (gA K c') dx (ns.zip (us.set (ns.idxOf n) x)))) (un h1 k2):=λq=>by
     rcases zlH_ (o':=.ins (gA K c') dx (ns.zip (us.set (ns.idxOf n) x))) jh q with z |z
     ·exact .inl z
     ·exact .inr (sm.free z)
    rw[ziN_ hn el];refine zgf_ (vs:=[x,.ref p]) (m:=un (two p dx (.ins (gA K c') dx (ns.zip (us.set (ns.idxOf n) x)))) (un h1 k2)) (d:=.non) (v:=.non) (Q:=λv H'=>v=.non->QQ H') (hr:=λ_=>uN) hs dj sh nt jh (λxs z=>by cases z) (λq o e=>?_) (no_l _ λ_=>rfl) (zcK_ λ_=>rfl) (ods2 (zaM_ λ_=>rfl) ?_ (no_l _ λ_=>rfl)) fin rfl
    ·unfold un at e ⊢
     cases z:two p dx (.ins (gA K c') dx (ns.zip (us.set (ns.idxOf n) x))) q with
     |some w=>rw[z]at e;exact e
     |none=>rw[z]at e;exact sm _ _ e
    ·unfold OD
     exact⟨p,us.set (ns.idxOf n) x,_,un h1 k2,rfl,⟨dx,dB,rfl,by rw[mS];exact el⟩,zai_ dp,on⟩
   ·rename_i hn
    rw[zf1_ x hn el.symm];have on:=ODs.snoc oc ov jm;have dp:=zlH_ (o':=.ins (gA K c') dx ((ns++[n]).zip (us++[x]))) jh;refine zgf_ (vs:=[x,.ref p]) (m:=un (two p dx (.ins (gA K c') dx ((ns++[n]).zip (us++[x])))) m) (d:=.non) (v:=.non) (Q:=λv H'=>v=.non->QQ H') (hr:=λ_=>uN) hs dj sh nt jh (λxs z=>by cases z) (Same.refl _) (no_l _ λ_=>rfl) (zcK_ λ_=>rfl) (ods2 (zaM_ λ_=>rfl) ?_ (no_l _ λ_=>rfl)) fin rfl
    unfold OD;exact⟨p,us++[x],_,m,rfl,⟨dx,dB,rfl,by simp[el]⟩,zai_ dp,on⟩
  ·exact fin.elim
def tSFldA (K:lR)(cs:List Str)(t tv:TE)(f:Str):TS:=λN σ H=>∃c∈cs,mSFld (gA K c) t tv f N σ H
def clsAt (env:Env)(q:Pl):Option Str:=match atE env q with |some (.nd (.obj c _) _)=>uM c |_=>uN
def setFM (G:Gi)(n:Str)(p:Pt)(x:X)(env:Env):Mr Env Fl:=(evG G env [.x x,.l p]).bind λgs e=>match gs with
 |[g,.l q]=>(match clsAt e q with |some c=>if c∈G.cs then dropM (callG (setFF n) [g,.l q] e)else .no |none=>.no)
 |_=>.no
theorem zmb_ (g0:G.Ok K)(n:Str)(pt:Pt)(x:X):EvS K (tSFldA K G.cs (pt.x.den K G E) (x.den K G E) n) E ws env (setFM G n pt x env):=by
 intro F0 H0 σ F h H N hL ok fin;unfold setFM at fin;have main:∀c∈G.cs,(∀gs e,evG G env [.x x,.l pt]=.ok gs e->∃g q,gs=[g,.l q]/\clsAt e q=uM c)->tSFldA K G.cs (pt.x.den K G E) (x.den K G E) n N σ H:=λc hc hg=>⟨c,hc,by
  have:=zdD_ (K:=K) (E:=E) (ws:=ws) g0 [.x x,.l pt] env;rw[show X.dens K G E ([A.x x,.l pt].map A.t)=tCons (x.den K G E) (tCons (pt.x.den K G E) tNil)from rfl]at this
  have key:FinG K (evG G env [.x x,.l pt]) E ws σ F0 H0 H (λvs H2=>match vs with |[y,.ref a]=>∃dx fs,H2 a=uM (.ins (gA K c) dx fs)/\fs.length<1000/\N.nx σ (upd H2 a (.ins (gA K c) dx (putF n y fs)))|_=>False):=by
   cases e:evG G env [.x x,.l pt]with
   |no=>rw[e]at fin;exact fin
   |ex c e'=>rw[e]at fin;exact λF h H hL ok=>fin σ F h H hL ok
   |ok gs e'=>
    rw[e]at fin;obtain⟨g,q,rfl,ecl⟩:=hg gs e' e;dsimp only[Mr.bind]at fin;rw[ecl]at fin;dsimp only at fin;rw[if_pos hc]at fin;intro vs F1 hA hE h1 H1 aw ag j ax _;have fe:FinE K (callG (setFF n) [g,.l q] e') E ws σ F0 H0 (λv H'=>v=.non->N.nx σ H'):=by
     cases ec:callG (setFF n) [g,.l q] e' with
     |no=>rw[ec]at fin;exact fin
     |ex c e2=>rw[ec]at fin;exact λF h H hL ok=>fin σ F h H hL ok
     |ok d e2=>rw[ec]at fin;exact λv F hr h2 h H hL od j ok _=>fin σ F h H (Hold.more hL j) ok
    obtain⟨ds,er,cx⟩:=zfU_ aw ag j ax fe;have hlen:=zid_ ag;obtain⟨y,o,rfl⟩:=len2_ hlen;unfold clsAt at ecl;split at ecl
    ·rename_i c1 ns ys ea
     cases ecl;have ed:∃v0,ds=[v0,.nd (.obj c ns) ys]:=by
      cases g with
      |d v0=>simp[resolve,ea]at er;exact⟨v0,er.symm⟩
      |l q'=>
       cases eq':atE e' q' with
       |none=>simp[resolve,eq']at er
       |some v0=>simp[resolve,ea,eq']at er;exact⟨v0,er.symm⟩
     obtain⟨v0,rfl⟩:=ed;obtain⟨a,rfl,r⟩:=zlj_ cx;exact r
    ·cases ecl
  ·-- the same,read as an assignment
   have z:=this F0 H0 σ F h H _ hL ok key;unfold mSFld;unfold tCons tNil at z;have e:(λ(y:V) (H1:Hp)=>(pt.x.den K G E) σ H1 λo H2=>(match([y,o]:List V)with |[y,.ref a]=>∃dx fs,H2 a=uM (.ins (gA K c) dx fs)/\fs.length<1000/\N.nx σ (upd H2 a (.ins (gA K c) dx (putF n y fs)))|_=>False))=λy H1=>(pt.x.den K G E) σ H1 λo H2=>(match o with |.ref a=>∃dx fs,H2 a=uM (.ins (gA K c) dx fs)/\fs.length<1000/\N.nx σ (upd H2 a (.ins (gA K c) dx (putF n y fs)))|_=>False):=by
    funext y H1;congr 1;funext o H2;cases o<;>rfl
   have z2:=z;rw[e]at z2;exact z2⟩
 cases e:evG G env [.x x,.l pt]with
 |no=>rw[e]at fin;exact fin.elim
 |ex c e'=>
  cases b8:G.cs with
  |nil=>exact absurd b8 g0.cs
  |cons c0 cs=>
   have:=main c0 (by rw[b8];exact lj ..) λgs e2 z=>by rw[e]at z;cases z
   rw[b8]at this;exact this
 |ok gs e'=>
  rw[e]at fin;dsimp only[Mr.bind]at fin;split at fin
  ·rename_i g q
   cases ec:clsAt e' q with
   |none=>rw[ec]at fin;exact fin.elim
   |some c=>
    rw[ec]at fin;dsimp only at fin;by_cases hc:c∈G.cs
    ·exact main c hc λgs e2 z=>by rw[e]at z;cases z;exact⟨g,q,rfl,ec⟩
    ·rw[if_neg hc]at fin;exact fin.elim
  ·exact fin.elim
def setIM (G:Gi)(p:Pt)(k x:X)(env:Env):Mr Env Fl:=dropM ((evG G env [.x x,.l p,.x k]).bind (callG setIF))
theorem zly_ (g0:G.Ok K)(pt:Pt)(k x:X):EvS K (tAsg (x.den K G E) (gSub (pt.x.den K G E) (k.den K G E) rSetA)) E ws env (setIM G pt k x env):=by
 intro F0 H0 σ F h H N hL ok fin;unfold setIM at fin;have:=zdD_ (K:=K) (E:=E) (ws:=ws) g0 [.x x,.l pt,.x k] env;rw[show X.dens K G E ([A.x x,.l pt,.x k].map A.t)=tCons (x.den K G E) (tCons (pt.x.den K G E) (tCons (k.den K G E) tNil))from rfl]at this
 refine this F0 H0 σ F h H (λvs H2=>match vs with |[y,o,i]=>rSetA o i y H2 (N.nx σ)|_=>False) hL ok ?_
 cases e:evG G env [.x x,.l pt,.x k]with
 |no=>rw[e]at fin;exact fin
 |ex c e'=>rw[e]at fin;exact λF h H hL ok=>fin σ F h H hL ok
 |ok gs e'=>
  rw[e]at fin;intro vs F1 hA hE h1 H1 aw ag j ax _;have fin:FinS K (dropM (callG setIF gs e')) E ws F0 H0 N:=fin;have fe:FinE K (callG setIF gs e') E ws σ F0 H0 (λv H'=>v=.non->N.nx σ H'):=by
   cases ec:callG setIF gs e' with
   |no=>rw[ec]at fin;exact fin
   |ex c e2=>rw[ec]at fin;exact λF h H hL ok=>fin σ F h H hL ok
   |ok d e2=>rw[ec]at fin;exact λv F hr h2 h H hL od j ok _=>fin σ F h H (Hold.more hL j) ok
  have cx:=zcp_ aw ag j ax fe;have hlen:=zid_ ag;have jC:gs.length=3:=by
   have:∀{as:List A}{env e:Env}{gs:List Ag},evG G env as=.ok gs e->gs.length=as.length:=λ{as}=>by
    induction as with
    |nil=>intro env e gs h;unfold evG at h;cases h;rfl
    |cons a as ih=>
     intro env e gs h;cases a with
     |x y=>
      unfold evG at h;cases e1:stX G env y with
      |no=>rw[e1]at h;cases h
      |ex c t=>rw[e1]at h;cases h
      |ok d t=>
       rw[e1]at h;dsimp only[Mr.bind]at h;cases e2:evG G t as with
       |no=>rw[e2]at h;cases h
       |ex c t=>rw[e2]at h;cases h
       |ok gs' t'=>rw[e2]at h;cases h;rw[lp,lp,ih e2]
     |l p=>
      unfold evG at h;split at h
      ·cases e2:evG G env as with
       |no=>rw[e2]at h;cases h
       |ex c t=>rw[e2]at h;cases h
       |ok gs' t'=>rw[e2]at h;cases h;rw[lp,lp,ih e2]
      ·cases h
      ·cases h
   exact this e
  rw[jC]at hlen;obtain⟨y,o,i,rfl⟩:=len3_ hlen;exact zpf_ cx
theorem zdK_ (g0:G.Ok K){pt:Pt}(hL:Hold (LofW K ws env) σ F h)(ok:Okk F0 H0 F h H)(e:pt.ev G env=.ok q)(hc:atE env q=uM c)
  (hk:∀u F1 H1 k1 v,Okk F0 H0 F1 h H1->Hold (LofW K ws env) σ F1 h->Same k1 h->OD K c u F1 k1->σ[q.1]?=uM (uM v)->vAt H1 v q.2=uM u->Q u H1):pt.x.den K G E σ H Q:=by
 refine Pt.sound g0 pt E env σ (un F h) H _ (zco_ (hL.froz ok.2.1)) ok.thaw ?_;rw[e];intro F1 H1 v u c' x1 hv hu _ _;obtain⟨o1,hsF,ht⟩:=ok.back x1;rcases ze2_ env q.1 with⟨d,hd⟩|hd
 ·rw[zX_ hd]at hc
  obtain⟨v',u',k1,k2,ev,vp,j,oc,_⟩:=zbO_ hL hd hc;rw[hv]at ev;cases ev;cases lP ((zb2_ x1.2.2.1 (vp H ok.1.2.1 ok.2.2.1)).symm.trans hu);exact hk u _ H1 k1 v o1 (hL.mono hsF) j.l (oc.mono hsF) hv hu
 ·unfold atE at hc;split at hc
  ·rename_i d z;exact absurd z (hd d)
  ·cases hc
theorem pt_ex (g0:G.Ok K){pt:Pt}{x:Xc}(hL:Hold (LofW K ws env) σ F h)(ok:Okk F0 H0 F h H)(e:pt.ev G env=.ex x)(fin:∀F h H,Hold (LofW K ws env) σ F h->Okk F0 H0 F h H->Tell K E x H0 F H):pt.x.den K G E σ H Q:=by
 refine Pt.sound g0 pt E env σ (un F h) H _ (zco_ (hL.froz ok.2.1)) ok.thaw ?_;rw[e];exact λF' H' y=>(fin _ _ _ (hL.mono (ok.back y).2.1) (ok.back y).1).back ok y
def lentG (G:Gi)(env:Env)(p:Pt)(as:List A)(ok:D->Bool)(k:Pl->List Ag->Env->Mr Env D):Mr Env D:=match p.ev G env with
 |.ok q=>(match atE env q with |some c=>if ok c then(evG G env as).bind (k q)else .no |none=>.no)
 |.ex c=>.ex c env
 |.no=>.no
theorem ziX_ {gs:List Ag}{v:V}{hA:Hp}(ev:σ[q.1]?=uM (uM v))(vp:vAt H1 v q.2=uM u)(sm:Same H1 H2)(ag:AgR K σ F2 H2 gs vs hA):AgR K σ F2 H2 (.l q::gs) (u::vs) hA:=⟨u,v,vs,rfl,ev,zb2_ sm vp,ag⟩
def isK (T:String)(c:D):Bool:=match c with |.nd .lst _=>T=="list" |.nd (.dct _) _=>T=="dict" |_=>uP
theorem zqf_ {T:String}(h0:isK T c=uO)(oc:OD K c u F k)(sF:Same F H)(sk:Same k H):tyV K T u H:=by
 unfold isK at h0;split at h0
 ·obtain⟨p,us,c0,hc,rfl,cl,jc,_⟩:=zkB_ oc
  have e0:c0=one p (.lst us):=cl;subst e0;have:T="list":=by simpa using h0
  exact .inl ⟨this,us,.of (sk _ _ (jc.l _ _ zq_))⟩
 ·obtain⟨p,us,c0,hc,rfl,cl,jc,_⟩:=zkB_ oc
  obtain⟨e0,_⟩:=cl;subst e0;have:T="dict":=by simpa using h0
  exact .inr (.inr (.inl ⟨this,.inl ⟨_,sk _ _ (jc.l _ _ zq_)⟩⟩))
 ·cases h0
theorem ee_bm (g0:G.Ok K){T:String}{r:V->List V->Hp->VK->Prop}(b:BmOk K r f)(pt:Pt)(as:List A):EvE K (tBM K T r (pt.x.den K G E) (X.dens K G E (as.map A.t))) E ws env (lentG G env pt as (isK T) λq gs e=>callG f (.l q::gs) e):=by
 intro F0 H0 σ F h H Q hL ok fin;unfold lentG at fin;cases e:pt.ev G env with
 |no=>rw[e]at fin;exact fin.elim
 |ex c=>rw[e]at fin;exact pt_ex g0 hL ok e fin
 |ok q=>
  rw[e]at fin;dsimp only at fin;cases hc:atE env q with
  |none=>rw[hc]at fin;exact fin.elim
  |some c=>
   rw[hc]at fin;dsimp only at fin;by_cases hk:isK T c=uO
   rotate_left
   ·rw[if_neg hk]at fin;exact fin.elim
   rw[if_pos hk]at fin;refine zdK_ g0 hL ok e hc λu F1 H1 k1 v o1 aw sk oc ev vp=>⟨zqf_ hk oc o1.1.2.1 (sk.trans o1.2.2.1),?_⟩
   refine zdD_ (K:=K) (E:=E) (ws:=ws) g0 as env F0 H0 σ F1 h H1 _ aw o1 ?_;cases eg:evG G env as with
   |no=>rw[eg]at fin;exact fin
   |ex x e'=>rw[eg]at fin;exact fin
   |ok gs e'=>
    rw[eg]at fin;intro vs F2 hA hE h2 H2 bC ag j aA sm;exact b u vs H2 Q E (zcp_ bC (ziX_ ev vp sm ag) j aA fin)
theorem zoO_ (g0:G.Ok K){T:String}{r:V->List V->Hp->VK->Prop}(b:BmOk K r f)(pt:Pt):EvE K (tBM0 K T r (pt.x.den K G E)) E ws env (lentG G env pt [] (isK T) λq gs e=>callG f (.l q::gs) e):=by
 intro F0 H0 σ F h H Q hL ok fin;have:=ee_bm (ws:=ws) (env:=env) (E:=E) g0 (T:=T) b pt [] F0 H0 σ F h H Q hL ok fin;exact this
def setdF:Fn:=λds=>match ds with
 | [.nd (.dct ks) ys,key,v]=>if v.cold then(match keyD key with
   |some k'=>if kIx ks k'<ks.length then(match ys[kIx ks k']? with |some y=>if y.cold then .ok y [.nd (.dct ks) ys,key,v]else .no |none=>.no)
    else if ys.length<lg then .ok v [.nd (.dct (ks++[k'])) (ys++[v]),key,v]else .no
   |none=>.no)else .no
 |_=>.no
def rSetd:V->List V->Hp->VK->Prop:=λx xs H Q=>match xs with
 |[y,z]=>atD x y H λa kvs k=>match valV kvs k with |some v=>Q v H |none=>kvs.length<lg/\Q z (upd H a (.dK (putK kvs k z)))
 |_=>False
theorem zkX_ {ks:List Key}{us:List V}{k:Key}(hk:k∉ks):valV (ks.zip us) k=uN:=by
 unfold valV;rw[List.find?_eq_none.mpr]
 ·rfl
 ·intro q hq z
  exact hk (by have:=(nX (a:=q.1) (b:=q.2) hq).1;simp at z;rw[<- z];exact this)
theorem zku_:∀{d:D}{k:Key},keyD d=uM k->d.cold=uO:=λ{d}=>by
 cases d with
 |nd=>intro k e;cases e
 |_=>intro k e;rfl
theorem zmm_:BmOk K rSetd setdF:=by
 rintro x xs H Q E ⟨F,h,ds,hs,dj,sh,os,fin⟩;have nt:=ze8_ os;have iX:=os;unfold setdF at fin;split at fin
 ·rename_i ks ys key v0
  split at fin
  rotate_left
  ·exact fin.elim
  rename_i hc
  unfold ODs at os;obtain⟨xr,vs1,hA,hB,e1,jA,oR,os1⟩:=os;unfold ODs at os1;obtain⟨xk,vs2,hK,hV,e2,jK,oK,os2⟩:=os1;unfold ODs at os2;obtain⟨xz,vs3,hZ,hN,e3,jZ,oZ,os3⟩:=os2;unfold ODs at os3;obtain⟨e4,nN⟩:=os3;cases e1;subst e2;subst e3;subst e4;obtain⟨nZ,rZ⟩:=OD.cold hc oZ;cases ek:keyD key with
  |none=>rw[ek]at fin;exact fin.elim
  |some k'=>
   rw[ek]at fin;dsimp only at fin;obtain⟨nK,rK⟩:=OD.cold (zku_ ek) oK;have kv:=zlf_ ek rK;obtain⟨p,us,c0,aB,rfl,cl,jc,oc⟩:=zkB_ oR;obtain⟨e0,el,nd⟩:=cl;subst e0;have nV:∀q,hV q=uN:=λq=>by rw[zcc_ jZ];unfold un;rw[nZ q];exact nN q
   have nB:∀q,hB q=uN:=λq=>by rw[zcc_ jK];unfold un;rw[nK q];exact nV q
   have eh:h=hA:=by rw[zcc_ jA];funext q;unfold un;cases z:hA q with |none=>exact nB q |some o=>rfl
   subst eh;have hp:H p=uM (.dK (ks.zip us)):=sh _ _ (jc.l _ _ zq_);have zK:hK=λ_=>uN:=funext nK
   have zZ:hZ=λ_=>uN:=funext nZ
   split at fin
   ·rename_i hk
    cases ey:ys[kIx ks k']? with
    |none=>rw[ey]at fin;exact fin.elim
    |some y=>
     rw[ey]at fin;dsimp only at fin;split at fin
     rotate_left
     ·exact fin.elim
     rename_i hy
     obtain⟨u,k1,k2,eu,jk,ow,g⟩:=ODs.focus oc ey;obtain⟨n1,r1⟩:=OD.cold hy ow;unfold rSetd;refine zeb_ rfl kv.1 hp ?_;rw[zfS_ eu hk];have:k1=λ_=>uN:=funext n1
     rw[this]at ow;exact fin u F h H (λ_=>uN) h (zbr_ hs dj sh nt) (no_l _ λ_=>rfl) ow iX
   ·rename_i hk
    split at fin
    rotate_left
    ·exact fin.elim
    rename_i hl
    have bq:k'∉ks:=λz=>hk (zdU_.mpr z)
    unfold rSetd;refine zeb_ rfl kv.1 hp ?_;rw[zkX_ bq];refine⟨by rw[mB,el,og,<- ODs.len oc];exact hl,?_⟩
    rw[zg9_ bq el];have on:=ODs.snoc oc oZ (no_r _ nZ);have dp:=ze6_ (o':=.dK ((ks++[k']).zip (us++[xz]))) jc;rw[zK]at oK;rw[zZ]at oZ;have o1:OD K (.nd (.dct (ks++[k'])) (ys++[v0])) (.ref p) F (un (one p (.dK ((ks++[k']).zip (us++[xz])))) aB):=by
     unfold OD;exact⟨p,us++[xz],_,aB,rfl,⟨rfl,by simp[el],p9.mpr ⟨nd,by simp,by rintro a ha b hb rfl;simp at hb;subst hb;exact bq ha⟩⟩,zai_ dp,on⟩
    exact zey_ (vs:=[.ref p,xk,xz]) (m:=un (one p (.dK ((ks++[k']).zip (us++[xz])))) aB) (d:=v0) (v:=xz) (Q:=Q) (hr:=λ_=>uN) hs dj sh nt jc (λxs z=>by cases z) (Same.refl _) (no_l _ λ_=>rfl) oZ (ods3 o1 oK oZ (no_l _ λ_=>rfl) (no_r _ λ_=>rfl)) fin
 ·exact fin.elim
theorem znI_ (g0:G.Ok K)(pt:Pt)(k v:X):EvE K (mSetD (pt.x.den K G E) (k.den K G E) (v.den K G E)) E ws env (lentG G env pt [.x k,.x v] (isK "dict") λq gs e=>callG setdF (.l q::gs) e):=by
 intro F0 H0 σ F h H Q hL ok fin;unfold lentG at fin;cases e:pt.ev G env with
 |no=>rw[e]at fin;exact fin.elim
 |ex c=>rw[e]at fin;exact pt_ex g0 hL ok e fin
 |ok q=>
  rw[e]at fin;dsimp only at fin;cases hc:atE env q with
  |none=>rw[hc]at fin;exact fin.elim
  |some c=>
   rw[hc]at fin;dsimp only at fin;by_cases hk:isK "dict" c=uO
   rotate_left
   ·rw[if_neg hk]at fin;exact fin.elim
   rw[if_pos hk]at fin;refine zdK_ g0 hL ok e hc λu F1 H1 k1 v0 o1 aw sk oc ev vp=>⟨?_,?_⟩
   ·unfold isK at hk
    split at hk
    ·cases hk
    ·obtain⟨p,us,c0,hc,rfl,cl,jc,_⟩:=zkB_ oc
     obtain⟨e0,_⟩:=cl;subst e0;exact⟨_,(sk.trans o1.2.2.1) _ _ (jc.l _ _ zq_)⟩
    ·cases hk
   ·have key:=zdD_ (K:=K) (E:=E) (ws:=ws) g0 [.x k,.x v] env F0 H0 σ F1 h H1 (λvs H2=>rSetd u vs H2 Q) aw o1
    rw[show X.dens K G E ([A.x k,.x v].map A.t)=tCons (k.den K G E) (tCons (v.den K G E) tNil)from rfl]at key
    refine key ?_;cases eg:evG G env [.x k,.x v]with
    |no=>rw[eg]at fin;exact fin
    |ex x e'=>rw[eg]at fin;exact fin
    |ok gs e'=>
     rw[eg]at fin;intro vs F2 hA hE h2 H2 bC ag j aA sm;exact zmm_ u vs H2 Q E (zcp_ bC (ziX_ ev vp sm ag) j aA fin)
end
inductive Bm where
 |append |extend
noncomputable def Bm.ty:Bm->String
 |_ => "list"
def Bm.r:Bm->V->List V->Hp->VK->Prop
 |.append=>rAppend |.extend=>rExtend
def Bm.f:Bm->Fn
 |.append=>appendF |.extend=>extendF
theorem bm_ok {K:lR}(o:Bm):BmOk K o.r o.f:=by
 cases o with
 |append=>exact zic_
 |extend=>exact zhw_
inductive Y where
 |pu (x:X)|mv (i:Nat)
 |call (f:Fn) (x:Str) (as:List A)
 |bm (o:Bm) (p:Pt) (as:List A)
 |bin (o:Bo) (y z:Y)
 |sd (p:Pt) (k v:X)
 |not (y:Y)
inductive S where
 |asg (i:Nat) (y:Y)
 |setF (p:Pt) (n:Str) (x:X)|setI (p:Pt) (k x:X)
 |ex (y:Y)|ret (y:Y)|retN
 |if_ (c:X) (a b:List S)|ifY (c:Y) (a b:List S)|ifL (c:X) (a b:List S)
 |for_ (ik:Ik) (src:List X) (tg:Tg) (b:List S)
 |pass |cont |never
 |try0 (b a8:List S)
section
variable (K:mj)(G:Gi)
def Y.den (E:XK):Y->TE
 |.pu x=>x.den K G E
 |.mv i=>mVar i
 |.call f _ as=>tCall (CtG K f) [] E (X.dens K G E (as.map A.t))
 |.bm o p as=>(match as with |[]=>tBM0 K o.ty o.r (p.x.den K G E)|_=>tBM K o.ty o.r (p.x.den K G E) (X.dens K G E (as.map A.t)))
 |.bin o y z=>tOp (o.r K) (y.den E) (z.den E)
 |.sd p k v=>mSetD (p.x.den K G E) (k.den K G E) (v.den K G E)
 |.not y=>mNotV (y.den E)
mutual
def S.den (E:XK):S->TS
 |.asg i y=>tAsg (y.den K G E) (gName i)
 |.setF p n x=>tSFldA K G.cs (p.x.den K G E) (x.den K G E) n
 |.setI p k x=>tAsg (x.den K G E) (gSub (p.x.den K G E) (k.den K G E) rSetA)
 |.ex y=>tDrop (y.den K G E)
 |.ret y=>tRet (y.den K G E)
 |.retN=>tRetN
 |.if_ c a b=>mIfS (mTest (c.den K G E)) (S.dens E a) (S.dens E b)
 |.ifY c a b=>mIfS (mTest (c.den K G E)) (S.dens E a) (S.dens E b)
 |.ifL c a b=>mIfS (mTrL K (c.den K G E)) (S.dens E a) (S.dens E b)
 |.for_ ik src tg b=>tFor (ik.t K (X.dens K G E src)) (tgT K tg) (S.dens E b)
 |.pass=>tNext
 |.cont=>tCont
 |.never=>tNever
 |.try0 b a8=>tSeq (S.dens E0 b) (S.dens E a8)
def S.dens (E:XK):List S->TS
 |[]=>tNext
 |s::ss=>tSeq (s.den E) (S.dens E ss)
end
end
def trD (d:D):Mo Bool:=match d.un with |.bl b=>.ok b |.nd .lst xs=>.ok (!xs.isEmpty)|_=>.no
theorem zqK_ {K:lR}{E:XK}{env:Env}{t:TE}{r:Mo D}(h:EvX K t E env r):EvT K (mTrL K t) E (Lof K env) (r.bind trD):=by
 intro σ F H Q hL hs q;refine ex_v h σ F H _ hL hs (q.bind.imp λa F1 H1 x1 k1 v1 aN=>?_)
 have ha:=DR.un aN;unfold trD at k1;split at k1
 ·rename_i b e;rw[e]at ha;cases ha.bl;exact k1.ok x1.2.1
 ·rename_i xs e;rw[e]at ha;obtain⟨p,us,rfl,n,r⟩:=ha.nd
  refine⟨us,.of (x1.2.1 _ _ n),?_⟩;rw[show us.isEmpty=xs.isEmpty from by have:=r.len;cases us<;>cases xs<;>first |rfl |cases this]
  exact k1.ok x1.2.1
 ·exact k1.elim
def moTo {α:Type}(m:Mo α)(e:Env):Mr Env α:=match m with |.ok a=>.ok a e |.ex c=>.ex c e |.no=>.no
def noEx (r:Mr Env Fl):Mr Env Fl:=match r with |.ex _ _=>.no |r=>r
section
variable (G:Gi)
def mvM (env:Env)(i:Nat):Mr Env D:=match env[i]? with |some (uM d)=>.ok d (env.set i uN)|_=>.no
def Y.ev:Y->Env->Mr Env D
 |.pu x,env=>stX G env x
 |.mv i,env=>mvM env i
 |.call f _ as,env=>(evG G env as).bind (callG f)
 |.bm o p as,env=>lentG G env p as (isK o.ty) λq gs e=>callG o.f (.l q::gs) e
 |.bin o y z,env=>(y.ev env).bind λd e=>(z.ev e).bind λd2 e2=>moTo (o.f d d2) e2
 |.sd p k v,env=>lentG G env p [.x k,.x v] (isK "dict") λq gs e=>callG setdF (.l q::gs) e
 |.not y,env=>(y.ev env).bind λd e=>moTo ((blD d).bind λb=>.ok (.bl (!b))) e
mutual
def S.run:(Nat->Bool)->S->Env->Mr Env Fl
 |pn,.asg i y,env=>asgM pn i (y.ev G env)
 |pn,.setF p n x,env=>setFM G n p x env
 |pn,.setI p k x,env=>setIM G p k x env
 |pn,.ex y,env=>dropM (y.ev G env)
 |pn,.ret y,env=>retM (y.ev G env)
 |pn,.retN,env=>.ok (.rt .non) env
 |pn,.if_ c a b,env=>ifM env ((c.ev G env).bind blD) (S.runs pn a env) (S.runs pn b env)
 |pn,.ifY c a b,env=>(c.ev G env).bind λd e=>ifM e (blD d) (S.runs pn a e) (S.runs pn b e)
 |pn,.ifL c a b,env=>ifM env ((c.ev G env).bind trD) (S.runs pn a env) (S.runs pn b env)
 |pn,.for_ ik src tg b,env=>forS pn ik tg (evG G env (src.map .x)) (λe=>S.runs pn b e)
 |pn,.pass,env=>.ok .nx env
 |pn,.cont,env=>.ok .ct env
 |pn,.never,env=>.no
 |pn,.try0 b a8,env=>seqM (noEx (S.runs pn b env)) λe=>S.runs pn a8 e
def S.runs:(Nat->Bool)->List S->Env->Mr Env Fl
 |pn,[],env=>.ok .nx env
 |pn,s::ss,env=>seqM (S.run pn s env) (λe=>S.runs pn ss e)
end
end
section
variable {K:mj}{E:XK}{F F0 H0 h H:Hp}{env:Env}{t:TE}{ws:Ws}{G:Gi}{i:Nat}{pn:Nat->Bool}{s1 s2:TS}
theorem ee_mv:EvE K (mVar i) E ws env (mvM env i):=by
 intro F0 H0 σ F h H Q hL ok fin;unfold mvM at fin;split at fin
 ·rename_i d hd
  obtain⟨o,k1,k2,e1,j,pp,g⟩:=Hold.atG hL (zbl_ hd);obtain⟨v,rfl,hv,od⟩:=zdk_ pp;unfold mVar;rw[e1];refine fin v F k1 k2 h H ?_ od j ok;have:=g (slotW K (ws i) uN) (uM v) F (λ_=>uN) k2 (Same.refl _) trivial (no_l _ λ_=>rfl)
  rw[zcF_,zcB_ e1]at this;exact this
 ·exact fin.elim
theorem ziU_ {m:Mo D}{e:Env}{σ:L2.St}{Q:VK}{hE:Hp}(hL:Hold (LofW K ws e) σ F hE)(ok:Okk F0 H0 F hE H)(fin:FinE K (moTo m e) E ws σ F0 H0 Q):After K m E F H (OwnK (owD K) H Q):=by
 cases m with
 |no=>exact fin
 |ex c=>exact λF' H' x=>Tell.up ok.1.2.2.1 (fin F' hE H' (hL.mono x.1) (ok.cold x))
 |ok d=>
  intro F' H' x v hn fresh dj s o;have o1:=ok.cold x;have dh:Dj hn hE:=zkM_ ok.2.2.1 fresh;refine fin v F' hn hE (un hn hE) H' (hL.mono x.1) o (zai_ dh) ⟨o1.1,λp=>?_,λp o e=>?_,λp z=>?_,λp xs z=>?_⟩
  ·unfold un
   cases z:hn p with
   |some w=>
    rcases dj p with y |y
    ·exact .inl y
    ·rw[y]at z;cases z
   |none=>exact o1.2.1 p
  ·unfold un at e
   cases z:hn p with
   |some w=>rw[z]at e;cases e;exact s _ _ z
   |none=>rw[z]at e;exact o1.2.2.1 _ _ e
  ·unfold un at z
   cases y:hn p with
   |some w=>exact ok.1.2.2.1.free (fresh p (by rw[y];exact sN _))
   |none=>rw[y]at z;exact ok.2.2.2.1 p z
  ·unfold un at z
   cases y:hn p with
   |some w=>rw[y]at z;cases z;exact OD.notup o p xs y
   |none=>rw[y]at z;exact ok.2.2.2.2 p xs z
theorem zhI_ {d:D}{v:V}{hr hE:Hp}(od:OD K d v F hr)(j:Jn hr hE h)(ok:Okk F0 H0 F h H):DR K d v (un F hr)/\Same F (un F hr)/\Okk F0 H0 (un F hr) hE H:=by
 obtain⟨a,b,c⟩:=zja_ (ds:=[d]) (vs:=[v]) (by unfold ODs;exact⟨v,[],hr,λ_=>uN,rfl,no_r _ λ_=>rfl,od,zcX_⟩) j ok
 obtain⟨v',e,r⟩:=DRs.one a;cases e;exact⟨r,b,c⟩
theorem zqp_ {o:Bo}{r:Mr Env D}{g:Env->Mr Env D}{t2:TE}(h1:EvE K t E ws env r)(h2:∀e,EvE K t2 E ws e (g e)):EvE K (tOp (o.r K) t t2) E ws env (r.bind λd e=>(g e).bind λd2 e2=>moTo (o.f d d2) e2):=by
 intro F0 H0 σ F h H Q hL ok fin;refine h1 F0 H0 σ F h H _ hL ok ?_;cases r with
 |no=>exact fin
 |ex c e=>exact fin
 |ok d e=>
  intro v F1 hr hE h' H1 aw od j ax;obtain⟨dr,sF,aA⟩:=zhI_ od j ax;have fE:Jn (λ_=>uN) hE hE:=no_l _ λ_=>rfl
  have ob:=zg8_ aA fE;have hU:∀x:Hp,un (λ_=>uN) x=x:=λx=>rfl
  refine h2 e _ (less H1 hE) σ _ hE H1 _ (aw.mono sF) ob ?_;dsimp only[Mr.bind]at fin;cases e2:g e with
  |no=>rw[e2]at fin;exact fin
  |ex c e'=>
   rw[e2]at fin;intro F2 h2 H2 bC bc;obtain⟨s,_,ok4⟩:=zaE_ aA fE bc;rw[hU]at ok4;exact zbW_ aA fE (fin F2 h2 H2 bC ok4)
  |ok d2 e'=>
   rw[e2]at fin;intro v2 F2 c7 eV aL H2 bC fw j2 bc;obtain⟨s,_,ok4⟩:=zaE_ aA fE bc;rw[hU]at ok4;obtain⟨j4,sF2,ok5⟩:=zhI_ fw j2 ok4;exact zjB_ o d d2 v v2 _ H2 Q ok5.1.2.1 (dr.mono (s.trans sF2)) j4 (ziU_ (bC.mono sF2) ok5 fin)
theorem zrc_ {r:Mr Env D}(h1:EvE K t E ws env r):EvE K (mNotV t) E ws env (r.bind λd e=>moTo ((blD d).bind λb=>.ok (.bl (!b))) e):=by
 intro F0 H0 σ F h H Q hL ok fin;refine h1 F0 H0 σ F h H _ hL ok ?_;cases r with
 |no=>exact fin
 |ex c e=>exact fin
 |ok d e=>
  intro v F1 hr hE h' H1 aw od j ax;obtain⟨dr,sF,aA⟩:=zhI_ od j ax;have k1:=ziU_ (m:=(blD d).bind λb=>.ok (.bl (!b))) (aw.mono sF) aA fin
  have ha:=DR.un dr;unfold blD at k1;split at k1
  ·rename_i b e2;rw[e2]at ha;cases ha.bl;exact gotB k1 aA.1.2.1
  ·exact k1.elim
theorem Y.sound (g0:G.Ok K):∀(y:Y) (env:Env),EvE K (y.den K G E) E ws env (y.ev G env)
 |.pu x,env=>ee_x g0 x
 |.mv i,env=>ee_mv
 |.call f x as,env=>zmI_ (zdD_ g0 as env)
 |.bm o p as,env=>by
  cases as with
  |nil=>exact zoO_ g0 (bm_ok o) p
  |cons a as=>exact ee_bm g0 (bm_ok o) p (a::as)
 |.bin o y z,env=>zqp_ (Y.sound g0 y env) λe=>Y.sound g0 z e
 |.sd p k v,env=>znI_ g0 p k v
 |.not y,env=>zrc_ (Y.sound g0 y env)
theorem zqN_ {r:Mr Env D}{g1 g2:Env->Mr Env Fl}(he:EvE K t E ws env r)(d8:∀e,EvS K s1 E ws e (g1 e))(aQ:∀e,EvS K s2 E ws e (g2 e)):EvS K (mIfS (mTest t) s1 s2) E ws env (r.bind λd e=>ifM e (blD d) (g1 e) (g2 e)):=by
 intro F0 H0 σ F h H N hL ok fin;refine he F0 H0 σ F h H _ hL ok ?_;cases r with
 |no=>exact fin
 |ex c e=>exact λF h H hL ok=>fin σ F h H hL ok
 |ok d e=>
  intro v F1 hr hE h1 H1 aw od j ax;obtain⟨dr,sF,aA⟩:=zhI_ od j ax;have ha:=DR.un dr;have fin:FinS K (ifM e (blD d) (g1 e) (g2 e)) E ws F0 H0 N:=fin;unfold blD at fin;split at fin
  ·rename_i b e2
   rw[e2]at ha;cases ha.bl;refine⟨λz=>?_,λz=>?_⟩
   ·subst z;exact d8 e F0 H0 σ _ hE H1 N (aw.mono sF) aA fin
   ·subst z;exact aQ e F0 H0 σ _ hE H1 N (aw.mono sF) aA fin
  ·exact fin.elim
theorem znU_ {t:TS}{r:Mr Env Fl}(h:EvS K t E0 ws env r):EvS K t E ws env (noEx r):=by
 intro F0 H0 σ F h0 H N hL ok fin;refine h F0 H0 σ F h0 H N hL ok ?_;cases r with
 |no=>exact fin
 |ex c e=>exact fin.elim
 |ok a e=>cases a<;>exact fin
theorem map_x (as:List X):(as.map A.x).map A.t=as:=by
 rw[lY];exact(nC λa _=>rfl).trans (qT _)
mutual
theorem S.sound (g0:G.Ok K):∀(s:S) {pn:Nat->Bool}{ws:Ws}(hp:∀i,pn i=uP->ws i=uN) {E:XK}(env:Env),EvS K (s.den K G E) E ws env (S.run G pn s env)
 |.asg i y,pn,ws,hp,E,env=>zpu_ hp (Y.sound g0 y env)
 |.setF p n x,pn,ws,hp,E,env=>zmb_ g0 n p x
 |.setI p k x,pn,ws,hp,E,env=>zly_ g0 p k x
 |.ex y,pn,ws,hp,E,env=>zma_ (Y.sound g0 y env)
 |.ret y,pn,ws,hp,E,env=>zqZ_ (Y.sound g0 y env)
 |.retN,pn,ws,hp,E,env=>zmo_
 |.if_ c a b,pn,ws,hp,E,env=>es_if (zfY_ (X.sound g0 c E env)) (S.sounds g0 a hp env) (S.sounds g0 b hp env)
 |.ifL c a b,pn,ws,hp,E,env=>es_if (zqK_ (X.sound g0 c E env)) (S.sounds g0 a hp env) (S.sounds g0 b hp env)
 |.ifY c a b,pn,ws,hp,E,env=>zqN_ (Y.sound g0 c env) (λe=>S.sounds g0 a hp e) λe=>S.sounds g0 b hp e
 |.for_ ik src tg b,pn,ws,hp,E,env=>by
  have:=zdD_ (K:=K) (E:=E) (ws:=ws) g0 (src.map .x) env;rw[map_x]at this;exact zq6_ hp this λe=>S.sounds g0 b hp e
 |.pass,pn,ws,hp,E,env=>ziF_
 |.cont,pn,ws,hp,E,env=>zol_
 |.never,pn,ws,hp,E,env=>λF0 H0 σ F h H N hL ok fin=>fin.elim
 |.try0 b a8,pn,ws,hp,E,env=>by
  show EvS K (tSeq (S.dens K G E0 b) (S.dens K G E a8)) E ws env (seqM (noEx (S.runs G pn b env)) λe=>S.runs G pn a8 e)
  exact znf_ (znU_ (S.sounds g0 b hp env)) λe=>S.sounds g0 a8 hp e
theorem S.sounds (g0:G.Ok K):∀(ss:List S) {pn:Nat->Bool}{ws:Ws}(hp:∀i,pn i=uP->ws i=uN) {E:XK}(env:Env),EvS K (S.dens K G E ss) E ws env (S.runs G pn ss env)
 |[],pn,ws,hp,E,env=>ziF_
 |s::ss,pn,ws,hp,E,env=>znf_ (S.sound g0 s hp env) λe=>S.sounds g0 ss hp e
end
end
def pins (ds:List D)(i:Nat):Bool:=match ds[i]? with |some d=>!d.cold |none=>uP
def outs:List D->Env->List D
 |[],_=>[]
 |d::ds,o::env=>(if d.cold then d else match o with |some d'=>d' |none=>.gone)::outs ds env
 |d::ds,[]=>(if d.cold then d else .gone)::outs ds []
def fnOf (G:Gi)(n m:Nat)(body:List S):Fn:=λds=>if ds.length=n then(match S.runs G (pins ds) body (ds.map uM++lu m uN)with
 |.ok (.rt d) env=>.ok d (outs ds env)
 |.ok .nx env=>.ok .non (outs ds env)
 |.ex c env=>.ex c (outs ds env)
 |_=>.no)else .no
section
variable {K:mj}{E:XK}{F F' h H:Hp}{env:Env}{ws:Ws}{G:Gi}{σ:L2.St}
theorem zbF_ {o:Option D}:LofW K ws (o::env)=slotW K (ws 0) o::LofW K (λi=>ws (i+1)) env:=by
 show List.mapIdx _ _=_
 rw[List.mapIdx_cons]
theorem zc2_:∀(m:Nat) {ws:Ws}{h:Hp},Hold (LofW K ws (lu m uN)) (lu m uN) F h
 |0,ws,h=>trivial
 |m+1,ws,h=>by
  rw[mL,mL,zbF_];exact⟨λ_=>uN,h,no_l _ λ_=>rfl,trivial,zc2_ m⟩
def wsOf (ds:List D)(vs:List V):Ws:=λi=>if pins ds i then vs[i]? else uN
theorem zet_ (m:Nat):∀{ds:List D}{vs:List V}{h:Hp}{ws:Ws},(∀(i:Nat) u,ws i=uM u->vs[i]?=uM u)->ODs K ds vs F h->Hold (LofW K ws (ds.map uM++lu m uN)) (vs.map uM++lu m uN) F h
 |[],_,h,ws,hw,q=>by
  unfold ODs at q;rw[q.1];exact zc2_ m
 |d::ds,_,h,ws,hw,q=>by
  unfold ODs at q;obtain⟨v,vs,h1,h2,rfl,j,o,r⟩:=q;rw[kX,kX,l0,l0,zbF_];exact⟨h1,h2,j,zcA_ (λu z=>by have:=hw 0 u z;simpa using this) o,zet_ m (λi u z=>by have:=hw (i+1) u z;simpa using this) r⟩
theorem za1_:∀{ds:List D}{vs:List V}{env:Env}{σ:L2.St}{h h0:Hp}{ws:Ws},(∀(i:Nat) d,ds[i]?=uM d->d.cold=uP->ws i=vs[i]?)->ODs K ds vs F h0->Same F F'->Hold (LofW K ws env) σ F' h->∃h3,Same h3 h/\ODs K (outs ds env) vs F' h3
 |[],_,env,σ,h,h0,ws,hw,q,s,hL=>by
  unfold ODs at q;rw[q.1];refine⟨λ_=>uN,(λp o z=>by cases z),?_⟩
  unfold outs ODs;exact⟨rfl,λ_=>rfl⟩
 |d::ds,_,[],σ,h,h0,ws,hw,q,s,hL=>by
  unfold ODs at q;obtain⟨v,vs,h1,h2,rfl,j,od,r⟩:=q;obtain⟨h3,s3,os⟩:=za1_ (env:=[]) (σ:=σ) (h:=h) (ws:=λi=>ws (i+1)) (λi d' e c=>by have:=hw (i+1) d' (by simpa using e) c;simpa using this) r s hL
  refine⟨h3,s3,?_⟩;unfold outs ODs;refine⟨v,vs,λ_=>uN,h3,rfl,no_l _ λ_=>rfl,?_,os⟩
  by_cases hc:d.cold=uO
  ·rw[if_pos hc]
   have:=od.mono s;obtain⟨n,_⟩:=OD.cold hc this;have e:h1=λ_=>uN:=funext n
   rw[e]at this;exact this
  ·rw[if_neg hc];exact zaM_ λ_=>rfl
 |d::ds,_,o::env,[],h,h0,ws,hw,q,s,hL=>by rw[zbF_]at hL;exact hL.elim
 |d::ds,_,o::env,x::σ,h,h0,ws,hw,q,s,hL=>by
  unfold ODs at q;obtain⟨v,vs,h1,h2,rfl,j,od,r⟩:=q;rw[zbF_]at hL;obtain⟨k1,k2,jk,pp,hL⟩:=hL;obtain⟨h3,s3,os⟩:=za1_ (ws:=λi=>ws (i+1)) (λi d' e c=>by have:=hw (i+1) d' (by simpa using e) c;simpa using this) r s hL
  have d1:∀{m:Hp},Same m k1->Dj m h3:=λ{m} sm p=>by
   rcases jk.dj p with z |z
   ·exact .inl (sm.free z)
   ·exact .inr (s3.free z)
  have key:∃c m,Same m k1/\(if d.cold then d else match o with |some d'=>d' |none=>.gone)=c/\OD K c v F' m:=by
   by_cases hc:d.cold=uO
   ·obtain⟨_,dr⟩:=OD.cold hc od
    refine⟨d,λ_=>uN,(λp o z=>by cases z),by rw[if_pos hc],?_⟩
    have:=od.mono s;obtain⟨n,_⟩:=OD.cold hc this;have e:h1=λ_=>uN:=funext n
    rw[e]at this;exact this
   ·have hf:d.cold=uP:=by simpa using hc
    rw[if_neg hc];cases o with
    |none=>exact⟨.gone,λ_=>uN,(λp o z=>by cases z),rfl,zaM_ λ_=>rfl⟩
    |some d'=>
     obtain⟨v',e1,e2,o'⟩:=zdk_ pp;have:ws 0=uM v:=by have:=hw 0 d (by simp) hf;simpa using this
     have:=e2 v this;subst this;exact⟨d',k1,Same.refl _,rfl,o'⟩
  obtain⟨c,m,sm,ec,oc⟩:=key;refine⟨un m h3,λp o z=>?_,?_⟩
  ·unfold un at z
   cases y:m p with
   |some w=>rw[y]at z;cases z;exact jk.l _ _ (sm _ _ y)
   |none=>rw[y]at z;exact jk.r _ _ (s3 _ _ z)
  ·unfold outs;rw[ec]
   unfold ODs;exact⟨v,vs,m,h3,rfl,zai_ (d1 sm),oc,os⟩
theorem zkS_ (g0:G.Ok K){N:List Str}{n m:Nat}{body:List S}(hN:N.length=n+m):
  ∀vs H Q E,CtG K (fnOf G n m body) vs H Q E->S.dens K G E body {nx:=λ_ H'=>Q .non H',rt:=Q} (L2.start N vs) H:=by
 rintro vs H Q E ⟨F,h,ds,hs,dj,sh,os,fin⟩;have nt:=ze8_ os;have ln:=ODs.len os;unfold fnOf at fin;split at fin
 rotate_left
 ·exact fin.elim
 rename_i hd
 have cY:L2.start N vs=vs.map uM++lu m uN:=by unfold L2.start;rw[hN,<- ln,hd,Nat.add_sub_cancel_left]
 rw[cY];have hw:∀(i:Nat) u,wsOf ds vs i=uM u->vs[i]?=uM u:=λi u z=>by
  unfold wsOf at z;split at z
  ·exact z
  ·cases z
 have hp:∀i,pins ds i=uP->wsOf ds vs i=uN:=λi z=>by unfold wsOf;rw[z];rfl
 have gp:∀(i:Nat) d,ds[i]?=uM d->d.cold=uP->wsOf ds vs i=vs[i]?:=λi d e c=>by
  unfold wsOf pins;rw[e];simp[c]
 refine S.sounds g0 body hp _ F (less H h) _ F h H _ (zet_ m hw os) (zbr_ hs dj sh nt) ?_;cases e:S.runs G (pins ds) body (ds.map uM++lu m uN)with
 |no=>rw[e]at fin;exact fin
 |ex c env=>
  rw[e]at fin;intro σ F' h' H' hL ok;obtain⟨h3,s3,aM⟩:=za1_ gp os ok.1.1 hL;exact fin F' h3 H' (zdy_ ok s3) aM
 |ok o env=>
  rw[e]at fin;cases o with
  |nx=>
   intro σ F' h' H' hL ok;obtain⟨h3,s3,aM⟩:=za1_ gp os ok.1.1 hL;exact fin .non F' h3 H' (λ_=>uN) h3 (zdy_ ok s3) (no_l _ λ_=>rfl) (zcK_ λ_=>rfl) aM
  |rt d=>
   intro v σ F' hr h2 h' H' hL od j ok;obtain⟨h3,s3,aM⟩:=za1_ gp os ok.1.1 hL;have dd:Dj hr h3:=λp=>by rcases j.dj p with z |z;exact .inl z;exact .inr (s3.free z)
   refine fin v F' (un hr h3) H' hr h3 (zdy_ ok λp o z=>?_) (zai_ dd) od aM
   unfold un at z;cases y:hr p with
   |some w=>rw[y]at z;cases z;exact j.l _ _ y
   |none=>rw[y]at z;exact j.r _ _ (s3 _ _ z)
  |ct=>exact fin.elim
  |bk=>exact fin.elim
end
noncomputable def noStar (e:lq):Bool:=e.ctorIdx != 22
def noSup:lq->Bool
 |.Call (.Name x _) [] [] _=>x != "super" |_=>uO
noncomputable def noIf (e:lq):Bool:=e.ctorIdx != 5
noncomputable def noSl (e:lq):Bool:=e.ctorIdx != 26
noncomputable def noSet (e:lq):Bool:=e.ctorIdx != 7
noncomputable def noCmp (e:lq):Bool:=e.ctorIdx<8 ||10<e.ctorIdx
section
variable {env:PySem.Env}{e o:lq}{es:List lq}{pos:Pos}{m:Str}
theorem zj_ (h:noStar e=uO):lQ (e::es) env=(uP,eval e env)::lQ es env:=by
 cases e<;>first |rfl |cases h
theorem zaZ_:∀{es:List lq},es.all noStar=uO->lQ es env=es.map λe=>(uP,eval e env)
 |[],_=>rfl
 |e::es,h=>by
  rw[mr,ky]at h;rw[zj_ h.1,zaZ_ h.2];rfl
theorem zab_ (h:es.all noStar=uO):((oj pos (lQ es env)).any λx=>x.1)=uP:=by
 rw[zaZ_ h];unfold oj;simp
theorem zkE_ (h:es.all noStar=uO):((oj pos (lQ es env)).all λx=>!x.1)=uO:=by
 rw[zaZ_ h];unfold oj;simp
theorem zdJ_ (h:noSup o=uO):attributeBase o m env (eval o env)=eval o env:=by
 cases o with
 |Call f es ks q=>cases f with
  |Name id p=>cases es with
   |nil=>cases ks with
    |nil=>
     have h:(id != "super")=uO:=h;unfold attributeBase;dsimp only;rw[h];rfl
    |cons=>rfl
   |cons=>rfl
  |_=>rfl
 |_=>rfl
theorem zm2_ (h:es.all noStar=uO)(hl:es.length<29):methodCallForm (es.length+([]:List Keyword).length) (oj pos (lQ es env)) (qP pos (pL [] env))=uO:=by
 unfold methodCallForm;rw[zkE_ h];simp[pL,qP];lia
theorem zhy_ (h:es.all noStar=uO)(hl:es.length<29):((((oj pos (lQ es env)).all λx=>!x.fst) && (qP pos (pL [] env)).all λx=>x.fst.isSome) && decide ((es.length+([]:List Keyword).length+if([]:List Keyword).isEmpty=uO then 0 else 1)<30))=uO:=zm2_ h hl
theorem zkL_ (h:noSl e=uO):PlainIx e:=λ_ _=>by
 cases e<;>first |rfl |cases h
theorem zaH_ {op:CmpOp}(h:noSet e=uO):behindInMarks op e=uP:=by
 cases e<;>first |rfl |cases h
theorem zcs_ (h:noSet e=uO)(x:aU):foldedSetIterable e env x=pure x:=by
 cases e<;>first |rfl |cases h
theorem zf8_ (h:noCmp e=uO)(t:Option lq)(n:Nat):swapsWith e t n env=pure uP:=by
 cases e<;>first |rfl |cases h
theorem zfI_ {o i:lq}{p:Pos}:swappedStores [.Subscript o i p] e env=pure uN:=by
 unfold swappedStores;rfl
noncomputable def plainT:lq->Bool
 |.UnaryOp .Not ..=>uP |.BoolOp ..=>uP |.IfExp ..=>uP |.Compare ..=>uP |_=>uO
theorem zdH_ (h:plainT e=uO)(whole:Sem aU):isTrue e env whole=(do let v <- whole;standAt e.pos;holding [v] (truthy v)):=by
 cases e with
 |UnaryOp op a p=>cases op<;>first |rfl |cases h
 |_=>first |rfl |cases h
end
structure Ck where
 N:List Str
 nm:List (Str×nL)
structure Ft where
 bs:List Str
 at_:List Str
 gc:List (Str×V)
structure Ft.Ok (T:Ft)(G:Gi)(K:lR)(mg:Str->Option aU):Prop where
 bs:∀x∈T.bs,mg x=uN
 cls:∀c∈G.cs,Cls K (gA K c)
 at_:∀c∈G.cs,∀a∈T.at_,NoAttr K (gA K c) a
 gc:∀q∈T.gc,Gc mg q.1 q.2
 kt:∀q∈G.kt,Gc mg q.1 (.ref (gA K q.1))
inductive Fc where
 |call (f:Fn) (x:Str)|mkd (f:Fn) (c:Str) (dv:List D)
def Fc.H (P:lN)(w:l7)(K:lR)(mg:Str->Option aU)(base:Heap)(k:Nat):Fc->Prop
 |.call f x=>∃ps j,j<=k/\Gd P w K mg base CX0 j x ps (CtG K f)
 |.mkd f c dv=>∃ps j,j+1<=k/\GkD P w K mg base CX0 j c (gA K c) ps ((flats dv).getD []) (CtG K f)
mutual
def X.fcs:X->List Fc
 |.v _=>[]|.k _=>[]|.g _ _=>[]|.gt _ _=>[]
 |.bin _ a b=>a.fcs++b.fcs
 |.ch _ _ a b c=>a.fcs++(b.fcs++c.fcs)
 |.and a b=>a.fcs++b.fcs
 |.or a b=>a.fcs++b.fcs
 |.not a=>a.fcs
 |.neg a=>a.fcs
 |.ifx c a b=>c.fcs++(a.fcs++b.fcs)
 |.sl a lo hi=>a.fcs++(X.fcsO lo++X.fcsO hi)
 |.tup as=>X.fcss as
 |.lst as=>X.fcss as
 |.fld a _=>a.fcs
 |.call f x as=>.call f x::X.fcss as
 |.bf _ as=>X.fcss as
 |.sm _ a as=>a.fcs++X.fcss as
 |.comp _ _ _ src _ c e=>X.fcss src++(X.fcsO c++e.fcs)
 |.lr a b=>a.fcs++b.fcs
 |.li a b=>a.fcs++b.fcs
 |.isa a _=>a.fcs
 |.srt _ _ _ e=>e.fcs
 |.mkd f c as dv=>.mkd f c dv::X.fcss as
 |.ds1 a0 b0=>a0.fcs++b0.fcs
 |.ds2 a0 b0 c0 d0=>a0.fcs++(b0.fcs++(c0.fcs++d0.fcs))
 |.dct0=>[]
 |.ch3 _ _ _ a b c d=>(a.fcs++b.fcs)++(c.fcs++d.fcs)
def X.fcss:List X->List Fc
 |[]=>[]
 |a::as=>a.fcs++X.fcss as
def X.fcsO:Option X->List Fc
 |none=>[]
 |some a=>a.fcs
end
noncomputable def visB:Option nL->Bool
 |some .local=>uO |some .cell=>uO |some .free=>uO |_=>uP
noncomputable def locB:Option nL->Bool
 |some .local=>uO |some .cell=>uO |_=>uP
def nmOk (x:Str):Bool:=!(x=="__debug__") && !(x=="__classdict__")
def glB (c:Ck)(x:Str):Bool:=c.nm.lookup x==uM .globalImplicit && !(x=="__debug__")
def constB (d:D):Const->Bool
 |.int i=>(match d with |.int j=>i == j |_=>uP)
 |.bool b=>(match d with |.bl c=>b == c |_=>uP)
 |.none=>(match d with |.non=>uO |_=>uP)
 |.str x=>(match d with |.str l=>x.cps.toList == l |_=>uP)
 |_=>uP
noncomputable def Bo.op:Bo->Option Operator
 |.add=>uM .Add |.sub=>uM .Sub |.mul=>uM .Mult |.mod=>uM .Mod |.div=>uM .FloorDiv |_=>uN
noncomputable def Bo.cmp:Bo->Option CmpOp
 |.lt=>uM .Lt |.le=>uM .LtE |.gt=>uM .Gt |.ge=>uM .GtE |.eq=>uM .Eq |.ne=>uM .NotEq |.is=>uM .Is |.isn=>uM .IsNot |.inn=>uM .In |.nin=>uM .NotIn |.ned=>uM .NotEq |.ltT=>uM .Lt |.gtT=>uM .Gt |.ltL=>uM .Lt |_=>uN
noncomputable def Bo.isIx:Bo->Bool
 |.ix=>uO |_=>uP
noncomputable def Bf.nm:Bf->Str
 |.len => "len" |.list => "list" |.min => "min" |.str => "str" |.all => "all" |.sorted => "sorted" |.int => "int" |.sortT => "sorted"
noncomputable def Sm.nm:Sm->Str
 |.join => "join" |.index => "index" |.zfill => "zfill"
noncomputable def tyNm:String->Option Str
 |"int" => uM "int" |"bool" => uM "bool" |"str" => uM "str" |"list" => uM "list" |"tuple" => uM "tuple" |"dict" => uM "dict" |_=>uN
def relab (nm names:List (Str×nL)):List (Str×nL):=names.map λ(n,k)=>if k == .free && nm.lookup n == uM .cell then(n,.cell)else(n,k)
def tgB (c:Ck)(i:Nat):lq->Bool
 |.Name x _=>c.N[i]? == uM x && locB (c.nm.lookup x)
 |_=>uP
def tgsB (c:Ck):List Nat->List lq->Bool
 |[],[]=>uO
 |i::is,e::es=>tgB c i e && tgsB c is es
 |_,_=>uP
def tgOk (c:Ck)(g:Tg)(e:lq):Bool:=match g.tup,e with
 |true,.Tuple es _ _=>tgsB c g.is es
 |false,e=>g.is.length == 1 && tgB c (g.is.headD 0) e
 |_,_=>uP
def locals? (c:Ck)(g:Tg):Bool:=g.is.all λi=>match c.N[i]? with |some x=>c.nm.lookup x == uM .local |none=>uP
def scB (c:Ck)(sc:Scope)(lv:List Str)(fr:List (Str×Nat)):Bool:=
 sc.names.all (λy=>y.2 != .cell && (y.2 != .free ||c.nm.lookup y.1 == uM .cell ||c.nm.lookup y.1 == uM .free) && (y.2 != .local ||sc.names.lookup y.1 == uM .local)) && sc.kind == .function &&
 fr.all (λq=>c.N[q.2]? == uM q.1 && sc.names.contains (q.1,NameKind.free) && (c.nm.lookup q.1 == uM .cell ||c.nm.lookup q.1 == uM .free) && ((relab c.nm sc.names).lookup q.1 == uM .cell ||(relab c.nm sc.names).lookup q.1 == uM .free)) && decide (cN lv fr).Nodup
def kN:lq->(Str->Bool)->Bool
 |.Name x _,k=>k x |_,_=>uP
def kC:lq->(lq->List lq->Pos->Bool)->Bool
 |.Call f es [] q,k=>k f es q |_,_=>uP
noncomputable def kA:lq->(lq->Str->Pos->Bool)->Bool
 |.Attribute o m p,k=>k o m p |_,_=>uP
def kB:lq->(lq->Operator->lq->Bool)->Bool
 |.BinOp l o r _,k=>k l o r |_,_=>uP
def kM:lq->(lq->List CmpOp->List lq->Bool)->Bool
 |.Compare l o r _,k=>k l o r |_,_=>uP
def kS:lq->(lq->lq->Bool)->Bool
 |.Subscript l r _,k=>k l r |_,_=>uP
def kL:lq->(Option lq->Option lq->Option lq->Bool)->Bool
 |.Slice a b c _,k=>k a b c |_,_=>uP
def kU:lq->(UnaryOp->lq->Bool)->Bool
 |.UnaryOp o x _,k=>k o x |_,_=>uP
def kI:lq->(lq->lq->lq->Bool)->Bool
 |.IfExp t x y _,k=>k t x y |_,_=>uP
noncomputable def kT:lq->(List lq->Bool)->Bool
 |.Tuple es _ _,k=>k es |_,_=>uP
noncomputable def kW:lq->(List lq->Bool)->Bool
 |.List es _,k=>k es |_,_=>uP
def kK:lq->(Const->Bool)->Bool
 |.Constant c _ _,k=>k c |_,_=>uP
def kG:lq->(lq->List Comprehension->Scope->Bool)->Bool
 |.ListComp x g s _,k=>k x g s |_,_=>uP
noncomputable def kDi:lq->Bool
 |.Dict [] [] _=>uO |_=>uP
noncomputable def kDd:lq->(List (Option lq)->List lq->Bool)->Bool
 |.Dict a b _,k=>k a b |_,_=>uP
noncomputable def kco:List (Option lq)->(lq->List (Option lq)->Bool)->Bool
 |some a::l,k=>k a l |_,_=>uP
def kO (o:BoolOp):lq->(lq->lq->Bool->Bool)->Bool
 |.BoolOp o' (x::y::l) p,k=>o' == o && k x (bif l.isEmpty then y else .BoolOp o (y::l) p) l.isEmpty |_,_=>uP
noncomputable def kc:List lq->(lq->List lq->Bool)->Bool
 |a::l,k=>k a l |[],_=>uP
section
variable {e:lq}{C:lq->Prop}
theorem kN_ {k}(h:kN e k=uO)(H:∀x p,k x=uO->C (.Name x p)):C e:=by cases e<;>first |exact H _ _ h |cases h
theorem kC_ {k}(h:kC e k=uO)(H:∀f es q,k f es q=uO->C (.Call f es [] q)):C e:=by
 cases e with
 |Call f es ks q=>cases ks with |nil=>exact H _ _ _ h |cons=>cases h
 |_=>cases h
theorem kA_ {k}(h:kA e k=uO)(H:∀o m p,k o m p=uO->C (.Attribute o m p)):C e:=by cases e<;>first |exact H _ _ _ h |cases h
theorem kB_ {k}(h:kB e k=uO)(H:∀l o r p,k l o r=uO->C (.BinOp l o r p)):C e:=by cases e<;>first |exact H _ _ _ _ h |cases h
theorem kM_ {k}(h:kM e k=uO)(H:∀l o r p,k l o r=uO->C (.Compare l o r p)):C e:=by cases e<;>first |exact H _ _ _ _ h |cases h
theorem kS_ {k}(h:kS e k=uO)(H:∀l r p,k l r=uO->C (.Subscript l r p)):C e:=by cases e<;>first |exact H _ _ _ h |cases h
theorem kL_ {k}(h:kL e k=uO)(H:∀a b c p,k a b c=uO->C (.Slice a b c p)):C e:=by cases e<;>first |exact H _ _ _ _ h |cases h
theorem kU_ {k}(h:kU e k=uO)(H:∀o x p,k o x=uO->C (.UnaryOp o x p)):C e:=by cases e<;>first |exact H _ _ _ h |cases h
theorem kI_ {k}(h:kI e k=uO)(H:∀t x y p,k t x y=uO->C (.IfExp t x y p)):C e:=by cases e<;>first |exact H _ _ _ _ h |cases h
theorem kT_ {k}(h:kT e k=uO)(H:∀es n p,k es=uO->C (.Tuple es n p)):C e:=by cases e<;>first |exact H _ _ _ h |cases h
theorem kW_ {k}(h:kW e k=uO)(H:∀es p,k es=uO->C (.List es p)):C e:=by cases e<;>first |exact H _ _ h |cases h
theorem kK_ {k}(h:kK e k=uO)(H:∀c n p,k c=uO->C (.Constant c n p)):C e:=by cases e<;>first |exact H _ _ _ h |cases h
theorem kG_ {k}(h:kG e k=uO)(H:∀x g s p,k x g s=uO->C (.ListComp x g s p)):C e:=by cases e<;>first |exact H _ _ _ _ h |cases h
theorem kDi_ (h:kDi e=uO)(H:∀p,C (.Dict [] [] p)):C e:=by
 unfold kDi at h;split at h
 ·exact H _
 ·cases h
theorem kDd_ {k}(h:kDd e k=uO)(H:∀a b p,k a b=uO->C (.Dict a b p)):C e:=by cases e<;>first |exact H _ _ _ h |cases h
theorem kco_ {l:List (Option lq)}{C:List (Option lq)->Prop}{k}(h:kco l k=uO)(H:∀a t,k a t=uO->C (uM a::t)):C l:=by
 cases l with
 |nil=>cases h
 |cons a t=>cases a with |none=>cases h |some a=>exact H a t h
theorem kc_ {l:List lq}{C:List lq->Prop}{k}(h:kc l k=uO)(H:∀a t,k a t=uO->C (a::t)):C l:=by cases l with |nil=>cases h |cons a t=>exact H a t h
theorem kO_ {o:BoolOp}{k}(h:kO o e k=uO)(H:∀x y l p,k x (bif l.isEmpty then y else .BoolOp o (y::l) p) l.isEmpty=uO->C (.BoolOp o (x::y::l) p)):C e:=by
 cases e with
 |BoolOp o' es p=>
  cases es with
  |nil=>cases h
  |cons x es=>cases es with
   |nil=>cases h
   |cons y l=>have h:=lX.mp h;cases eq_of_beq h.1;exact H x y l p h.2
 |_=>cases h
end
noncomputable def Ik.isAny:Ik->Bool
 |.any=>uO |_=>uP
noncomputable def Ik.nm:Ik->Str
 |.en => "enumerate" |.zip => "zip" |_ => "range"
noncomputable def Ik.ar:Ik->Nat
 |.r2=>2 |.zip=>2 |_=>1
noncomputable def Ik.tp:Ik->Bool
 |.en=>uO |.zip=>uO |_=>uP
section
variable (T:Ft)(G:Gi)
def srcB (c:Ck)(ik:Ik)(tg:Tg)(it:lq)(k1:Bool)(ks:List lq->Bool):Bool:=bif ik.isAny then k1 else
 kC it λf es _=>kN f λy=>y == ik.nm && es.length == ik.ar && glB c y && T.bs.contains y && (tg.tup || !ik.tp) && ks es
mutual
def chkE:Ck->X->lq->Bool
 |c,.v i,e=>kN e λx=>c.N[i]? == uM x && visB (c.nm.lookup x) && nmOk x
 |c,.k d,e=>kK e (constB d)
 |c,.g x d,e=>kN e λy=>x == y && glB c x && (d.flat?).any λv=>T.gc.contains (x,v)
 |c,.gt x ls,e=>kN e λy=>x == y && glB c x && G.kt.any (λq=>q.1 == x)
 | c,.bin o a b,e=>kB e (λl op r=>o.op == uM op && chkE c a l && chkE c b r)||
   (kM e (λl os rs=>kc rs λr t=>os.map uM == [o.cmp] && t.isEmpty && noSet r && chkE c a l && chkE c b r)||
   kS e (λl r=>o.isIx && noSl r && chkE c a l && chkE c b r))
 |c,.ch o o' a b d,e=>kM e λl os rs=>kc rs λr t=>kc t λr' t'=>os.map uM == [o.cmp,o'.cmp] && t'.isEmpty && noSet r' && chkE c a l && chkE c b r && chkE c d r'
 |c,.and a b,e=>kO .And e λx y l=>noIf x && (!l ||noIf y) && chkE c a x && chkE c b y
 |c,.or a b,e=>kO .Or e λx y l=>noIf x && (!l ||noIf y) && chkE c a x && chkE c b y
 |c,.not a,e=>kU e λo x=>o == .Not && noIf x && chkE c a x
 |c,.neg a,e=>kU e λo x=>o == .USub && chkE c a x
 |c,.ifx d a b,e=>kI e λt x y=>noIf t && chkE c d t && chkE c a x && chkE c b y
 |c,.sl a lo hi,e=>kS e λl r=>kL r λl1 l2 l3=>l3.isNone && chkE c a l && chkO c lo l1 && chkO c hi l2
 |c,.tup as,e=>kT e (chkEs c as)
 |c,.lst as,e=>kW e (chkEs c as)
 |c,.fld a f,e=>kA e λo f' _=>f == f' && T.at_.contains f && noSup o && chkE c a o
 |c,.call f x as,e=>kC e λy es _=>kN y λy=>x == y && glB c x && chkEs c as es
 |c,.bf o as,e=>kC e λy es _=>kN y λy=>y == o.nm && glB c y && T.bs.contains y && !as.isEmpty && chkEs c as es
 |c,.sm o a as,e=>kC e λr es q=>kA r λr m p=>m == o.nm && noSup r && p.endLine == q.line && decide (es.length<29) && !as.isEmpty && chkE c a r && chkEs c as es
 | c,.comp lv fr ik src tg d x,e=>kG e λelt gs sc=>gs.length == 1 && gs.all λq=>q.is_async == 0 && scB c sc lv fr && tgOk ⟨cN lv fr,relab c.nm sc.names⟩ tg q.target && locals? ⟨cN lv fr,relab c.nm sc.names⟩ tg && noSet q.iter &&
   srcB T c ik tg q.iter (chk1 c src q.iter) (λes=>chkEs c src es) && chkIf ⟨cN lv fr,relab c.nm sc.names⟩ d q.ifs && chkE ⟨cN lv fr,relab c.nm sc.names⟩ x elt
 |c,.lr a b,e=>kC e λy es _=>kN y λy=>kc es λr t=>kC r λz xs _=>kN z λz=>kc xs λx t1=>kc t1 λw t2=>y=="list" && z=="range" && t.isEmpty && t2.isEmpty && glB c y && glB c z && T.bs.contains y && T.bs.contains z && noStar x && noStar w && chkE c a x && chkE c b w
 |c,.isa a n,e=>kC e λy es _=>kN y λy=>kc es λx t=>kc t λz t2=>kN z λz=>y=="isinstance" && t2.isEmpty && glB c y && T.bs.contains y && noStar x && tyNm n==uM z && glB c z && T.bs.contains z && chkE c a x
 |c,.li a b,e=>kC e λr es q=>kA r λr m p=>kc es λx t=>m=="index" && noSup r && p.endLine==q.line && t.isEmpty && noStar x && chkE c a r && chkE c b x
 |_,.srt _ _ _ _,_=>uP
 |c,.mkd f k as _,e=>kC e λy es _=>kN y λy=>k == y && glB c y && !es.isEmpty && chkEs c as es
 |c,.ds1 a b,e=>kDd e λks vs=>kco ks λk kt=>kc vs λv vt=>kt.isEmpty && vt.isEmpty && chkE c a k && chkE c b v
 |c,.ds2 a b d f,e=>kDd e λks vs=>kco ks λk kt=>kco kt λl lt=>kc vs λv vt=>kc vt λw wt=>lt.isEmpty && wt.isEmpty && chkE c a k && chkE c b v && chkE c d l && chkE c f w
 |_,.dct0,e=>kDi e
 |c,.ch3 o o' aK a b d f,e=>kM e λl os rs=>kc rs λr t=>kc t λr' t'=>kc t' λba h_=>os.map uM == [o.cmp,o'.cmp,aK.cmp] && h_.isEmpty && noSet ba && chkE c a l && chkE c b r && chkE c d r' && chkE c f ba
def chk1:Ck->List X->lq->Bool
 |_,[],_=>uP
 |c,a::as,e=>as.isEmpty && chkE c a e
def chkEs:Ck->List X->List lq->Bool
 |_,[],es=>es.isEmpty
 |c,a::as,es=>kc es λe es=>noStar e && chkE c a e && chkEs c as es
def chkO:Ck->Option X->Option lq->Bool
 |_,uN,e=>e.isNone
 |c,uM a,e=>e.any (chkE c a)
def chkIf:Ck->Option X->List lq->Bool
 |_,uN,es=>es.isEmpty
 |c,uM a,es=>kc es λe t=>t.isEmpty && noIf e && chkE c a e
end
end
theorem zhE_ {X:Cx}{E:XK}:Passes CX0 X E:=λ_ _ _ _ _ _ _ h=>h.elim
structure Cg (Z:Cx)(c:Ck)(k:Nat)(E:XK):Prop where
 N:Z.N=c.N
 nm:Z.env.scope.names=c.nm
 kind:Z.env.scope.kind=.function
 calm:Z.calm=uO
 room:Room k Z.A
 pass:Passes CX0 Z E
 cells:∀x,(c.nm.lookup x=uM .cell\/c.nm.lookup x=uM .free)->∃a,Z.env.cells.lookup x=uM a
section
variable {Z:Cx}{c:Ck}{k:Nat}{E:XK}{x m:Str}{e o:lq}{es:List lq}{t:TE}{ta:TA}{p pos apos:Pos}
theorem Cg.units (g:Cg Z c k E):Z.A.units+60<cLine:=by have:=g.room.un;lia
theorem zqG_ (g:Cg Z c k E)(h:visB (c.nm.lookup x)=uO):Vis Z.env.scope x:=by
 unfold Vis;rw[g.nm]
 revert h;cases c.nm.lookup x with
 |none=>intro h;cases h
 |some k=>cases k<;>intro h<;>first |exact .inl rfl |exact .inr (.inl rfl)|exact .inr (.inr rfl)|cases h
theorem znq_ (g:Cg Z c k E)(h:locB (c.nm.lookup x)=uO):L2.Loc Z.env.scope x:=by
 unfold L2.Loc;rw[g.nm]
 revert h;cases c.nm.lookup x with
 |none=>intro h;cases h
 |some k=>cases k<;>intro h<;>first |exact .inl rfl |exact .inr rfl |cases h
theorem zhf_ (g:Cg Z c k E)(h:glB c x=uO):Gl Z x/\(x==("__debug__":Str))=uP:=by
 unfold glB at h;rw[ky]at h;refine⟨?_,by simpa using h.2⟩
 unfold Gl pI;rw[g.nm];exact eq_of_beq h.1
structure Rd (Z:Cx)(e:lq)(t:TE):Prop where
 pe:PE Z e t
 pt:noIf e=uO->PT Z e (mTest t)
 pw:∀op vs p,e=.BoolOp op vs p->PW Z e (mTest t)
theorem zg_ (h:PE Z e t)(hp:plainT e=uO):Rd Z e t:=⟨h,λ_=>zoh_ h (zdH_ hp),λop vs p z=>by rw[z]at hp;cases hp⟩
theorem rd_if (h:PE Z e t)(hp:noIf e=uP):Rd Z e t:=⟨h,(λz=>by rw[hp]at z;cases z),(λop vs p z=>by rw[z]at hp;cases hp)⟩
theorem zmM_ {a b:lq}{t1 t2:TE}{op:CmpOp}{r:R2}(ho:OpR Z (lF op) r)(ha:Rd Z a t1)(hb:Rd Z b t2)(hs:noSet b=uO):Rd Z (.Compare a [op] [b] pos) (tOp r t1 t2):=
 ⟨znb_ ho ha.pe hb.pe (zaH_ hs),λ_=>zlQ_ ho ha.pe hb.pe (zaH_ hs),λ_ _ _ z=>by cases z⟩
theorem zke_ {a b d:lq}{t1 t2 t3:TE}{op aH:CmpOp}{r r':R2}(ho:OpR Z (lF op) r)(aJ:OpR Z (lF aH) r')(ha:Rd Z a t1)(hb:Rd Z b t2)(hd:Rd Z d t3)(hs:noSet d=uO):Rd Z (.Compare a [op,aH] [b,d] pos) (mChain r r' t1 t2 t3):=
 ⟨zhQ_ ho aJ ha.pe hb.pe hd.pe (zaH_ hs),λ_=>zii_ ho aJ ha.pe hb.pe hd.pe (zaH_ hs),λ_ _ _ z=>by cases z⟩
theorem zha_ (t1 t2:TE):mTest (mAndV t1 t2)=mAnd (mTest t1) (mTest t2):=by
 funext σ H Q;exact congrArg (t1 σ H) (funext λx=>funext λH1=>by cases x<;>rfl)
theorem zi0_ (t1 t2:TE):mTest (mOrV t1 t2)=mOr (mTest t1) (mTest t2):=by
 funext σ H Q;exact congrArg (t1 σ H) (funext λx=>funext λH1=>by cases x<;>rfl)
theorem zkK_ (t1:TE):mTest (mNotV t1)=tNot (mTest t1):=by
 funext σ H Q;exact congrArg (t1 σ H) (funext λx=>funext λH1=>by cases x<;>rfl)
theorem zeI_ {op:BoolOp}{vs:List lq}(h:PE Z (.BoolOp op vs pos) t)(h2:PW Z (.BoolOp op vs pos) (mTest t)):Rd Z (.BoolOp op vs pos) t:=⟨h,λ_=>h2.pt,λ_ _ _ _=>h2⟩
theorem znj_ {a b:lq}{t1 t2:TE}(ha:Rd Z a t1)(hb:Rd Z b t2)(na:noIf a=uO)(nb:noIf b=uO):Rd Z (.BoolOp .And [a,b] pos) (mAndV t1 t2):=
 zeI_ (ziY_ ha.pe (zlV_ hb.pe)) (by rw[zha_];exact zjd_ (ha.pt na) (zll_ (hb.pt nb)))
theorem zpv_ {a b d:lq}{r:List lq}{t1 t2:TE}(ha:Rd Z a t1)(hb:Rd Z (.BoolOp .And (b::d::r) pos) t2)(na:noIf a=uO):Rd Z (.BoolOp .And (a::b::d::r) pos) (mAndV t1 t2):=
 zeI_ (ziY_ ha.pe hb.pe) (by rw[zha_];exact zjd_ (ha.pt na) (hb.pw _ _ _ rfl))
theorem zqL_ {a b:lq}{t1 t2:TE}(ha:Rd Z a t1)(hb:Rd Z b t2)(na:noIf a=uO)(nb:noIf b=uO):Rd Z (.BoolOp .Or [a,b] pos) (mOrV t1 t2):=
 zeI_ (zmZ_ ha.pe (zlV_ hb.pe)) (by rw[zi0_];exact zm7_ (ha.pt na) (zrd_ (hb.pt nb)))
theorem rd_or {a b d:lq}{r:List lq}{t1 t2:TE}(ha:Rd Z a t1)(hb:Rd Z (.BoolOp .Or (b::d::r) pos) t2)(na:noIf a=uO):Rd Z (.BoolOp .Or (a::b::d::r) pos) (mOrV t1 t2):=
 zeI_ (zmZ_ ha.pe hb.pe) (by rw[zi0_];exact zm7_ (ha.pt na) (hb.pw _ _ _ rfl))
theorem znB_ {a:lq}{t1:TE}(ha:Rd Z a t1)(na:noIf a=uO):Rd Z (.UnaryOp .Not a pos) (mNotV t1):=
 ⟨zmh_ ha.pe,λ_=>by rw[zkK_];exact zqh_ (ha.pt na),λ_ _ _ z=>by cases z⟩
theorem bo_op {b:Bo}{op:Operator}(h:b.op=uM op):OpR Z (nz op) (b.r Z.K):=by
 cases b<;>cases h
 ·exact zmY_
 ·exact zn6_
 ·exact zmt_
 ·exact zmk_
 ·exact zmT_
theorem zes_ (hu:Z.A.units+60<cLine){b:Bo}{op:CmpOp}(h:b.cmp=uM op):OpR Z (lF op) (b.r Z.K):=by
 cases b<;>cases h
 ·exact zqo_
 ·exact zo3_
 ·exact zqx_
 ·exact zpI_
 ·exact zph_ hu
 ·exact zq0_ hu
 ·exact zoS_
 ·exact ziv_
 ·exact zqd_ hu
 ·exact zhU_ hu
 ·exact zmR_ hu
 ·exact zq2_
 ·exact zpi_
 ·exact zoM_ hu
theorem zj3_ {d:D}{kc:Const}{j:Nat}(h:constB d kc=uO):PE Z (.Constant kc j pos) (tC (d.flat?.getD .non)):=by
 cases kc with
 |int i=>cases d<;>first |(cases eq_of_beq h;exact zre_)|cases h
 |bool b=>cases d<;>first |(cases eq_of_beq h;exact pe_bl)|cases h
 |none=>cases d<;>first |exact zqk_ |cases h
 |str z=>cases d<;>first |(have h:=eq_of_beq h;subst h;exact zqz_ (by cases z;rfl))|cases h
 |_=>cases h
theorem zj0_ {sp:Sp}{ps:List Str}{j:Nat}(F:Gd Z.prog Z.w Z.K Z.mg Z.base CX0 j x ps sp)(hr:Room j Z.A)(hx:Passes CX0 Z E)(ha:PA Z es ta)(hs:es.all noStar=uO)(hg:Gl Z x)(hd:(x==("__debug__":Str))=uP)(h0:es=[]->ta=tNil):
  PE Z (.Call (.Name x p) es [] pos) (tCall sp [] E ta):=by
 cases es with
 |nil=>
  rw[h0 rfl];obtain⟨f,fd,F,hm,hk,hb⟩:=F;exact zlb_ F hr hg hm hk hb .nil hx hd
 |cons e es=>
  rw[mr,ky]at hs;obtain⟨f,fd,F,hm,hk,hb⟩:=F;exact znN_ F hr hg hm hk hb .nil hx ha hd (zj_ hs.1) (zab_ hs.2)
theorem bf_pe (g:Cg Z c k E){b:Bf}(hm:Z.mg b.nm=uN)(ha:PA Z es ta)(hs:es.all noStar=uO)(h0:es≠[])(hg:glB c b.nm=uO):PE Z (.Call (.Name b.nm p) es [] pos) (tCB (b.r Z.K) ta):=by
 obtain⟨g1,g2⟩:=zhf_ g hg;cases es with
 |nil=>exact absurd rfl h0
 |cons e es=>
  rw[mr,ky]at hs;have s1:=zj_ (env:=Z.env) (es:=es) hs.1;have s2:=zab_ (env:=Z.env) (pos:=pos) hs.2;cases b with
  |len=>exact zld_ zig_ hm ha g1 rfl (by decide) g2 s1 s2
  |list=>exact zmU_ "list" (zfM_ g.calm) hm ha g1 rfl (by decide) g2 s1 s2
  |min=>exact zld_ (zhp_ g.calm) hm ha g1 rfl (by decide) g2 s1 s2
  |str=>exact zmU_ "str" zij_ hm ha g1 rfl (by decide) g2 s1 s2
  |all=>exact zld_ (zit_ g.calm) hm ha g1 rfl (by decide) g2 s1 s2
  |sorted=>exact zld_ (zg2_ g.calm) hm ha g1 rfl (by decide) g2 s1 s2
  |int=>exact zmU_ "int" zho_ hm ha g1 rfl (by decide) g2 s1 s2
  |sortT=>exact zld_ zgj_ hm ha g1 rfl (by decide) g2 s1 s2
theorem sm_pe {b:Sm}(ho:PE Z o t)(ha:PA Z es ta)(hs:es.all noStar=uO)(hb:noSup o=uO)(hl:(apos.endLine==pos.line)=uO)(hn:es.length<29)(h0:es≠[]):PE Z (.Call (.Attribute o b.nm apos) es [] pos) (tBM Z.K "str" (b.r Z.K) t ta):=by
 cases es with
 |nil=>exact absurd rfl h0
 |cons e es=>
  have f:=zhy_ (env:=Z.env) (pos:=pos) hs hn;rw[mr,ky]at hs;have s1:=zj_ (env:=Z.env) (es:=es) hs.1;have s2:=zab_ (env:=Z.env) (pos:=pos) hs.2;have b0:=λn=>zdJ_ (env:=Z.env) (m:=n) hb
  cases b with
  |join=>exact zqI_ ze0_ zfo_ zob_ ho ha (b0 _) f hl s1 s2
  |index=>exact zqI_ zea_ zd4_ zkr_ ho ha (b0 _) f hl s1 s2
  |zfill=>exact zqI_ zed_ zel_ zjX_ ho ha (b0 _) f hl s1 s2
variable {T:Ft}{G:Gi}
theorem za6_ {cells:List (Str×kR)}:∀(names:List (Str×nL)) (acc:List (Str×kR)),(∀y∈names,y.2=.free->∃a,cells.lookup y.1=uM a)->∃cl,closeL cells names acc=uM cl
 |[],acc,_=>⟨acc,rfl⟩
 |(n,k)::r,acc,h=>by
  unfold closeL;split
  ·rename_i hk
   obtain⟨a,ha⟩:=h (n,k) (lj ..) (eq_of_beq hk);rw[show cells.lookup n=uM a from ha]
   exact za6_ r _ λy hy=>h y (ll _ hy)
  ·exact za6_ r _ λy hy=>h y (ll _ hy)
theorem zd9_ (g:Cg Z c k E){sc:Scope}:(relabel sc Z.env).names=relab c.nm sc.names:=by
 unfold relabel relab pI;rw[g.kind,g.nm];simp
theorem zfW_ (g:Cg Z c k E){sc:Scope}{lv:List Str}{fr:List (Str×Nat)}(h:scB c sc lv fr=uO):
  (cN lv fr).Nodup/\∃cl,CScope Z sc cl lv fr/\∀C fp s2 H2,Cg (cxComp Z sc cl C (cN lv fr) fp s2 H2) ⟨cN lv fr,relab c.nm sc.names⟩ k E0:=by
 unfold scB at h;rw[ky,ky,ky]at h;obtain⟨⟨⟨h1,h2⟩,h3⟩,h4⟩:=h;have h1:=mm.mp h1;have h3:=mm.mp h3;have h2:sc.kind=.function:=eq_of_beq h2;have hc:∀y∈sc.names,y.2≠.cell:=λy hy=>by have:=h1 y hy;simp at this;exact this.1.1
 have hf:∀y∈sc.names,y.2=.free->c.nm.lookup y.1=uM .cell\/c.nm.lookup y.1=uM .free:=λy hy z=>by
  have:=h1 y hy;simp[z]at this;exact this
 obtain⟨cl,aS⟩:=za6_ (cells:=Z.env.cells) sc.names [] λy hy z=>g.cells _ (hf y hy z)
 refine⟨of_decide_eq_true h4,cl,⟨aS,hc,h2,λz hz e=>?_,λq hq=>?_⟩,λC fp s2 H2=>⟨rfl,zd9_ g,h2,g.calm,g.room,zhE_,λx hx=>?_⟩⟩
 ·have:=h1 z hz;simp[e]at this;exact this
 ·have:=h3 q hq
  simp at this;obtain⟨⟨⟨a,b⟩,d⟩,e⟩:=this;unfold pI;rw[g.N,g.nm,zd9_ g];exact⟨a,b,d,e⟩
 ·have hx:(relabel sc Z.env).names.lookup x=uM .cell\/(relabel sc Z.env).names.lookup x=uM .free:=by rw[zd9_ g];exact hx
  have hm:(x,NameKind.free)∈sc.names:=hx.elim (λz=>zaI_ z (.inl rfl) hc) λz=>zaI_ z (.inr rfl) hc
  exact z5_ sc.names [] cl aS x (.inl hm)
theorem zjO_ (g:Cg Z c k E)(nd:c.N.Nodup){i:Nat}(hf:(∀x,Z.fn x=uO)\/∀x,c.N[i]?=uM x->c.nm.lookup x=uM .local)(h:tgB c i e=uO):PG Z e (gName i)/\∃x p,e=.Name x p:=by
 unfold tgB at h;split at h
 ·rename_i x p
  rw[ky]at h;have hi:c.N[i]?=uM x:=eq_of_beq h.1;exact⟨znv_ (by rw[g.N];exact nd) (by rw[g.N];exact hi) (znq_ g h.2) (hf.elim (λz=>.inl (z x)) λz=>.inr (by rw[g.nm];exact z x hi)),x,p,rfl⟩
 ·cases h
theorem zm8_ (g:Cg Z c k E)(nd:c.N.Nodup):∀{is:List Nat}{es:List lq},((∀x,Z.fn x=uO)\/∀i∈is,∀x,c.N[i]?=uM x->c.nm.lookup x=uM .local)->tgsB c is es=uO->PGs Z es (tgS is)/\(m9 es Z.env).length=is.length/\(m9 es Z.env).findIdx? (·.1)=uN
 |[],[],_,_=>⟨zk5_,rfl,rfl⟩
 |[],_::_,_,h=>by cases h
 |_::_,[],_,h=>by cases h
 |i::is,e::es,hf,h=>by
  unfold tgsB at h;rw[ky]at h;obtain⟨h1,x,p,rfl⟩:=zjO_ g nd (i:=i) (hf.imp id λz=>z i (lj ..)) h.1
  obtain⟨a,b,d⟩:=zm8_ g nd (is:=is) (es:=es) (hf.imp id λz j hj=>z j (ll _ hj)) h.2
  refine⟨zio_ h1 a,?_,?_⟩
  ·show(m9 es Z.env).length+1=_;rw[b];rfl
  ·show List.findIdx? _ ((uP,_)::m9 es Z.env)=uN
   rw[List.findIdx?_cons];simp[d]
theorem tg_ok (g:Cg Z c k E)(nd:c.N.Nodup){tg:Tg}(hf:(∀x,Z.fn x=uO)\/locals? c tg=uO)(h:tgOk c tg e=uO):PG Z e (tgT Z.K tg):=by
 have hf:(∀x,Z.fn x=uO)\/∀i∈tg.is,∀x,c.N[i]?=uM x->c.nm.lookup x=uM .local:=hf.imp id λz i hi x hx=>by
  have:=mm.mp z i hi;rw[hx]at this;exact eq_of_beq this
 unfold tgOk at h;unfold tgT;split at h
 ·rename_i es _ _ ht
  rw[if_pos ht];obtain⟨a,b,d⟩:=zm8_ g nd hf h;exact znY_ g.calm a b d
 ·rename_i ht
  rw[if_neg (by rw[ht];decide)]
  rw[ky]at h;refine(zjO_ g nd (hf.imp id λz=>?_) h.2).1
  have hl:=eq_of_beq h.1;cases hi:tg.is with
  |nil=>rw[hi]at hl;cases hl
  |cons i r=>rw[hi]at z;exact z i (lj ..)
 ·cases h
theorem zln_ {f:Str}(hc:∀d∈G.cs,Cls Z.K (gA Z.K d)/\NoAttr Z.K (gA Z.K d) f)(he:PE Z e t)(hb:noSup e=uO):PE Z (.Attribute e f pos) (tFld Z.K G.cs t f):=by
 intro pins s σ H Q I h;obtain⟨d,hd,h⟩:=h;exact zlk_ (hc d hd).1 (hc d hd).2 he (zdJ_ hb) pins s σ H Q I h
theorem zp0_ (g:Cg Z c k E){n:String}{y:Str}{p1 p2:Pos}(ha:PE Z e t)(he:noStar e=uO)(h1:glB c "isinstance"=uO)(h2:Z.mg "isinstance"=uN)(hn:tyNm n=uM y)(h3:glB c y=uO)(h4:Z.mg y=uN):PE Z (.Call (.Name "isinstance" p1) [e,.Name y p2] [] pos) (tCB (mIsaV Z.K) (tCons t (tCons (tC (.ty n)) tNil))):=by
 obtain⟨g1,g2⟩:=zhf_ g h1;obtain⟨g3,g4⟩:=zhf_ g h3;have hb:nE y=uM (.type n)/\y ≠ "__name__":=by
  unfold tyNm at hn;split at hn<;>cases hn<;>exact⟨rfl,by decide⟩
 exact zld_ zh1_ h2 (zbv_ ha (zbv_ (pe_ty n h4 g3 hb.1 hb.2 g4) ze4_ (zj_ rfl)) (zj_ he)) g1 rfl (by decide) g2 (zj_ he) (zab_ rfl)
theorem zfq_ {a b c d:lq}{ta tb tc td:TE}{op aH aG:CmpOp}{r r' ba:R2}(ho:OpR Z (lF op) r)(aJ:OpR Z (lF aH) r')(bz:OpR Z (lF aG) ba)(ha:PE Z a ta)(hb:PE Z b tb)(hc:PE Z c tc)(hd:PE Z d td)
  (hm:lastMarks [op,aH,aG] [b,c,d]=uP):PT Z (.Compare a [op,aH,aG] [b,c,d] pos) (mTest (mChain3 r r' ba ta tb tc td)):=by
 intro pins s σ H Q I h;refine isTrue_chain (thn (ha pins s σ H _ I h) λv s1 ⟨x,H1,I1,r1,q1⟩=>test_link (thn (hb pins s1 σ H1 _ I1 q1) λu s2 ⟨y,H2,I2,r2,q2⟩=>
  thn (ho pins s2 σ H2 x y v u _ I2 r1 r2 q2) λd s3 ⟨z,H3,I3,r3,q3⟩=>?_)) hm
 cases z with
 |bl k=>
  cases r3;refine lZ ?_;cases k with
  |false=>exact ite_ff ⟨H3,I3,q3.2 rfl⟩
  |true=>
   refine ite_tt (test_link (thn (hc pins s3 σ H3 _ I3 (q3.1 rfl)) λw' s4 ⟨z',H4,I4,r4,q4⟩=>thn (aJ pins s4 σ H4 y z' u w' _ I4 r2 r4 q4) λd' s5 af=>?_))
   obtain⟨z2,H5,I5,r5,q5⟩:=af;cases z2 with
   |bl k2=>
    cases r5;refine lZ ?_;cases k2 with
    |false=>exact ite_ff ⟨H5,I5,q5.2 rfl⟩
    |true=>
     refine ite_tt (test_last (thn (hd pins s5 σ H5 _ I5 (q5.1 rfl)) λw2 s6 ⟨z3,H6,I6,r6,q6⟩=>thn (bz pins s6 σ H6 z' z3 w' w2 _ I6 r4 r6 q6) λd' s7 af=>?_))
     obtain⟨z4,H7,I7,r7,q7⟩:=af;cases z4 with
     |bl k4=>cases r7;exact lZ ⟨H7,I7,q7⟩
     |_=>exact q7.elim
   |_=>exact q5.elim
 |_=>exact q3.elim
theorem zq9_ {a b d f:lq}{t1 t2 t3 t4:TE}{op aH aG:CmpOp}{r r' ba:R2}(ho:OpR Z (lF op) r)(aJ:OpR Z (lF aH) r')(bz:OpR Z (lF aG) ba)(ha:Rd Z a t1)(hb:Rd Z b t2)(hd:Rd Z d t3)(hf:Rd Z f t4)(hs:noSet f=uO):Rd Z (.Compare a [op,aH,aG] [b,d,f] pos) (mChain3 r r' ba t1 t2 t3 t4):=
 ⟨zfA_ ho aJ bz ha.pe hb.pe hd.pe hf.pe (zaH_ hs),λ_=>zfq_ ho aJ bz ha.pe hb.pe hd.pe hf.pe (zaH_ hs),λ_ _ _ z=>by cases z⟩
theorem os1 {os:List CmpOp}{a:Option CmpOp}(h:[a]=os.map uM):∃x,a=uM x/\os=[x]:=by
 cases os with
 |nil=>cases h
 |cons x l=>cases l with |nil=>cases h;exact⟨x,rfl,rfl⟩|cons=>cases h
theorem os2 {os:List CmpOp}{a b:Option CmpOp}(h:[a,b]=os.map uM):∃x y,a=uM x/\b=uM y/\os=[x,y]:=by
 cases os with
 |nil=>cases h
 |cons x l=>
  obtain⟨y,rfl,rfl⟩:=os1 (qe h).2;exact⟨x,y,(qe h).1,rfl,rfl⟩
theorem os3 {os:List CmpOp}{a b d:Option CmpOp}(h:[a,b,d]=os.map uM):∃x y z,a=uM x/\b=uM y/\d=uM z/\os=[x,y,z]:=by
 cases os with
 |nil=>cases h
 |cons x l=>
  obtain⟨y,z,rfl,rfl,rfl⟩:=os2 (qe h).2;exact⟨x,y,z,(qe h).1,rfl,rfl,rfl⟩
theorem zr_:∀{as:List X}{es:List lq},chkEs T G c as es=uO->es.all noStar=uO/\(es=[]↔as=[])
 |[],es,h=>by
  unfold chkEs at h;rw[lW.mp h];exact⟨rfl,Iff.rfl.trans ⟨λ_=>rfl,λ_=>rfl⟩⟩
 |a::as,es,h=>by
  apply kc_ h;intro e es h;simp only[ky]at h;exact⟨by rw[mr,h.1.1,(zr_ h.2).1];rfl,(λz=>by cases z),(λz=>by cases z)⟩
theorem zj6_ {K:lR}{as:List X}(h:chkEs T G c as es=uO)(h0:es=[]):X.dens K G E as=tNil:=by rw[(zr_ h).2.mp h0,X.dens]
theorem zn4_ {as:List X}(h:chkEs T G c as es=uO)(h0:(!as.isEmpty)=uO):es≠[]:=λz=>by
 rw[(zr_ h).2.mp z]at h0;cases h0
theorem zim_ {os:List CmpOp}{l:List (Option CmpOp)}(h:(os.map uM == l)=uO):l=os.map uM:=(eq_of_beq h).symm
abbrev AllH (Z:Cx)(k:Nat)(l:List Fc):Prop:=∀φ∈l,φ.H Z.prog Z.w Z.K Z.mg Z.base k
theorem AllH.l {a b:List Fc}(h:AllH Z k (a++b)):AllH Z k a:=λφ cy=>h φ (oP _ cy)
theorem AllH.r {a b:List Fc}(h:AllH Z k (a++b)):AllH Z k b:=λφ cy=>h φ (lM _ cy)
theorem zlT_ {tg:Tg}(h:tgOk c tg e=uO)(ht:tg.tup=uO):∃es k p,e=.Tuple es k p:=by
 unfold tgOk at h;split at h
 ·exact⟨_,_,_,rfl⟩
 ·rename_i z;rw[z]at ht;cases ht
 ·cases h
theorem znn_ {ik:Ik}{src:List X}{tg:Tg}{t it:lq}{k1:Bool}{ks:List lq->Bool}(fo:T.Ok G Z.K Z.mg)(g:Cg Z c k E)(h3:tg.tup=uO->∃es k p,t=.Tuple es k p)(h:srcB T c ik tg it k1 ks=uO)
  (H0:k1=uO->∃s,src=[s]/\PE Z it (s.den Z.K G E)) (H1:∀es,ks es=uO->PA Z es (X.dens Z.K G E src)/\es.all noStar=uO):PI Z t it (ik.t Z.K (X.dens Z.K G E src)):=by
 unfold srcB at h;cases ha:ik.isAny with
 |true=>
  rw[ha,cond_true]at h;obtain⟨s,rfl,hs⟩:=H0 h;cases ik<;>first |exact zow_ hs |cases ha
 |false=>
  rw[ha,cond_false]at h;apply kC_ h;intro f es q h;apply kN_ h;intro y p h;simp only[ky]at h;obtain⟨⟨⟨⟨⟨h1,h2⟩,h4⟩,h5⟩,h6⟩,h7⟩:=h;obtain⟨pa,st⟩:=H1 es h7;have b:=fo.bs y (by simpa using h5)
  have gl:=(zhf_ g h4).1;have hy:=eq_of_beq h1;have hl:=eq_of_beq h2;have tp:ik.tp=uO->∃es k p,t=.Tuple es k p:=λz=>h3 (by rw[z]at h6;simpa using h6)
  have sm:=zaZ_ (env:=Z.env) st;cases ik with
  |any=>cases ha
  |r1=>obtain⟨a,rfl⟩:=m4.mp hl;cases hy;exact zkj_ b pa gl sm
  |r2=>match es,hl with |[a,d],_=>cases hy;exact zjz_ b pa gl sm (zaZ_ (by rw[mr,ky]at st;exact st.2))
  |en=>obtain⟨a,rfl⟩:=m4.mp hl;cases hy;obtain⟨_,_,_,rfl⟩:=tp rfl;exact zme_ b pa gl sm
  |zip=>match es,hl with |[a,d],_=>cases hy;obtain⟨_,_,_,rfl⟩:=tp rfl;exact zlD_ b pa gl sm (zaZ_ (by rw[mr,ky]at st;exact st.2))
theorem zjk_ (lv:List Str)(fr:List (Str×Nat))(ik:Ik)(src:List X)(tg:Tg)(d:Option X)(x:X)
  (H0:∀{Z:Cx}{c:Ck}{E:XK}{e:lq},T.Ok G Z.K Z.mg->Cg Z c k E->AllH Z k (X.fcss src)->chk1 T G c src e=uO->∃s,src=[s]/\PE Z e (s.den Z.K G E))
  (H1:∀{Z:Cx}{c:Ck}{E:XK}{es:List lq},T.Ok G Z.K Z.mg->Cg Z c k E->AllH Z k (X.fcss src)->chkEs T G c src es=uO->PA Z es (X.dens Z.K G E src))
  (H2:∀{Z:Cx}{c:Ck}{E:XK}{es:List lq},T.Ok G Z.K Z.mg->Cg Z c k E->AllH Z k (X.fcsO d)->chkIf T G c d es=uO->PIf Z es (X.denT Z.K G E d))
  (H3:∀{Z:Cx}{c:Ck}{E:XK}{e:lq},T.Ok G Z.K Z.mg->Cg Z c k E->AllH Z k x.fcs->chkE T G c x e=uO->Rd Z e (x.den Z.K G E)):∀{Z:Cx}{c:Ck}{E:XK}{e:lq},T.Ok G Z.K Z.mg->Cg Z c k E->AllH Z k (X.comp lv fr ik src tg d x).fcs->chkE T G c (.comp lv fr ik src tg d x) e=uO ->
  ∃t it ifs elt sc pos,e=.ListComp elt [⟨t,it,ifs,0⟩] sc pos/\∃cl,CScope Z sc cl lv fr/\PI Z t it (ik.t Z.K (X.dens Z.K G E src))/\(∀C fp s2 H2,PG (cxComp Z sc cl C (cN lv fr) fp s2 H2) t (tgT Z.K tg)) /\
   (∀C fp s2 H2,PIf (cxComp Z sc cl C (cN lv fr) fp s2 H2) ifs (X.denT Z.K G E0 d))/\(∀C fp s2 H2,PE (cxComp Z sc cl C (cN lv fr) fp s2 H2) elt (x.den Z.K G E0))/\noSet it=uO:=by
 intro Z c E e fo g fs h;apply kG_ h;intro elt gs sc pos h;rw[ky]at h;obtain⟨⟨t,it,ifs,as⟩,rfl⟩:=m4.mp (eq_of_beq h.1);have h:=h.2;rw[mr,List.all_nil,tB]at h;simp only[ky]at h;obtain⟨⟨⟨⟨⟨⟨⟨h1,h2⟩,h3⟩,h4⟩,h5⟩,h6⟩,h7⟩,h8⟩:=h;cases eq_of_beq h1;obtain⟨nd,cl,S,cg⟩:=zfW_ g h2
 exact⟨t,it,ifs,elt,sc,pos,rfl,cl,S,znn_ fo g (zlT_ h3) h6 (H0 fo g fs.l) λes z=>⟨H1 fo g fs.l z,(zr_ z).1⟩,λC fp s2 H2=>tg_ok (Z:=cxComp Z sc cl C (cN lv fr) fp s2 H2) (cg C fp s2 H2) nd (.inr h4) h3,λC fp s2 iQ=>H2 (Z:=cxComp Z sc cl C (cN lv fr) fp s2 iQ) fo (cg C fp s2 iQ) fs.r.l h7,
   λC fp s2 H2=>(H3 (Z:=cxComp Z sc cl C (cN lv fr) fp s2 H2) fo (cg C fp s2 H2) fs.r.r h8).pe,h5⟩
mutual
theorem za_:∀(x:X) {Z:Cx}{c:Ck}{E:XK}{e:lq},T.Ok G Z.K Z.mg->Cg Z c k E->AllH Z k x.fcs->chkE T G c x e=uO->Rd Z e (x.den Z.K G E)
 |.v i,Z,c,E,e,fo,g,fs,h=>by
  apply kN_ h;intro x p h;rw[ky,ky]at h;have h3:=h.2;unfold nmOk at h3;rw[ky]at h3;exact zg_ (zls_ i (by rw[g.N];exact eq_of_beq h.1.1) (zqG_ g h.1.2) (by simpa using h3.1) (by simpa using h3.2)) rfl
 |.k d,Z,c,E,e,fo,g,fs,h=>by
  apply kK_ h;intro x n p h;exact zg_ (zj3_ h) rfl
 |.g x d,Z,c,E,e,fo,g,fs,h=>by
  show Rd Z e (tC (d.flat?.getD .non))
  apply kN_ h;intro y p h;rw[ky,ky]at h;cases eq_of_beq h.1.1;obtain⟨g1,g2⟩:=zhf_ g h.1.2;have h2:=h.2;cases hv:d.flat? with
  |none=>rw[hv]at h2;cases h2
  |some v=>rw[hv]at h2;exact zg_ (pe_gc (fo.gc _ (by simpa using h2)) g1 g2) rfl
 |.gt x ls,Z,c,E,e,fo,g,fs,h=>by
  apply kN_ h;intro y p h;rw[ky,ky]at h;cases eq_of_beq h.1.1;obtain⟨g1,g2⟩:=zhf_ g h.1.2;obtain⟨q,hq,e⟩:=qq.mp h.2;have:=fo.kt q hq;rw[eq_of_beq e]at this;exact zg_ (pe_gc this g1 g2) rfl
 |.bin o a b,Z,c,E,e,fo,g,fs,h=>by
  rcases(n5 _ _).mp h with h |h
  rotate_left
  rcases(n5 _ _).mp h with h |h
  rotate_right
  ·apply kB_ h;intro l op r p h
   simp only[ky]at h;exact zg_ (pe_op (bo_op (eq_of_beq h.1.1)) (za_ a fo g fs.l h.1.2).pe (za_ b fo g fs.r h.2).pe) rfl
  ·apply kM_ h;intro l os rs p h
   apply kc_ h;intro r t h;simp only[ky]at h;cases lW.mp h.1.1.1.2;obtain⟨op,ho,rfl⟩:=os1 (zim_ h.1.1.1.1);exact zmM_ (zes_ g.units ho) (za_ a fo g fs.l h.1.2) (za_ b fo g fs.r h.2) h.1.1.2
  ·apply kS_ h;intro l r p h
   simp only[ky]at h;have ho:o=.ix:=by
    have:=h.1.1.1;cases o<;>first |rfl |cases this
   subst ho;exact zg_ (pe_ix (ix_A g.units) (za_ a fo g fs.l h.1.2).pe (za_ b fo g fs.r h.2).pe (zkL_ h.1.1.2)) rfl
 |.ch o o' a b d,Z,c,E,e,fo,g,fs,h=>by
  apply kM_ h;intro l os rs p h;apply kc_ h;intro r t h;apply kc_ h;intro r' t' h;simp only[ky]at h;cases lW.mp h.1.1.1.1.2;obtain⟨op,aH,h1,h2,rfl⟩:=os2 (zim_ h.1.1.1.1.1);exact zke_ (zes_ g.units h1) (zes_ g.units h2) (za_ a fo g fs.l h.1.1.2) (za_ b fo g fs.r.l h.1.2) (za_ d fo g fs.r.r h.2) h.1.1.1.2
 |.and a b,Z,c,E,e,fo,g,fs,h=>by
  apply kO_ h;intro x y l p h;simp only[ky]at h;cases l with
  |nil=>exact znj_ (za_ a fo g fs.l h.1.2) (za_ b fo g fs.r h.2) h.1.1.1 h.1.1.2
  |cons z l=>exact zpv_ (za_ a fo g fs.l h.1.2) (za_ b fo g fs.r h.2) h.1.1.1
 |.or a b,Z,c,E,e,fo,g,fs,h=>by
  apply kO_ h;intro x y l p h;simp only[ky]at h;cases l with
  |nil=>exact zqL_ (za_ a fo g fs.l h.1.2) (za_ b fo g fs.r h.2) h.1.1.1 h.1.1.2
  |cons z l=>exact rd_or (za_ a fo g fs.l h.1.2) (za_ b fo g fs.r h.2) h.1.1.1
 |.not a,Z,c,E,e,fo,g,fs,h=>by
  apply kU_ h;intro o x p h;simp only[ky]at h;cases eq_of_beq h.1.1;exact znB_ (za_ a fo g fs h.2) h.1.2
 |.neg a,Z,c,E,e,fo,g,fs,h=>by
  apply kU_ h;intro o x p h;rw[ky]at h;cases eq_of_beq h.1;exact zg_ (zoW_ (za_ a fo g fs h.2).pe) rfl
 |.ifx d a b,Z,c,E,e,fo,g,fs,h=>by
  apply kI_ h;intro t x y p h;simp only[ky]at h;exact rd_if (zqg_ ((za_ d fo g fs.l h.1.1.2).pt h.1.1.1) (za_ a fo g fs.r.l h.1.2).pe (za_ b fo g fs.r.r h.2).pe) rfl
 |.sl a lo hi,Z,c,E,e,fo,g,fs,h=>by
  apply kS_ h;intro l r p h;apply kL_ h;intro l1 l2 l3 q h;simp only[ky]at h;cases nT.mp h.1.1.1;exact zg_ (zks_ sl_A (za_ a fo g fs.l h.1.1.2).pe (ziR_ lo fo g fs.r.l h.1.2) (ziR_ hi fo g fs.r.r h.2)) rfl
 |.tup as,Z,c,E,e,fo,g,fs,h=>by
  apply kT_ h;intro es n p h;exact zg_ (zpD_ (zL_ as fo g fs h)) rfl
 |.lst as,Z,c,E,e,fo,g,fs,h=>by
  apply kW_ h;intro es p h;exact zg_ (zrh_ (zL_ as fo g fs h)) rfl
 |.fld a f,Z,c,E,e,fo,g,fs,h=>by
  apply kA_ h;intro o f' p h;simp only[ky]at h;cases eq_of_beq h.1.1.1;exact zg_ (zln_ (λd hd=>⟨fo.cls d hd,fo.at_ d hd _ (by simpa using h.1.1.2)⟩) (za_ a fo g fs h.2).pe h.1.2) rfl
 |.call f x as,Z,c,E,e,fo,g,fs,h=>by
  apply kC_ h;intro y es q h;apply kN_ h;intro y p h;simp only[ky]at h;cases eq_of_beq h.1.1;obtain⟨g1,g2⟩:=zhf_ g h.1.2;obtain⟨ps,j,hj,F⟩:=fs _ (lj ..);exact zg_ (zj0_ F (g.room.mono hj) g.pass (zL_ as fo g (λφ cy=>fs φ (ll _ cy)) h.2) (zr_ h.2).1 g1 g2 (zj6_ h.2)) rfl
 |.bf o as,Z,c,E,e,fo,g,fs,h=>by
  apply kC_ h;intro y es q h;apply kN_ h;intro y p h;simp only[ky]at h;cases eq_of_beq h.1.1.1.1;exact zg_ (bf_pe g (fo.bs _ (by simpa using h.1.1.2)) (zL_ as fo g fs h.2) (zr_ h.2).1 (zn4_ h.2 h.1.2) h.1.1.1.2) rfl
 |.sm o a as,Z,c,E,e,fo,g,fs,h=>by
  apply kC_ h;intro y es q h;apply kA_ h;intro r m p h;simp only[ky]at h;cases eq_of_beq h.1.1.1.1.1.1;exact zg_ (sm_pe (za_ a fo g fs.l h.1.2).pe (zL_ as fo g fs.r h.2) (zr_ h.2).1 h.1.1.1.1.1.2 h.1.1.1.1.2 (of_decide_eq_true h.1.1.1.2) (zn4_ h.2 h.1.1.2)) rfl
 |.li a b,Z,c,E,e,fo,g,fs,h=>by
  apply kC_ h;intro y es q h;apply kA_ h;intro r m p h;apply kc_ h;intro x t h;simp only[ky]at h;cases eq_of_beq h.1.1.1.1.1.1;cases lW.mp h.1.1.1.2;have s:=h.1.1.2;have s0:([x].all noStar)=uO:=by rw[mr,s];rfl
  exact zg_ (zos_ zds_ qp PySem.F.type_list_index mt_li (za_ a fo g fs.l h.1.2).pe (zbv_ (za_ b fo g fs.r h.2).pe ze4_ (zj_ s)) (zdJ_ h.1.1.1.1.1.2) (zhy_ s0 (show 1<29 by decide)) h.1.1.1.1.2 (zj_ s) (zab_ rfl)) rfl
 |.comp lv fr ik src tg d x,Z,c,E,e,fo,g,fs,h=>by
  obtain⟨t,it,ifs,elt,sc,pos,rfl,cl,S,q1,q2,q3,q4,q5⟩:=zjk_ lv fr ik src tg d x (zgX_ src) (zL_ src) (zfB_ d) (za_ x) fo g fs h;exact zg_ (znS_ g.calm S q1 q2 q3 q4 (zcs_ q5)) rfl
 |.lr a b,Z,c,E,e,fo,g,fs,h=>by
  apply kC_ h;intro y es q h;apply kN_ h;intro y p h;apply kc_ h;intro r t h;apply kC_ h;intro z xs q2 h;apply kN_ h;intro z p2 h;apply kc_ h;intro x t1 h;apply kc_ h;intro w t2 h;simp only[ky]at h;obtain⟨⟨⟨⟨⟨⟨⟨⟨⟨⟨⟨h1,h2⟩,ht⟩,ht2⟩,h3⟩,h4⟩,h5⟩,h6⟩,h7⟩,h8⟩,h9⟩,h10⟩:=h;cases eq_of_beq h1;cases eq_of_beq h2;cases lW.mp ht;cases lW.mp ht2;obtain⟨g1,g2⟩:=zhf_ g h3;obtain⟨g3,g4⟩:=zhf_ g h4;exact zg_ (zmU_ "list" (zdg_ g.calm) (fo.bs _ (by simpa using h5)) (zbv_ (zmU_ "range" zfb_ (fo.bs _ (by simpa using h6)) (zbv_ (za_ a fo g fs.l h9).pe (zbv_ (za_ b fo g fs.r h10).pe ze4_ (zj_ h8)) (zj_ h7)) g3 rfl (by decide) g4 (zj_ h7) (zab_ (by simp[h8]))) ze4_ (zj_ rfl)) g1 rfl (by decide) g2 (zj_ rfl) (zab_ rfl)) rfl
 |.isa a n,Z,c,E,e,fo,g,fs,h=>by
  apply kC_ h;intro y es q h;apply kN_ h;intro y p h;apply kc_ h;intro x t h;apply kc_ h;intro z t2 h;apply kN_ h;intro z p2 h;simp only[ky]at h;obtain⟨⟨⟨⟨⟨⟨⟨⟨h1,ht⟩,h2⟩,h3⟩,h4⟩,h5⟩,h6⟩,h7⟩,h8⟩:=h;cases eq_of_beq h1;cases lW.mp ht;exact zg_ (zp0_ g (za_ a fo g fs h8).pe h4 h2 (fo.bs _ (by simpa using h3)) (eq_of_beq h5) h6 (fo.bs _ (by simpa using h7))) rfl
 |.srt _ _ _ _,Z,c,E,e,fo,g,fs,h=>by cases h
 |.mkd f d as dv,Z,c,E,e,fo,g,fs,h=>by
  apply kC_ h;intro y es q h;apply kN_ h;intro y p h;simp only[ky]at h;cases eq_of_beq h.1.1.1;obtain⟨g1,g2⟩:=zhf_ g h.1.1.2;obtain⟨ps,j,hj,F⟩:=fs _ (lj ..);cases es with
  |nil=>cases h.1.2
  |cons e es=>
   have hs:=(zr_ h.2).1;rw[mr,ky]at hs;exact zg_ (zjM_ F (g.room.mono hj) g.pass (zL_ as fo g (λφ cy=>fs φ (ll _ cy)) h.2) g1 g2 (zj_ hs.1) (zab_ hs.2)) rfl
 |.ds1 a b,Z,c,E,e,fo,g,fs,h=>by
  apply kDd_ h;intro ks vs p h;apply kco_ h;intro k kt h;apply kc_ h;intro v vt h;simp only[ky]at h;cases lW.mp h.1.1.1;cases lW.mp h.1.1.2;exact zg_ (ziS_ (zej_ (za_ a fo g fs.l h.1.2).pe (za_ b fo g fs.r h.2).pe zjl_) rfl rfl (λz=>by cases z) (m7 rfl)) rfl
 |.ds2 a b d f,Z,c,E,e,fo,g,fs,h=>by
  apply kDd_ h;intro ks vs p h;apply kco_ h;intro k kt h;apply kco_ h;intro l lt h;apply kc_ h;intro v vt h;apply kc_ h;intro w wt h;simp only[ky]at h;obtain⟨⟨⟨⟨⟨h1,h2⟩,h3⟩,h4⟩,h5⟩,h6⟩:=h;cases lW.mp h1;cases lW.mp h2;exact zg_ (ziS_ (zej_ (za_ a fo g fs.l h3).pe (za_ b fo g fs.r.l h4).pe (zej_ (za_ d fo g fs.r.r.l h5).pe (za_ f fo g fs.r.r.r h6).pe zjl_)) rfl rfl (λz=>by cases z) (m7 rfl)) rfl
 |.dct0,Z,c,E,e,fo,g,fs,h=>by
  apply kDi_ h;intro p;exact zg_ zko_ rfl
 |.ch3 o o' aK a b d f,Z,c,E,e,fo,g,fs,h=>by
  apply kM_ h;intro l os rs p h;apply kc_ h;intro r t h;apply kc_ h;intro r' t' h;apply kc_ h;intro ba h_ h;simp only[ky]at h;obtain⟨⟨⟨⟨⟨⟨h1,ht⟩,h4⟩,h5⟩,h6⟩,h7⟩,h8⟩:=h;cases lW.mp ht;obtain⟨op,aH,aG,g1,g2,g3,rfl⟩:=os3 (zim_ h1);exact zq9_ (zes_ g.units g1) (zes_ g.units g2) (zes_ g.units g3) (za_ a fo g fs.l.l h5) (za_ b fo g fs.l.r h6) (za_ d fo g fs.r.l h7) (za_ f fo g fs.r.r h8) h4
theorem zgX_:∀(as:List X) {Z:Cx}{c:Ck}{E:XK}{e:lq},T.Ok G Z.K Z.mg->Cg Z c k E->AllH Z k (X.fcss as)->chk1 T G c as e=uO->∃s,as=[s]/\PE Z e (s.den Z.K G E)
 |[],Z,c,E,e,fo,g,fs,h=>by unfold chk1 at h;cases h
 |s::as,Z,c,E,e,fo,g,fs,h=>by
  have h:=lX.mp h;cases lW.mp h.1;exact⟨s,rfl,(za_ s fo g fs.l h.2).pe⟩
theorem zL_:∀(as:List X) {Z:Cx}{c:Ck}{E:XK}{es:List lq},T.Ok G Z.K Z.mg->Cg Z c k E->AllH Z k (X.fcss as)->chkEs T G c as es=uO->PA Z es (X.dens Z.K G E as)
 |[],Z,c,E,es,fo,g,fs,h=>by
  show PA Z es tNil;rw[lW.mp h]
  exact ze4_
 |a::as,Z,c,E,es,fo,g,fs,h=>by
  apply kc_ h;intro e t h;simp only[ky]at h;exact zbv_ (za_ a fo g fs.l h.1.2).pe (zL_ as fo g fs.r h.2) (zj_ h.1.1)
theorem ziR_:∀(a:Option X) {Z:Cx}{c:Ck}{E:XK}{e:Option lq},T.Ok G Z.K Z.mg->Cg Z c k E->AllH Z k (X.fcsO a)->chkO T G c a e=uO->PO Z e (X.denO Z.K G E a)
 |none,Z,c,E,e,fo,g,fs,h=>by
  show PO Z e tNoPart;rw[nT.mp h]
  exact zm9_
 |some a,Z,c,E,e,fo,g,fs,h=>by
  cases e with
  |none=>cases h
  |some e=>exact po_M (za_ a fo g fs h).pe
theorem zfB_:∀(a:Option X) {Z:Cx}{c:Ck}{E:XK}{es:List lq},T.Ok G Z.K Z.mg->Cg Z c k E->AllH Z k (X.fcsO a)->chkIf T G c a es=uO->PIf Z es (X.denT Z.K G E a)
 |none,Z,c,E,es,fo,g,fs,h=>by
  show PIf Z es tTrue;rw[lW.mp h]
  exact zn7_
 |some a,Z,c,E,es,fo,g,fs,h=>by
  apply kc_ h;intro e t h;simp only[ky]at h;cases lW.mp h.1.1;exact znT_ ((za_ a fo g fs h.2).pt h.1.2)
end
end
structure Cq (Z:Cx)(c:Ck)(k:Nat)(E:XK):Prop extends Cg Z c k E where
 fn:∀x,Z.fn x=uO
 nd:c.N.Nodup
 own:PassesOwn (model Z.prog Z.w) Z.A Z.env Z.xe
 ex:Z.ex=[]
 stack:Z.stack=Z.env::Z.outer/\Z.env.frame=uM Z.env.locals
noncomputable def Y.isC:Y->Bool
 |.pu (.comp ..)=>uO |_=>uP
noncomputable def Bm.nm:Bm->Str
 |.append => "append" |.extend => "extend"
def Y.fcs:Y->List Fc
 |.pu x=>x.fcs
 |.mv i=>[]
 |.call f x as=>(X.call f x (as.map A.t)).fcs
 |.bm _ p as=>p.x.fcs++X.fcss (as.map A.t)
 |.bin _ y z=>y.fcs++z.fcs
 |.sd p k v=>p.x.fcs++(k.fcs++v.fcs)
 |.not y=>y.fcs
mutual
def S.fcs:S->List Fc
 |.asg _ y=>y.fcs
 |.setF p _ x=>p.x.fcs++x.fcs
 |.setI p k x=>p.x.fcs++(k.fcs++x.fcs)
 |.ex y=>y.fcs
 |.ret y=>y.fcs
 |.retN=>[]
 |.if_ c a b=>c.fcs++(S.fcss a++S.fcss b)
 |.ifY c a b=>c.fcs++(S.fcss a++S.fcss b)
 |.ifL c a b=>c.fcs++(S.fcss a++S.fcss b)
 |.for_ _ src _ b=>X.fcss src++S.fcss b
 |.pass=>[]
 |.cont=>[]
 |.never=>[]
 |.try0 b a8=>S.fcss b++S.fcss a8
def S.fcss:List S->List Fc
 |[]=>[]
 |s::ss=>s.fcs++S.fcss ss
end
section
variable (T:Ft)(G:Gi)
def chkY (c:Ck):Y->lq->Bool
 |.pu x,e=>chkE T G c x e
 |.mv i,e=>chkE T G c (.v i) e
 |.call f x as,e=>chkE T G c (.call f x (as.map A.t)) e
 |.bm o p as,e=>kC e λr es q=>kA r λr m ap=>m == o.nm && noSup r && ap.endLine == q.line && decide (es.length<29) && chkE T G c p.x r && chkEs T G c (as.map A.t) es
 | .bin o y z,e=>kB e (λl op r=>o.op == uM op && chkY c y l && chkY c z r)||
   kM e (λl os rs=>kc rs λr t=>os.map uM == [o.cmp] && t.isEmpty && noSet r && chkY c y l && chkY c z r)
 |.sd p k v,e=>kC e λr es q=>kA r λr m ap=>kc es λa t=>kc t λb t=>m=="setdefault" && t.isEmpty && noSup r && ap.endLine==q.line && noStar a && noStar b && chkE T G c p.x r && chkE T G c k a && chkE T G c v b
 |.not y,e=>kU e λo x=>o == .Not && noIf x && chkY c y x
noncomputable def sA:l8->(lq->lq->Bool)->Bool
 |.Assign [g] e _,k=>k g e |_,_=>uP
noncomputable def sE:l8->(lq->Bool)->Bool
 |.Expr e _,k=>k e |_,_=>uP
noncomputable def sR:l8->(Option lq->Bool)->Bool
 |.Return e _,k=>k e |_,_=>uP
noncomputable def sI:l8->(lq->List l8->List l8->Bool)->Bool
 |.If e a b _,k=>k e a b |_,_=>uP
def sF:l8->(lq->lq->List l8->Bool)->Bool
 |.For t i b [] _,k=>k t i b |_,_=>uP
noncomputable def sT:l8->(List l8->List l8->Bool)->Bool
 |.Try b (_::_) l [] _,k=>k b l |_,_=>uP
noncomputable def sP:l8->Bool
 |.Pass _=>uO |_=>uP
noncomputable def sC:l8->Bool
 |.Continue _=>uO |_=>uP
section
variable {s:l8}{C:l8->Prop}
theorem sA_ {k}(h:sA s k=uO)(H:∀g e q,k g e=uO->C (.Assign [g] e q)):C s:=by
 unfold sA at h;split at h
 ·exact H _ _ _ h
 ·cases h
theorem sE_ {k}(h:sE s k=uO)(H:∀e q,k e=uO->C (.Expr e q)):C s:=by cases s<;>first |exact H _ _ h |cases h
theorem sR_ {k}(h:sR s k=uO)(H:∀e q,k e=uO->C (.Return e q)):C s:=by cases s<;>first |exact H _ _ h |cases h
theorem sI_ {k}(h:sI s k=uO)(H:∀e a b q,k e a b=uO->C (.If e a b q)):C s:=by cases s<;>first |exact H _ _ _ _ h |cases h
theorem sF_ {k}(h:sF s k=uO)(H:∀t i b q,k t i b=uO->C (.For t i b [] q)):C s:=by
 unfold sF at h;split at h
 ·exact H _ _ _ _ h
 ·cases h
theorem sT_ {k}(h:sT s k=uO)(H:∀b a r l q,k b l=uO->C (.Try b (a::r) l [] q)):C s:=by
 unfold sT at h;split at h
 ·exact H _ _ _ _ _ h
 ·cases h
theorem sP_ (h:sP s=uO)(H:∀q,C (.Pass q)):C s:=by cases s<;>first |exact H _ |cases h
theorem sC_ (h:sC s=uO)(H:∀q,C (.Continue q)):C s:=by cases s<;>first |exact H _ |cases h
end
noncomputable def sc:List l8->(l8->List l8->Bool)->Bool
 |a::l,k=>k a l |[],_=>uP
theorem sc_ {l:List l8}{C:List l8->Prop}{k}(h:sc l k=uO)(H:∀a t,k a t=uO->C (a::t)):C l:=by cases l with |nil=>cases h |cons a t=>exact H a t h
noncomputable def isStr:Const->Bool
 |.str _=>uO |_=>uP
mutual
def chkS (c:Ck):S->l8->Bool
 |.asg i y,s=>sA s λg e=>tgB c i g && (noCmp e ||y.isC) && chkY T G c y e
 |.setF p n x,s=>sA s λg e=>kA g λo f _=>n == f && T.at_.contains n && chkE T G c p.x o && chkE T G c x e
 |.setI p k x,s=>sA s λg e=>kS g λo i=>noSl i && chkE T G c p.x o && chkE T G c k i && chkE T G c x e
 |.ex y,s=>sE s λe=>noCmp e && chkY T G c y e
 |.ret y,s=>sR s λe=>e.any (chkY T G c y)
 |.retN,s=>sR s λe=>e.isNone
 |.if_ d a b,s=>sI s λe x y=>noIf e && chkE T G c d e && chkSs c a x && chkSs c b y
 |.ifL d a b,s=>sI s λe x y=>plainT e && chkE T G c d e && chkSs c a x && chkSs c b y
 |.ifY d a b,s=>sI s λe x y=>noIf e && chkY T G c d e && chkSs c a x && chkSs c b y
 |.for_ ik src tg b,s=>sF s λt it x=>noSet it && tgOk c tg t && srcB T c ik tg it (chk1 T G c src it) (chkEs T G c src) && chkSs c b x
 |.pass,s=>sP s ||sE s λe=>kK e isStr
 |.cont,s=>sC s
 |.never,_=>uO
 |.try0 b a8,s=>sT s λx y=>chkSs c b x && chkSs c a8 y
def chkSs (c:Ck):List S->List l8->Bool
 |[],ss=>ss.isEmpty
 |a::as,ss=>sc ss λs ss=>chkS c a s && chkSs c as ss
end
end
section
variable {Z:Cx}{c:Ck}{k:Nat}{E:XK}{T:Ft}{G:Gi}{e o:lq}{es:List lq}{t:TE}{p pos apos:Pos}
def bmT (K:lR)(G:Gi)(E:XK)(b:Bm)(t:TE)(as:List A):TE:=match as with |[]=>tBM0 K b.ty b.r t |_=>tBM K b.ty b.r t (X.dens K G E (as.map A.t))
theorem bm_pe {b:Bm}{as:List A}(ho:PE Z o t)(ha:PA Z es (X.dens Z.K G E (as.map A.t)))(hs:es.all noStar=uO)(hb:noSup o=uO)(hl:(apos.endLine == pos.line)=uO)(hn:es.length<29)(h0:es=[]↔as=[]):PE Z (.Call (.Attribute o b.nm apos) es [] pos) (bmT Z.K G E b t as):=by
 have b0:=λn=>zdJ_ (env:=Z.env) (m:=n) hb
 cases as with
 |nil=>
  rw[h0.mpr rfl];cases b with
  |append=>exact zn0_ zds_ za3_ zbd_ zcH_ ho (b0 _) hl
  |extend=>exact zn0_ zds_ zbi_ za0_ zeu_ ho (b0 _) hl
 |cons a as=>
  cases es with
  |nil=>cases h0.mp rfl
  |cons e es=>
   have f:=zhy_ (env:=Z.env) (pos:=pos) hs hn;rw[mr,ky]at hs;have s1:=zj_ (env:=Z.env) (es:=es) hs.1;have s2:=zab_ (env:=Z.env) (pos:=pos) hs.2;cases b with
   |append=>exact zos_ zds_ za3_ zbd_ zcH_ ho ha (b0 _) f hl s1 s2
   |extend=>exact zos_ zds_ zbi_ za0_ zeu_ ho ha (b0 _) f hl s1 s2
theorem za8_:∀(y:Y) {e:lq},T.Ok G Z.K Z.mg->Cg Z c k E->AllH Z k y.fcs->chkY T G c y e=uO->Rd Z e (y.den Z.K G E)
 |.pu x,e,fo,g,fs,h=>za_ x fo g fs h
 |.mv i,e,fo,g,fs,h=>by
  exact za_ (.v i) fo g (λ_ z=>by cases z) h
 |.call f x as,e,fo,g,fs,h=>by
  exact za_ (.call f x (as.map A.t)) fo g fs h
 |.bm b p as,e,fo,g,fs,h=>by
  apply kC_ h;intro r es q h;apply kA_ h;intro r m ap h;simp only[ky]at h;cases eq_of_beq h.1.1.1.1.1;exact zg_ (bm_pe (b:=b) (za_ p.x fo g fs.l h.1.2).pe (zL_ _ fo g fs.r h.2) (zr_ h.2).1 h.1.1.1.1.2 h.1.1.1.2 (of_decide_eq_true h.1.1.2) ((zr_ h.2).2.trans List.map_eq_nil_iff)) rfl
 |.bin o y z,e,fo,g,fs,h=>by
  rcases(n5 _ _).mp h with h |h
  ·apply kB_ h;intro l op r p h
   simp only[ky]at h;exact zg_ (pe_op (bo_op (eq_of_beq h.1.1)) (za8_ y fo g fs.l h.1.2).pe (za8_ z fo g fs.r h.2).pe) rfl
  ·apply kM_ h;intro l os rs p h
   apply kc_ h;intro r t h;simp only[ky]at h;cases lW.mp h.1.1.1.2;obtain⟨op,ho,rfl⟩:=os1 (zim_ h.1.1.1.1);exact zmM_ (zes_ g.units ho) (za8_ y fo g fs.l h.1.2) (za8_ z fo g fs.r h.2) h.1.1.2
 |.sd p k v,e,fo,g,fs,h=>by
  apply kC_ h;intro r es q h;apply kA_ h;intro r m ap h;apply kc_ h;intro a t h;apply kc_ h;intro b t h;simp only[ky]at h;obtain⟨⟨⟨⟨⟨⟨⟨⟨h1,ht⟩,h2⟩,h3⟩,h4⟩,h5⟩,h6⟩,h7⟩,h8⟩:=h;cases eq_of_beq h1;cases lW.mp ht;have st:[a,b].all noStar=uO:=by simp[h4,h5]
  exact zg_ (zla_ g.units (za_ p.x fo g fs.l h6).pe (za_ k fo g fs.r.l h7).pe (za_ v fo g fs.r.r h8).pe ⟨zdJ_ h2,zhy_ st (show 2<29 by decide),h3,by rw[zaZ_ st];rfl⟩) rfl
 |.not y,e,fo,g,fs,h=>by
  apply kU_ h;intro o x p h;simp only[ky]at h;cases eq_of_beq h.1.1;exact znB_ (za8_ y fo g fs h.2) h.1.2
theorem zf2_ {elt:lq}{gs:List Comprehension}{sc:Scope}{x:Str}{p:Pos}{env:PySem.Env}{n:Nat}:∃b,swapsWith (.ListComp elt gs sc pos) (uM (.Name x p)) n env=pure b:=⟨_,rfl⟩
theorem zfO_ {f:Str}{n:Nat}:swapsWith e (uM (.Attribute o f p)) n Z.env=pure uP:=by cases e<;>rfl
theorem zh7_ {i:lq}{n:Nat}:swapsWithSole [.Subscript o i p] e n Z.env=pure uP:=by cases e<;>rfl
theorem zp8_ {i:lq}(h:noSl i=uO)(v:aU):assign (.Subscript o i p) Z.env v=(do
   let ov <- holding [v] (eval o Z.env)
   let iv <- holding [v,ov] (eval i Z.env)
   standAt p
   holding [v,ov,iv] (setItem ov iv v)
   release [v,ov,iv] []):=by
 cases i<;>first |rfl |cases h
theorem zqu_ (fo:T.Ok G Z.K Z.mg)(g:Cq Z c k E){i:Nat}{y:Y}{q:Pos}(fs:AllH Z k y.fcs)(h1:tgB c i o=uO)(h2:(noCmp e ||y.isC)=uO)(h3:chkY T G c y e=uO):
  PS Z (.Assign [o] e q) (tAsg (y.den Z.K G E) (gName i)):=by
 have hv:=(za8_ y fo g.toCg fs h3).pe;obtain⟨i_,x,p,rfl⟩:=zjO_ g.toCg g.nd (.inl g.fn) h1;unfold tgB at h1;rw[ky]at h1;have hi:Z.N[i]?=uM x:=by rw[g.N];exact eq_of_beq h1.1
 have hn:Z.N.Nodup:=by rw[g.N];exact g.nd
 have hl:=znq_ g.toCg h1.2;by_cases hc:noCmp e=uO
 ·exact zok_ hn hi hl hv (zf8_ hc _ _) (.inl (g.fn x))
 ·have hc:noCmp e=uP:=by simpa using hc
  rw[hc,tm]at h2;unfold Y.isC at h2;split at h2
  ·rename_i lv fr ik src tg d z
   obtain⟨t,it,ifs,elt,sc,pos,rfl,cl,S,q1,q2,q3,q4,q5⟩:=zjk_ lv fr ik src tg d z (zgX_ src) (zL_ src) (zfB_ d) (za_ z) fo g.toCg fs h3;obtain⟨b,hb⟩:=zf2_ (elt:=elt) (gs:=[⟨t,it,ifs,0⟩]) (sc:=sc) (pos:=pos) (x:=x) (p:=p) (env:=Z.env) (n:=q.line);cases b with
   |true=>
    exact zfs_ g.calm S q1 q2 q3 q4 i_ hb (zcs_ q5)
   |false=>exact zok_ hn hi hl hv hb (.inl (g.fn x))
  ·cases h2
theorem Cq.nox (g:Cq Z c k E):Cq Z.nox c k E0 where
 N:=g.N
 nm:=g.nm
 kind:=g.kind
 calm:=g.calm
 room:=g.room
 pass:=zhE_
 cells:=g.cells
 fn:=g.fn
 nd:=g.nd
 own:=PassesOwn.never
 ex:=g.ex
 stack:=g.stack
theorem zng_ {body orelse:List l8}{h₀:ExceptHandler}{hs:List ExceptHandler}{tb te:TS}(hb:PSs Z.nox body tb)(hl:PSs Z orelse te):PS Z (.Try body (h₀::hs) orelse [] pos) (tSeq tb te):=by
 intro pins s σ H D I h;refine wpAny_Try_except (mM (hb pins s σ H _ (I.wish _) h) (λf s1 q=>?_) λe s1 q=>lU q)
 replace q:=q.unwish;cases f with
 |next=>obtain⟨ai,H',I',q⟩:=q;exact hl pins s1 ai H' D I' q
 |ret v=>exact q
 |brk=>exact q
 |cont=>exact q
mutual
theorem zmX_:∀{Z:Cx}{E:XK}(fo:T.Ok G Z.K Z.mg) (g:Cq Z c k E) (s:S) {st:l8},AllH Z k s.fcs->chkS T G c s st=uO->PS Z st (s.den Z.K G E)
 |Z,E,fo,g,.asg i y,st,fs,h=>by
  apply sA_ h;intro o e q h;simp only[ky]at h;exact zqu_ fo g fs h.1.1 h.1.2 h.2
 |Z,E,fo,g,.setF p n x,st,fs,h=>by
  apply sA_ h;intro o e q h;apply kA_ h;intro o f r h;simp only[ky]at h;cases eq_of_beq h.1.1.1;have ha:=(za_ p.x fo g.toCg fs.l h.1.2).pe;have hv:=(za_ x fo g.toCg fs.r h.2).pe;intro pins s σ H D I q;obtain⟨d,hd,q⟩:=q;exact zlI_ (fo.cls d hd) (fo.at_ d hd _ (by simpa using h.1.1.2)) ha hv zfO_ pins s σ H D I q
 |Z,E,fo,g,.setI p k x,st,fs,h=>by
  apply sA_ h;intro o e q h;apply kS_ h;intro o i r h;simp only[ky]at h;exact zpY_ (za_ x fo g.toCg fs.r.r h.2).pe (zps_ (za_ p.x fo g.toCg fs.l h.1.1.2).pe (za_ k fo g.toCg fs.r.l h.1.2).pe (set_A g.units) (zp8_ h.1.1.1)) zh7_ zfI_
 |Z,E,fo,g,.ex y,st,fs,h=>by
  apply sE_ h;intro e q h;simp only[ky]at h;exact zna_ (za8_ y fo g.toCg fs h.2).pe (zf8_ h.1 _ _)
 |Z,E,fo,g,.ret y,st,fs,h=>by
  apply sR_ h;intro e q h;cases e with
  |none=>cases h
  |some e=>exact zmF_ (za8_ y fo g.toCg fs h).pe
 |Z,E,fo,g,.retN,st,fs,h=>by
  apply sR_ h;intro e q h;cases nT.mp h;exact zlm_
 |Z,E,fo,g,.if_ d a b,st,fs,h=>by
  apply sI_ h;intro e x y q h;simp only[ky]at h;exact zkl_ ((za_ d fo g.toCg fs.l h.1.1.2).pt h.1.1.1) (zI_ fo g a fs.r.l h.1.2) (zI_ fo g b fs.r.r h.2)
 |Z,E,fo,g,.ifL d a b,st,fs,h=>by
  apply sI_ h;intro e x y q h;simp only[ky]at h;exact zkl_ (zo6_ (za_ d fo g.toCg fs.l h.1.1.2).pe (zdH_ h.1.1.1)) (zI_ fo g a fs.r.l h.1.2) (zI_ fo g b fs.r.r h.2)
 |Z,E,fo,g,.ifY d a b,st,fs,h=>by
  apply sI_ h;intro e x y q h;simp only[ky]at h;exact zkl_ ((za8_ d fo g.toCg fs.l h.1.1.2).pt h.1.1.1) (zI_ fo g a fs.r.l h.1.2) (zI_ fo g b fs.r.r h.2)
 |Z,E,fo,g,.for_ ik src tg b,st,fs,h=>by
  apply sF_ h;intro t it x q h;simp only[ky]at h;exact zpO_ g.own g.calm (znn_ fo g.toCg (zlT_ h.1.1.2) h.1.2 (zgX_ src fo g.toCg fs.l) λes z=>⟨zL_ src fo g.toCg fs.l z,(zr_ z).1⟩) (tg_ok g.toCg g.nd (.inl g.fn) h.1.1.2) (zI_ fo g b fs.r h.2) (zcs_ h.1.1.1)
 |Z,E,fo,g,.pass,st,fs,h=>by
  rcases(n5 _ _).mp h with h |h
  ·apply sP_ h;intro q;exact znw_
  ·apply sE_ h;intro e q h
   apply kK_ h;intro d n p h;cases d<;>first |exact zpZ_ |cases h
 |Z,E,fo,g,.cont,st,fs,h=>by
  apply sC_ h;intro q;exact zfi_
 |Z,E,fo,g,.never,st,fs,h=>zkb_
 |Z,E,fo,g,.try0 b a8,st,fs,h=>by
  apply sT_ h;intro x a r y q h;simp only[ky]at h;have hb:=zI_ (Z:=Z.nox) (E:=E0) fo g.nox b fs.l h.1;have hl:=zI_ fo g a8 fs.r h.2;exact(show PS Z _ (tSeq (S.dens Z.K G E0 b) (S.dens Z.K G E a8))from zng_ hb hl)
theorem zI_:∀{Z:Cx}{E:XK}(fo:T.Ok G Z.K Z.mg) (g:Cq Z c k E) (ss:List S) {st:List l8},AllH Z k (S.fcss ss)->chkSs T G c ss st=uO->PSs Z st (S.dens Z.K G E ss)
 |Z,E,fo,g,[],st,fs,h=>by
  unfold chkSs at h;rw[S.dens,lW.mp h];exact zjp_
 |Z,E,fo,g,s::ss,st,fs,h=>by
  apply sc_ h;intro a t h;simp only[ky]at h;exact zgL_ (zmX_ fo g s fs.l h.1) (zI_ fo g ss fs.r h.2)
end
end
theorem zdQ_ {α:Type}{p:α->Prop}:∀x∈([]:List α),p x:=λ_ h=>by cases h
theorem zf_ {α:Type}{p:α->Prop}{a:α}{l:List α}(h:p a)(t:∀x∈l,p x):∀x∈a::l,p x:=λx hx=>by
 rcases lA.mp hx with rfl |hx
 ·exact h
 ·exact t x hx
theorem ftt_u {K:lR}{x:Str}{xs:List (List Nat)}(h:FtT K x xs):SqU K (gA K x) (xs.map tx):=by
 rcases h (λ_=>uN)with h |h
 ·rcases h with h |⟨_,h⟩<;>cases h
 ·exact h
noncomputable def AllF (Φ:Fc->Prop):List Fc->Prop
 |[]=>True
 |φ::l=>Φ φ/\AllF Φ l
theorem AllF.mem {Φ:Fc->Prop}:∀{l:List Fc},AllF Φ l->∀φ∈l,Φ φ
 |[],_,_,h=>by cases h
 |ψ::l,h,φ,hm=>by
  rcases lA.mp hm with rfl |hm
  ·exact h.1
  ·exact AllF.mem h.2 φ hm
section
variable {P:lN}{w:l7}{K:mj}{mg:Str->Option aU}{base:Heap}{x q:Str}{st:l8}{N ps:List Str}{k:Nat}{T:Ft}{G:Gi}{body:List S}
theorem zpg_ (S:FnScope N ps (defScope st)){f:kR}{ae:aU}{A:l9}{outer:List PySem.Env}{s:kF}{H:Hp}{E:XK}(hr:Room k (A.deeper (envOfC q (defScope st) s.heap.objs.size f ae))):
  Cq (cxOf CX0 P w K mg base N q (defScope st) f ae A outer s H E) ⟨N,(defScope st).names⟩ k E where
 N:=rfl
 nm:=rfl
 kind:=S.kind
 calm:=rfl
 room:=hr
 pass:=zhE_
 cells:=λx hx=>by
  rcases hx with hx |hx
  ·exact zdY_ hx
  ·exact absurd rfl (S.nofree _ (mi hx))
 fn:=λ_=>rfl
 nd:=S.nd
 own:=PassesOwn.leaving
 ex:=rfl
 stack:=⟨rfl,rfl⟩
theorem zgM_ {n m:Nat}{vs:List V}{H:Hp}{Q:VK}{E:XK}(h:CtG K (fnOf G n m body) vs H Q E):vs.length=n:=by
 obtain⟨F,h,ds,hs,dj,sh,os,fin⟩:=h;unfold fnOf at fin;split at fin
 ·rename_i hd
  rw[<- ODs.len os,hd]
 ·exact fin.elim
theorem _root_.L2.Fun.ok0 {f:kR}{fd:mH}{sp:Sp}(F:Fun K x q st f fd)(S:FnScope N ps (defScope st))(len:∀vs H Q E,sp vs H Q E->vs.length=ps.length)
  (hb:∀(ae:aU) (A:l9) (outer:List PySem.Env) (s:kF) (H:Hp) (vs:List V) (Q:VK) (E:XK),Room k (A.deeper (envOfC q (defScope st) s.heap.objs.size f ae))->sp vs H Q E ->
   ∃t,PSs (cxOf CX0 P w K mg base N q (defScope st) f ae A outer s H E) (defBody st) t/\t {nx:=λ_ H'=>Q .non H',rt:=Q} (start N vs) H):FnOk P w K mg base CX0 (k+1) f fd ps sp:=by
 obtain⟨oc,od,kV,doc,pm,an,ae,ct,aq,rfl,lk,au⟩:=F.ex;exact zp3_ lk au S len (hb ae)
theorem _root_.L2.FunD.ok0 {f:kR}{fd:mH}{sp:Sp}{T:kR}(F:FunD K T x q st f fd)(S:FnScope N ps (defScope st))(len:∀vs H Q E,sp vs H Q E->vs.length=ps.length)
  (hb:∀(ae:aU) (A:l9) (outer:List PySem.Env) (s:kF) (H:Hp) (vs:List V) (Q:VK) (E:XK),Room k (A.deeper (envOfC q (defScope st) s.heap.objs.size f ae))->sp vs H Q E ->
   ∃t,PSs (cxOf CX0 P w K mg base N q (defScope st) f ae A outer s H E) (defBody st) t/\t {nx:=λ_ H'=>Q .non H',rt:=Q} (start N vs) H):FnOk P w K mg base CX0 (k+1) f fd ps sp:=by
 obtain⟨oc,od,kV,doc,pm,an,ae,ct,aq,rfl,lk,au⟩:=F.ex;exact zp3_ lk au S len (hb ae)
theorem okV {n m:Nat}(g0:G.Ok K)(fo:T.Ok G K mg)(fs:AllF (Fc.H P w K mg base k) (S.fcss body))(hc:chkSs T G ⟨N,(defScope st).names⟩ body (defBody st)=uO)
  (S:FnScope N ps (defScope st)) (b:Bnd K x q st ps) (hp:ps.length=n) (hm:N.length=n+m):OkF P w K mg base CX0 (k+1) x q st ps (CtG K (fnOf G n m body)):=λf fd F=>
 ⟨F.ok0 S (λvs H Q E h=>(zgM_ h).trans hp.symm) λae A outer s H vs Q E hr h=>⟨VI.S.dens K G E body,zI_ fo (zpg_ S hr) body fs.mem hc,zkS_ g0 hm vs H Q E h⟩,b f fd F⟩
theorem okVD {n m:Nat}(g0:G.Ok K)(fo:T.Ok G K mg)(fs:AllF (Fc.H P w K mg base k) (S.fcss body))(hc:chkSs T G ⟨N,(defScope st).names⟩ body (defBody st)=uO)
  (S:FnScope N ps (defScope st)) (hp:ps.length=n) (hm:N.length=n+m):OkFD P w K mg base CX0 (k+1) x q st ps (CtG K (fnOf G n m body)):=λT f fd F=>
 F.ok0 S (λvs H Q E h=>(zgM_ h).trans hp.symm) λae A outer s H vs Q E hr h=>⟨VI.S.dens K G E body,zI_ fo (zpg_ S hr) body fs.mem hc,zkS_ g0 hm vs H Q E h⟩
noncomputable abbrev X.n (i:Int):X:=.k (.int i)
abbrev X.i (a:X)(n:Int):X:=.bin .ix a (.k (.int n))
abbrev GG (P:lN)(w:l7)(K:lR)(mg:Str->Option aU)(base:Heap)(k:Nat)(x:Str)(ps:List Str)(f:Fn):Prop:=Gd P w K mg base CX0 k x ps (CtG K f)
theorem fkc {j:Nat}{f:Fn}(g:GG P w K mg base j x ps f)(h:j<=k:=by decide):Fc.H P w K mg base k (.call f x):=⟨ps,j,h,g⟩
theorem okW {n m:Nat}(g0:G.Ok K)(fo:T.Ok G K mg)(fs:AllF (Fc.H P w K mg base k) (S.fcss body))(hc:chkSs T G ⟨N,(defScope st).names⟩ body (defBody st)=uO:=by decide +kernel)
  (S:FnScope N ps (defScope st):=by exact⟨rfl,rfl,rfl,by decide +kernel,rfl,by decide +kernel,by decide +kernel⟩)
  (b:Bnd K x q st ps:=by first |exact λ_ _ F=>Fun.binds1 rfl F λ_ _ _ _ _ _ _=>rfl |exact λ_ _ F=>Fun.binds2 rfl F λ_ _ _ _ _ _ _ _=>rfl |exact λ_ _ F=>Fun.binds3 rfl F λ_ _ _ _ _ _ _ _ _=>rfl |exact λ_ _ F=>Fun.binds4 rfl F λ_ _ _ _ _ _ _ _ _ _=>rfl)
  (hp:ps.length=n:=by rfl) (hm:N.length=n+m:=by rfl):OkF P w K mg base CX0 (k+1) x q st ps (CtG K (fnOf G n m body)):=okV g0 fo fs hc S b hp hm
def lamB (c:Ck)(sc:Scope)(p:Str)(fr:List (Str×Nat)):Bool:=
 sc.names.all (λy=>y.2 != .cell && (y.2 != .free ||c.nm.lookup y.1 == uM .cell ||c.nm.lookup y.1 == uM .free)) && sc.kind == .function && !sc.isCoroutine && !sc.isGenerator && sc.names.lookup p == uM .local &&
 fr.all λq=>c.N[q.2]? == uM q.1 && sc.names.lookup q.1 == uM .free && (c.nm.lookup q.1 == uM .cell ||c.nm.lookup q.1 == uM .free)
theorem zhD_ {Z:Cx}{c:Ck}{E:XK}{sc:Scope}{p:Str}{fr:List (Str×Nat)}(g:Cg Z c k E)(h:lamB c sc p fr=uO):∃cl,LScope Z sc cl p fr:=by
 unfold lamB at h;simp only[ky]at h;obtain⟨⟨⟨⟨⟨h1,h2⟩,h3⟩,h4⟩,h5⟩,h6⟩:=h;have h1:=mm.mp h1;have hc:∀y∈sc.names,y.2≠.cell:=λy hy=>by have:=h1 y hy;simp at this;exact this.1
 have hf:∀y∈sc.names,y.2=.free->c.nm.lookup y.1=uM .cell\/c.nm.lookup y.1=uM .free:=λy hy z=>by
  have:=h1 y hy;simp[z]at this;exact this
 obtain⟨cl,aS⟩:=za6_ (cells:=Z.env.cells) sc.names [] λy hy z=>g.cells _ (hf y hy z)
 refine⟨cl,aS,hc,eq_of_beq h2,by simpa using h3,by simpa using h4,eq_of_beq h5,λq hq=>?_⟩
 have:=mm.mp h6 q hq;simp at this;unfold pI;rw[g.N,g.nm];exact⟨this.1.1,this.1.2,this.2⟩
theorem zq4_ {Z:Cx}{c:Ck}{E:XK}{sc:Scope}{cl:List (Str×kR)}{p qu:Str}{fr:List (Str×Nat)}{f:kR}{ae:aU}{s2:kF}{H2:Hp}(g:Cg Z c (k+1) E)(S:LScope Z sc cl p fr):Cg (cxLam Z Z.A.in1.in1 qu sc cl f ae (p::fr.map (·.1)) s2 H2) ⟨p::fr.map (·.1),sc.names⟩ k E0:=
 ⟨rfl,rfl,S.kind,rfl,⟨g.room.hd,by have:=g.room.dp;show Z.A.depth+1+3*k+5<_;lia,by have:=g.room.un;show Z.A.units+1+1+3+16*k+200<_;lia⟩,zhE_,λx hx=>by
  rcases hx with z |z
  ·exact absurd rfl (S.cell _ (mi z))
  ·exact z5_ sc.names [] cl S.clos x (.inl (mi z))⟩
theorem zqv_ {n m:Nat}{p y:Str}{fr:List (Str×Nat)}{i:Nat}{e:X}{p0 p1 cW bM pos fU:Pos}{params:Arguments}{bN:lq}{sc:Scope}(M:Mgo K mg)(F:Fg K "put_in_order" st)(hl:L2.Fl K bM)(g0:G.Ok K)(fo:T.Ok G K mg)(fs:AllF (Fc.H P w K mg base k) e.fcs)
  (hb:defBody st=[.Return (uM (.Call (.Name "sorted" p0) [.Name y p1] [⟨uM "key",.Lambda params bN sc bM,cW⟩] pos)) fU]:=by rfl)
  (h1:lamB ⟨N,(defScope st).names⟩ sc p fr=uO:=by decide +kernel) (h2:chkE T G ⟨p::fr.map (·.1),sc.names⟩ e bN=uO:=by decide +kernel) (h3:(chkE T G ⟨N,(defScope st).names⟩ (.v i) (.Name y p1) && glB ⟨N,(defScope st).names⟩ "sorted" && T.bs.contains "sorted")=uO:=by decide +kernel)
  (h6:∀env,defaultsOf params env=([],[]):=by exact λ_=>rfl) (h7:∀q cl pm c' aF u,bindArgs (pY "<lambda>" q params bN sc cl pm (.ref c') aF) ⟨[u],[]⟩=pure [(p,u)]:=by exact λ_ _ _ _ _ _=>rfl)
  (S:FnScope N ps (defScope st):=by exact⟨rfl,rfl,rfl,by decide +kernel,rfl,by decide +kernel,by decide +kernel⟩) (b:Bnd K "put_in_order" "put_in_order" st ps:=by exact λ_ _ F=>Fun.binds2 rfl F λ_ _ _ _ _ _ _ _=>rfl) (hp:ps.length=n:=by rfl) (hm:N.length=n+m:=by rfl):
  GG P w K mg base (k+2) "put_in_order" ps (fnOf G n m [.ret (.pu (.srt p fr i e))]):=by
 obtain⟨_,X,N'⟩:=M;obtain⟨f,e',i'⟩:=F;obtain⟨fd,F⟩:=i'.fun_;have gR:=b f fd F;have kp:=F.kp;obtain⟨c,Pt,t1,t2,t3⟩:=hl;obtain⟨oc,od,kV,doc,pm,an,ae,ct,aq,rfl,lk,au⟩:=F.ex;have ec:ae=.ref c:=W.law_code X N' t1 (rM X N' e') (X _ _ lk) rfl;subst ec;simp only[ky]at h3;refine⟨f,_,zp3_ lk au S (λvs H Q E h=>(zgM_ h).trans hp.symm) (λA outer s H vs Q E hr h=>⟨_,?_,zkS_ g0 hm vs H Q E h⟩),rM X N' e',kp,gR⟩
 have g:=(zpg_ (P:=P) (w:=w) (K:=K) (mg:=mg) (base:=base) (outer:=outer) (H:=H) (E:=E) S hr).toCg;obtain⟨cl,L⟩:=zhD_ g h1;rw[hb];refine zgL_ (zmF_ ?_) zjp_
 exact zjN_ L hr.hd (by have:=hr.dp;exact rF (si _ (3*(k+1)+5)) (by rw[<- Nat.add_assoc];exact this)) (by have:=g.units;lia) rfl t2 t3 (fo.bs _ (by simpa using h3.2)) (zhf_ g h3.1.2).1 (za_ (.v i) fo g (λφ cy=>by cases cy) h3.1.1).pe (h6 _) (h7 _ cl)
  λf ae s2 H2=>(za_ e fo (zq4_ g L) fs.mem h2).pe
theorem fkd {j:Nat}{f:Fn}{dv:List D}(g:GkD P w K mg base CX0 j x (gA K x) ps ((flats dv).getD []) (CtG K f))(h:j+1<=k:=by decide):Fc.H P w K mg base k (.mkd f x dv):=⟨ps,j,h,g⟩
theorem bnd5 {T f:kR}{fd:mH}{arr:Array aU}{n:Nat}{oc:aU}{od:Option kR}{aq:Array (Option aU)}(hp:ps.length=10)(F:FunD K T x q st f fd)(lT:K.lookup T=uM ⟨oc,od,.seq arr n,aq⟩)(hl:arr.toList.length=5)
  (h:∀(d0 d1 d2 d3 d4:aU) (kV doc pm:aU) (an:Option kR) (ae ct:aU) (u0 u1 u2 u3 u4:aU) (s:kF),(∃o,s.heap.get? T=uM o/\o.data=.seq #[d0,d1,d2,d3,d4] n)->BindsTo s (W.fnOf x q (defArgs st) (defBody st) (defScope st) (.ref T) kV doc pm an ae ct) ⟨[u0,u1,u2,u3,u4],[]⟩ (ps.zip [u0,u1,u2,u3,u4,d0,d1,d2,d3,d4])):Binds K fd ps (arr.toList.drop 0):=by
 obtain⟨d0,d1,d2,d3,d4,rfl⟩:=arr5 hl;exact zjG_ hp F lT (h d0 d1 d2 d3 d4)
theorem FnOk.cx0 {f:kR}{fd:mH}{sp ib:Sp}(F:FnOk P w K mg base CX0 k f fd ps sp)(h:∀vs H Q E,ib vs H Q E->sp vs H Q E0):FnOk P w K mg base CX0 k f fd ps ib:=by
 refine⟨λvs H Q E q=>F.len _ _ _ _ (h _ _ _ _ q),λA outer s H args us vs Q E hr e0 hb r q=>codeAny_mono (F.run A outer s H args us vs Q E0 hr e0 hb r (h _ _ _ _ q)) λr s' z=>?_⟩
 cases r with
 |ok fl=>cases fl<;>exact z
 |error e=>exact z.elim
theorem zgB_:∀(ns:List Int) {H:Hp},DRs K (ns.map D.int) (ns.map V.int) H
 |[],_=>by unfold DRs;rfl
 |n::ns,H=>by rw[kX,kX];unfold DRs;exact⟨_,_,rfl,by unfold DR;rfl,zgB_ ns⟩
noncomputable def scr (ns:List Int):D:=.fz (.nd .scr (ns.map .int))
theorem zmD_ {f:Fn}(hf:∀ns:List Int,ns.length<=63->BitsOk ns->f.val [scr ns]=.ok (.bl uO)):∀vs H Q E,spL K vs H Q E->CtG K f vs H Q E0:=by
 rintro vs H Q E ⟨a,ns,rfl,hS,hl,hb,q⟩;refine zfR_ (ds:=[.nd .scr (ns.map .int)]) (Same.refl H) ?_ ?_
 ·unfold DRs;exact⟨_,_,rfl,by unfold DR;exact⟨a,_,rfl,hS,zgB_ ns⟩,by unfold DRs;rfl⟩
 ·have:[D.nd .scr (ns.map .int)].map D.vw=[scr ns]:=by
   unfold D.vw scr D.imm;rfl
  rw[this,hf ns hl hb];rintro F' H' x v h fresh d s o;have o:(∀p,h p=uN)/\DR K (.bl uO) v F':=by
   have o:OD K (.bl uO) v F' h:=o;unfold OD at o;exact o
  cases o.2.bl;exact q H'
theorem okLV {fa:kR}{fd:mH}{f:Fn}(F:FnOk P w K mg base CX0 k fa fd ps (CtG K f))(hf:∀ns:List Int,ns.length<=63->BitsOk ns->f.val [scr ns]=.ok (.bl uO)):FnOk P w K mg base CX0 k fa fd ps (spL K):=FnOk.cx0 F (zmD_ hf)
end
section
variable {G:Gi}{pn:Nat->Bool}{env e:Env}{ss a b:List S}{y:Y}{c:X}{d:D}{i:Nat}{ds:List D}
theorem rf_ {α:Type}{a:α}:a=a:=of_eq_true (eq_self a)
theorem zfL_ (r:Mr Env Fl)(f g:Env->Mr Env Fl):seqM (seqM r f) g=seqM r λe=>seqM (f e) g:=by
 cases r with
 |ok o e=>cases o<;>rfl
 |ex c e=>rfl
 |no=>rfl
theorem zkq_:∀(a:List S) (env:Env),seqM (S.runs G pn a env) (λe=>S.runs G pn b e)=S.runs G pn (a++b) env
 |[],env=>by rw[S.runs];rfl
 |s::a,env=>by
  rw[l0,S.runs,S.runs,zfL_];congr 1;funext e;exact zkq_ a e
theorem zkw_ (h:y.ev G env=.ok d e)(hp:pn i=uP)(hi:i<e.length):S.runs G pn (.asg i y::ss) env=S.runs G pn ss (e.set i (uM d)):=by
 rw[S.runs,S.run,h];show seqM (if pn i=uP/\i<e.length then .ok .nx (e.set i (uM d))else .no) _=_
 rw[if_pos ⟨hp,hi⟩];rfl
theorem zot_ (h:y.ev G env=.ok d e):S.runs G pn (.ex y::ss) env=S.runs G pn ss e:=by
 rw[S.runs,S.run,h];rfl
theorem zkF_ (h:y.ev G env=.ok d e):S.runs G pn (.ret y::ss) env=.ok (.rt d) e:=by
 rw[S.runs,S.run,h];rfl
theorem zl9_ (h:(c.ev G env).bind blD=.ok uO):S.runs G pn (.if_ c a b::ss) env=S.runs G pn (a++ss) env:=by
 rw[S.runs,S.run,h,<- zkq_];rfl
theorem zkV_ (h:(c.ev G env).bind blD=.ok uP):S.runs G pn (.if_ c a b::ss) env=S.runs G pn (b++ss) env:=by
 rw[S.runs,S.run,h,<- zkq_];rfl
theorem zbE_ (h:D.colds ds=uO)(i:Nat):pins ds i=uP:=by
 unfold pins;induction ds generalizing i with
 |nil=>rfl
 |cons d ds ih=>
  unfold D.colds at h;rw[ky]at h;cases i with
  |zero=>show(!d.cold)=uP;rw[h.1];rfl
  |succ i=>exact ih h.2 i
theorem zbb_:∀{ds:List D}{env:Env},D.colds ds=uO->outs ds env=ds
 |[],_,_=>by unfold outs;rfl
 |d::ds,[],h=>by
  unfold D.colds at h;rw[ky]at h;unfold outs;rw[if_pos h.1,zbb_ h.2]
 |d::ds,o::env,h=>by
  unfold D.colds at h;rw[ky]at h;unfold outs;rw[if_pos h.1,zbb_ h.2]
theorem zil_ {f:Fn}{ds':List D}(h:f ds=.ok d ds'):f.val ds=.ok d:=by unfold Fn.val;rw[h]
theorem zca_ (ns:List Int):(scr ns).vw=scr ns:=by unfold scr D.vw D.imm;rfl
theorem zpJ_ (i:Int):(D.int i).vw=.int i:=rfl
theorem zo8_ (l:List Nat):(D.str l).vw=.str l:=rfl
theorem bl_vw (b:Bool):(D.bl b).vw=.bl b:=rfl
theorem zpk_:D.non.vw=.non:=rfl
theorem zg3_ (ns:List Int):lenA [scr ns]=.ok (.int ns.length):=by
 show Mo.ok (D.int ((ns.map D.int).length:Nat))=_
 rw[kE]
theorem zfl_ {α:Type}{l:List α}{i:Int}{a:α}(h0:0<=i)(h:l[i.toNat]?=uM a):atI l i=uM a:=by
 have hi:=(lB.mp h).1;unfold atI ixN;rw[if_pos h0,if_pos (by omega)]
 exact h
section
variable (i j:Int)
theorem vd_lt:ltD (.int i) (.int j)=.ok (.bl (decide (i<j))):=rfl
theorem vd_le:leD (.int i) (.int j)=.ok (.bl (decide (i<=j))):=rfl
theorem vd_gt:gtD (.int i) (.int j)=.ok (.bl (decide (j<i))):=rfl
theorem vd_ge:geD (.int i) (.int j)=.ok (.bl (decide (j<=i))):=rfl
theorem zqa_:addA (.int i) (.int j)=.ok (.int (i+j)):=rfl
theorem zqX_:subD (.int i) (.int j)=.ok (.int (i-j)):=rfl
theorem zpT_:negD (.int i)=.ok (.int (-i)):=rfl
theorem vd_bl (b:Bool):blD (.bl b)=.ok b:=rfl
theorem vd_int:intD (.int i)=.ok i:=rfl
theorem zq1_ (l:List Nat):strOf (.str l)=.ok l:=rfl
end
theorem vd_mod {i j:Int}(h:0<j):modD (.int i) (.int j)=.ok (.int (i % j)):=by
 show Mo.grd _ _=_
 exact if_pos h
theorem zpN_ {i j:Int}(h:CDivG i j):divD (.int i) (.int j)=.ok (.int (i / j)):=by
 show Mo.grd _ _=_
 exact if_pos h
theorem znK_ {i j:Int}(h:IntMulOk i j):mulD (.int i) (.int j)=.ok (.int (i*j)):=by
 show Mo.grd _ _=_
 exact if_pos h
theorem vd_ix {ns:List Int}{k:Int}(h0:0<=k)(h:k<ns.length):ixA (scr ns) (.int k)=.ok (.int (ns.getD k.toNat 0)):=by
 show Mo.opt ((atI (ns.map D.int) k).map D.vw)=_
 have hk:k.toNat<ns.length:=by lia
 rw[zfl_ h0 (a:=.int (ns.getD k.toNat 0)) (by rw[kZ,kz hk];simp[kY,hk])]
 rfl
end
section
variable {α β s:Type}{G:Gi}{pn:Nat->Bool}{env e:Env}{d x y:D}
theorem zeo_ (g:Env->Mr Env Fl):seqM (.ok .nx e) g=g e:=of_eq_true (eq_self _)
theorem zo5_ (g:Env->Mr Env Fl):seqM (.ok (.rt d) e) g=.ok (.rt d) e:=of_eq_true (eq_self _)
theorem sq_ct (g:Env->Mr Env Fl):seqM (.ok .ct e) g=.ok .ct e:=of_eq_true (eq_self _)
theorem sq_ex (c:Xc)(g:Env->Mr Env Fl):seqM (.ex c e) g=.ex c e:=of_eq_true (eq_self _)
theorem zhi_ (a:α)(t:s)(k:α->s->Mr s β):(Mr.ok a t).bind k=k a t:=of_eq_true (eq_self _)
theorem mr_ex (c:Xc)(t:s)(k:α->s->Mr s β):(Mr.ex c t:Mr s α).bind k=.ex c t:=of_eq_true (eq_self _)
theorem zeq_ (a:α)(k:α->Mo β):(Mo.ok a).bind k=k a:=of_eq_true (eq_self _)
theorem ziy_ (a:α):Mo.opt (uM a)=.ok a:=of_eq_true (eq_self _)
theorem ifM_t (r1 r2:Mr Env Fl):ifM env (.ok uO) r1 r2=r1:=of_eq_true (eq_self _)
theorem ifM_f (r1 r2:Mr Env Fl):ifM env (.ok uP) r1 r2=r2:=of_eq_true (eq_self _)
theorem and_t (r:Mo D):andD (.bl uO) r=r:=of_eq_true (eq_self _)
theorem and_f (r:Mo D):andD (.bl uP) r=.ok (.bl uP):=of_eq_true (eq_self _)
theorem or_t (r:Mo D):orD (.bl uO) r=.ok (.bl uO):=of_eq_true (eq_self _)
theorem or_f (r:Mo D):orD (.bl uP) r=r:=of_eq_true (eq_self _)
theorem noE (o:Fl):noEx (.ok o e)=.ok o e:=of_eq_true (eq_self _)
theorem ag_d (d:D)(gs:List Ag):dsOf (.d d::gs)=(dsOf gs).map λds=>d::ds:=of_eq_true (eq_self _)
theorem ag_0:dsOf []=uM []:=of_eq_true (eq_self _)
theorem zlp_ (i:Nat)(hp:pn i=uP)(hi:i<e.length):asgM pn i (.ok d e)=.ok .nx (e.set i (uM d)):=by
 unfold asgM;rw[zhi_,if_pos ⟨hp,hi⟩]
theorem zqU_:dropM (.ok d e)=.ok .nx e:=of_eq_true (eq_self _)
theorem zp4_:retM (.ok d e)=.ok (.rt d) e:=of_eq_true (eq_self _)
theorem get_0 (l:Env):getE (uM d::l) 0=.ok d.vw:=of_eq_true (eq_self _)
theorem get_s (o:Option D)(l:Env)(n:Nat):getE (o::l) (n+1)=getE l n:=of_eq_true (eq_self _)
theorem mv_0 (l:Env):mvM (uM d::l) 0=.ok d (uN::l):=of_eq_true (eq_self _)
theorem mv_s (o:Option D)(l:Env)(n:Nat):mvM (o::l) (n+1)=match mvM l n with |.ok d e=>.ok d (o::e)|.ex c e=>.ex c (o::e)|.no=>.no:=by
 unfold mvM;rw[nv]
 match l[n]? with
 |some (uM d)=>rfl
 |some uN=>rfl
 |none=>rfl
def keep (m:Mo D)(env:Env)(u:List Nat):Mr Env D:=match m with
 |.ok d=>if d.new then .ok d env else .ok d (frzE env u)
 |.ex c=>.ex c env
 |.no=>.no
theorem zgG_ (x:X):stX G env x=keep (x.ev G env) env x.uses:=rfl
theorem zF_ (u:List Nat)(hn:d.new=uO):keep (.ok d) env u=.ok d env:=if_pos hn
theorem zmJ_ (u:List Nat)(hn:d.new=uP):keep (.ok d) env u=.ok d (frzE env u):=if_neg (by rw[hn];decide)
section
variable (neg:Bool)(lo hi:Option Int)
theorem fz_ix:ixA (.fz d) x=ixA d x:=of_eq_true (eq_self _)
theorem fz_in:inA neg x (.fz d)=inA neg x d:=of_eq_true (eq_self _)
theorem zo7_:lenA [.fz d]=lenA [d]:=of_eq_true (eq_self _)
theorem zmQ_:addA (.fz d) x=addA d x:=of_eq_true (eq_self _)
theorem zlG_:addA x (.fz d)=addA x d:=of_eq_true (eq_self _)
theorem fz_sl:slA (.fz d) lo hi=slA d lo hi:=of_eq_true (eq_self _)
theorem zqT_ (cs:List Str)(f:Str):fldD cs f (.fz d)=fldD cs f d:=of_eq_true (eq_self _)
theorem zlZ_:listA [.fz d]=listA [d]:=of_eq_true (eq_self _)
theorem zmp_:walkA [.fz d]=walkA [d]:=of_eq_true (eq_self _)
theorem zqs_:allD [.fz d]=allD [d]:=of_eq_true (eq_self _)
theorem zlC_:sortI [.fz d]=sortI [d]:=of_eq_true (eq_self _)
theorem fz_is:isD neg (.fz d) x=isD neg d x:=of_eq_true (eq_self _)
theorem zpx_ (n:String):isaD n (.fz d)=isaD n d:=of_eq_true (eq_self _)
theorem fz_bl:blD (.fz d)=blD d:=of_eq_true (eq_self _)
theorem zoL_:intD (.fz d)=intD d:=of_eq_true (eq_self _)
theorem zoQ_:revD [.fz d]=revD [d]:=of_eq_true (eq_self _)
theorem fz_rv:rvD (.fz d)=rvD d:=of_eq_true (eq_self _)
theorem zmr_:zipD [.fz d,x]=zipD [d,x]:=of_eq_true (eq_self _)
theorem znm_:zipD [x,.fz d]=zipD [x,d]:=of_eq_true (eq_self _)
theorem zlL_:enumD [.fz d]=enumD [d]:=of_eq_true (eq_self _)
theorem zqy_ (n:Nat):eqT n (.fz d) x=eqT n d x:=by cases n<;>rfl
theorem ziE_ (n:Nat):eqT n x (.fz d)=eqT n x d:=by cases n<;>rfl
theorem fz_eq:eqD neg (.fz d) x=eqD neg d x:=by unfold eqD;rw[zqy_]
theorem zp7_:eqD neg x (.fz d)=eqD neg x d:=by unfold eqD;rw[ziE_]
theorem fz_vw (h:d.imm=uP):(D.fz d).vw=.fz d:=by unfold D.vw;rw[if_neg];rw[show(D.fz d).imm=d.imm from by rw[D.imm]];rw[h];decide
end
theorem zpE_ (i:Int):X.ev G env (.k (.int i))=.ok (.int i):=rf_
theorem zrl_ (l:List Nat):X.ev G env (.k (.str l))=.ok (.str l):=rf_
theorem xk_bl (b:Bool):X.ev G env (.k (.bl b))=.ok (.bl b):=rf_
theorem zqP_:X.ev G env (.k .non)=.ok .non:=rf_
theorem zrk_ (n:Str)(i:Int):X.ev G env (.g n (.int i))=.ok (.int i):=rf_
theorem zp5_ (n:Str)(l:List Nat):X.ev G env (.g n (.str l))=.ok (.str l):=rf_
theorem or_b (a b:Bool):orD (.bl a) (.ok (.bl b))=.ok (.bl (a ||b)):=by cases a<;>rfl
theorem and_b (a b:Bool):andD (.bl a) (.ok (.bl b))=.ok (.bl (a && b)):=by cases a<;>rfl
theorem min_i (i j:Int):minD [.int i,.int j]=.ok (.int (min i j)):=of_eq_true (eq_self _)
theorem ziO_ {i j:Int}(h0:0<j)(h1:j<1073741824):divD (.int i) (.int j)=.ok (.int (i / j)):=zpN_ (zlr_ h0 (by lia))
theorem zi7_ {i j:Int}(h0 : -18446744073709551616<i)(h1:i<18446744073709551616):mulD (.int i) (.int j)=.ok (.int (i*j)):=znK_ (zc6_ (.inl ⟨by lia,by lia⟩))
theorem zof_ {i j:Int}(h0 : -18446744073709551616<j)(h1:j<18446744073709551616):mulD (.int i) (.int j)=.ok (.int (i*j)):=znK_ (zc6_ (.inr ⟨by lia,by lia⟩))
theorem nw_bl (b:Bool):(D.bl b).new=uO:=by rw[D.new]<;>simp
theorem zki_ (i:Int):(D.int i).new=uO:=by rw[D.new]<;>simp
theorem zk1_ (l:List Nat):(D.str l).new=uO:=by rw[D.new]<;>simp
theorem zoE_:D.non.new=uO:=by rw[D.new]<;>simp
theorem nw_nd (k:Nd)(ds:List D):(D.nd k ds).new=D.news ds:=by rw[D.new]
theorem nw_c (d:D)(ds:List D):D.news (d::ds)=(d.new && D.news ds):=by rw[D.news]
theorem nw_0:D.news []=uO:=by rw[D.news]
section
variable (a b c x:X)(as:List X)
theorem xv_v (i:Nat):X.ev G env (.v i)=getE env i:=rf_
theorem zpd_ (o:Bo):X.ev G env (.bin o a b)=(a.ev G env).bind λx=>(b.ev G env).bind λy=>o.f x y:=rf_
theorem xv_ch (o o':Bo):X.ev G env (.ch o o' a b c)=(a.ev G env).bind λx=>(b.ev G env).bind λy=>chD o o' x y (c.ev G env):=rf_
theorem zqM_ (o o' aK:Bo):X.ev G env (.ch3 o o' aK a b c x)=(a.ev G env).bind λu=>(b.ev G env).bind λy=>ch3D o o' aK u y (c.ev G env) (x.ev G env):=rf_
theorem zpW_:X.ev G env (.and a b)=(a.ev G env).bind λx=>andD x (b.ev G env):=rf_
theorem xv_or:X.ev G env (.or a b)=(a.ev G env).bind λx=>orD x (b.ev G env):=rf_
theorem zra_:X.ev G env (.not a)=(a.ev G env).bind λx=>(blD x).bind λb=>.ok (.bl (!b)):=rf_
theorem zpR_:X.ev G env (.neg a)=(a.ev G env).bind negD:=rf_
theorem zoU_:X.ev G env (.ifx c a b)=((c.ev G env).bind blD).bind λt=>if t=uO then a.ev G env else b.ev G env:=rf_
theorem xv_sl (lo hi:Option X):X.ev G env (.sl a lo hi)=(a.ev G env).bind λx=>(X.evO G env lo).bind λl=>(X.evO G env hi).bind λh=>slA x l h:=rf_
theorem zpy_:X.ev G env (.tup as)=(X.evs G env as).bind λds=>.lim ds.length (.ok (.nd .tup ds)):=rf_
theorem zpQ_:X.ev G env (.lst as)=(X.evs G env as).bind λds=>.lim ds.length (.ok (.nd .lst ds)):=rf_
theorem zqW_ (f:Str):X.ev G env (.fld a f)=(a.ev G env).bind (fldD G.cs f):=rf_
theorem znp_ (f:Fn)(n:Str):X.ev G env (.call f n as)=(X.evs G env as).bind λds=>f.val (ds.map .vw):=rf_
theorem xv_bf (o:Bf):X.ev G env (.bf o as)=(X.evs G env as).bind o.f:=rf_
theorem xv_sm (o:Sm):X.ev G env (.sm o a as)=(a.ev G env).bind λd=>(strOf d).bind λl=>(X.evs G env as).bind λc=>o.f l c:=rf_
theorem zpU_ {p:Str}{fr:List (Str×Nat)}{i:Nat}:X.ev G env (.srt p fr i a)=(getE env i).bind λd=>(strL d).bind λls=>.grd (ls.length<64) ((compM (λx=>cond1 (.ok uO) (a.ev G (setE (cE [p] fr env) [0] x))) (ls.map λl=>[D.str l]) []).bind λks=>srtK ls ks):=rf_
theorem zqc_ (f:Fn)(n:Str)(dv:List D):X.ev G env (.mkd f n as dv)=if(flats dv).isSome then(X.evs G env as).bind λds=>makeD f n (ds++dv)else .no:=rf_
theorem zpX_:X.ev G env (.ds1 a b)=(a.ev G env).bind λx=>(b.ev G env).bind λy=>dspD [x,y]:=rf_
theorem zq7_ {c d:X}:X.ev G env (.ds2 a b c d)=(a.ev G env).bind λx=>(b.ev G env).bind λy=>(c.ev G env).bind λz=>(d.ev G env).bind λw=>dspD [x,y,z,w]:=rf_
theorem xv_li:X.ev G env (.li a b)=(a.ev G env).bind λx=>(strL x).bind λls=>(b.ev G env).bind (liD ls):=rf_
theorem xv_lr:X.ev G env (.lr a b)=(a.ev G env).bind λx=>(b.ev G env).bind λy=>lrD x y:=rf_
theorem zqV_ (n:String):X.ev G env (.isa a n)=(a.ev G env).bind (isaD n):=rf_
theorem zqS_:X.ev G env .dct0=.ok (.nd (.dct []) []):=rf_
theorem xs_0:X.evs G env []=.ok []:=rf_
theorem xs_c:X.evs G env (a::as)=(a.ev G env).bind λd=>(X.evs G env as).bind λds=>.ok (d::ds):=rf_
theorem xo_0:X.evO G env uN=.ok uN:=rf_
theorem xo_s:X.evO G env (uM a)=(a.ev G env).bind λd=>(intD d).bind λi=>.ok (uM i):=rf_
theorem xt_0:X.evT G env uN=.ok uO:=rf_
theorem xt_s:X.evT G env (uM a)=(a.ev G env).bind blD:=rf_
end
def En (r:Mr Env Fl)(Q:Fl->Env->Prop):Prop:=∃o e,r=.ok o e/\Q o e
theorem ziu_ {l:List β}{enc:β->List D}{is:List Nat}{body k:Env->Mr Env Fl}{Q:Fl->Env->Prop}(P:List β->Env->Prop)(h0:P [] env)
  (hs:∀d x r e,l=d++x::r->P d e->∃e',setG pn e is (enc x)=uM e'/\En (body e') λo bw=>((o=.nx\/o=.ct)/\P (d++[x]) bw)\/((∃v,o=.rt v)/\Q o bw))
  (hk:∀e,P l e->En (k e) Q):En (seqM (forM (λe x=>match setG pn e is x with |some e'=>body e' |none=>.no) (l.map enc) env) k) Q:=by
 suffices main:∀(r d:List β) (e:Env),l=d++r->P d e->En (forM (λe x=>match setG pn e is x with |some e'=>body e' |none=>.no) (r.map enc) e) (λo e=>(o=.nx/\P l e)\/((∃v,o=.rt v)/\Q o e)) by
  obtain⟨o,e,h,q⟩:=main l [] env rfl h0;rw[h];rcases q with⟨rfl,q⟩|⟨⟨v,rfl⟩,q⟩
  ·rw[zeo_];exact hk e q
  ·rw[zo5_];exact⟨_,_,rfl,q⟩
 intro r;induction r with
 |nil=>intro d e hl hp;rw[nU]at hl;subst hl;exact⟨.nx,e,rfl,.inl ⟨rfl,hp⟩⟩
 |cons x r ih=>
  intro d e hl hp;obtain⟨e',h1,o,bw,h2,q⟩:=hs d x r e hl hp;rw[kX];unfold forM;simp only[h1,h2];rcases q with⟨h |h,q⟩|⟨⟨v,h⟩,q⟩
  ·subst h;exact ih (d++[x]) bw (by rw[hl,nr];rfl) q
  ·subst h;exact ih (d++[x]) bw (by rw[hl,nr];rfl) q
  ·subst h;exact⟨_,_,rfl,.inr ⟨⟨v,rfl⟩,q⟩⟩
theorem ziB_ {l:List β}{enc:β->List D}{ik:Ik}{x:X}{tg:Tg}{b ss:List S}{Q:Fl->Env->Prop}{e1:Env}{items:List D}(P:List β->Env->Prop)(hg:keep (x.ev G env) env x.uses=.ok d e1)(hi:ik.f [d]=.ok items)(ht:tgsD tg items=uM (l.map enc))(h0:P [] e1)
  (hs:∀d x r e,l=d++x::r->P d e->∃e',setG pn e tg.is (enc x)=uM e'/\En (S.runs G pn b e') λo bw=>((o=.nx\/o=.ct)/\P (d++[x]) bw)\/((∃v,o=.rt v)/\Q o bw))
  (hk:∀e,P l e->En (S.runs G pn ss e) Q):En (S.runs G pn (.for_ ik [x] tg b::ss) env) Q:=by
 have e0:evG G env ([x].map .x)=.ok [.d d] e1:=by
  show((stX G env x).bind λd e=>(evG G e []).bind λgs e'=>.ok (.d d::gs) e')=_
  rw[zgG_,hg];rfl
 rw[S.runs,S.run,e0];have e1:forS pn ik tg (.ok [.d d] e1) (λe=>S.runs G pn b e)=forM (λe x=>match setG pn e tg.is x with |some e'=>S.runs G pn b e' |none=>.no) (l.map enc) e1:=by
  unfold forS;show(match ik.f [d]with |.ok items=>_ |_=>_)=_
  rw[hi];show(match tgsD tg items with |some xs=>_ |none=>_)=_
  rw[ht]<;>rfl
 rw[e1];exact ziu_ P h0 hs hk
theorem zby_ {y:Y}{i:Nat}{ss:List S}(h:y.ev G env=.ok d env)(hp:pn i=uP)(hi:Nat.ble (i+1) env.length=uO:=by rfl):S.runs G pn (.asg i y::ss) env=S.runs G pn ss (env.set i (uM d)):=zkw_ h hp (m7 hi)
theorem zcj_ {l:List β}{enc:β->List D}{ik:Ik}{x:X}{tg:Tg}{b ss:List S}{Q:Fl->Env->Prop}{items:List D}(P:List β->Env->Prop)(hg:keep (x.ev G env) env x.uses=.ok d env)(hi:ik.f [d]=.ok items)(ht:tgsD tg items=uM (l.map enc))(h0:P [] env)
  (hs:∀d x r e,l=d++x::r->P d e->∃e',setG pn e tg.is (enc x)=uM e'/\En (S.runs G pn b e') λo bw=>((o=.nx\/o=.ct)/\P (d++[x]) bw)\/((∃v,o=.rt v)/\Q o bw))
  (hk:∀e,P l e->En (S.runs G pn ss e) Q):En (S.runs G pn (.for_ ik [x] tg b::ss) env) Q:=ziB_ P hg hi ht h0 hs hk
theorem zeD_ {l:List β}{enc:β->D}{i:Nat}{a:Env}{b:Env}{o:Option D}{body k:Env->Mr Env Fl}{Q:Fl->Env->Prop}(hi:a.length=i)(hp:pn i=uP)
  (hs:∀x∈l,En (body (a++uM (enc x).vw::b)) λo e=>o=.nx/\e=a++uM (enc x).vw::b)
  (hk:∀o,En (k (a++o::b)) Q):En (seqM (forM (λe x=>match setG pn e [i] x with |some e'=>body e' |none=>.no) (l.map λx=>[enc x]) (a++o::b)) k) Q:=by
 refine ziu_ (enc:=λx=>[enc x]) (λ_ e=>∃o,e=a++o::b) ⟨o,rfl⟩ (λd x r e hl he=>?_) (λe he=>?_)
 ·obtain⟨o,rfl⟩:=he
  refine⟨a++uM (enc x).vw::b,?_,?_⟩
  ·unfold setG
   rw[if_pos ⟨hp,by rw[lC,lp];lia⟩]
   unfold setG;rw[<- hi,List.set_append_right _ _ (kP _),rL,oG]
  ·obtain⟨o',e',h1,rfl,rfl⟩:=hs x (by rw[hl];simp)
   exact⟨_,_,h1,.inl ⟨.inl rfl,_,rfl⟩⟩
 ·obtain⟨o,rfl⟩:=he;exact hk o
theorem frz_0 (l:Env):frz1 (uM d::l) 0=uM d.vw::l:=of_eq_true (eq_self _)
theorem frz_n (l:Env):frz1 (uN::l) 0=uN::l:=of_eq_true (eq_self _)
theorem frz_s (o:Option D)(l:Env)(n:Nat):frz1 (o::l) (n+1)=o::frz1 l n:=by
 unfold frz1;rw[nv]
 match l[n]? with
 |some (uM d)=>rfl
 |some uN=>rfl
 |none=>rfl
def atS (env:Env)(i:Nat):Option D:=match env[i]? with |some o=>o |none=>uN
theorem atS_0 (o:Option D)(l:Env):atS (o::l) 0=o:=of_eq_true (eq_self _)
theorem atS_s (o:Option D)(l:Env)(n:Nat):atS (o::l) (n+1)=atS l n:=by unfold atS;rw[nv]
theorem zjm_ (i:Nat):atE env (i,[])=atS env i:=by
 unfold atE atS
 match env[i]? with
 |some (uM d)=>show d.at []=_;rw[D.at]
 |some uN=>rfl
 |none=>rfl
theorem zhR_ {i:Nat}{c c':D}(h:atS env i=uM c):putE env (i,[]) c'=env.set i (uM c'):=by
 unfold putE;unfold atS at h
 match e:env[i]?,h with
 |some (uM d),_=>show env.set i (uM (d.put [] c'))=_;rw[D.put]
def call1 (f:Fn)(i:Nat)(ds:List D)(e:Env):Mr Env D:=match atS e i with
 |some c=>(match f (c::ds)with
  |.ok r (c'::_)=>.ok r (e.set i (uM c'))
  |.ok r []=>.ok r e
  |.ex x (c'::_)=>.ex x (e.set i (uM c'))
  |.ex x []=>.ex x e
  |.no=>.no)
 |none=>.no
def agD (ds:List D):List Ag:=ds.map .d
theorem zmq_:∀(ds:List D),resolve e (agD ds)=uM ds
 |[]=>rfl
 |d::ds=>by show(resolve e (agD ds)).map _=_;rw[zmq_ ds];rfl
theorem znA_ (q:Pl):∀(ds:List D),apartOf q (agD ds)=uO
 |[]=>rfl
 |d::ds=>znA_ q ds
theorem znW_:∀(ds:List D),apartAll (agD ds)=uO
 |[]=>rfl
 |d::ds=>znW_ ds
theorem zk4_:∀(ds ds':List D),restE e (agD ds) ds'=e
 |[],ds'=>by cases ds'<;>rfl
 |d::ds,[]=>rfl
 |d::ds,_::ds'=>zk4_ ds ds'
theorem zi4_ {f:Fn}{i:Nat}{ds:List D}:callG f (.l (i,[])::agD ds) e=call1 f i ds e:=by
 unfold callG;show(match(atE e (i,[])).bind λc=>(resolve e (agD ds)).map λds=>c::ds with |some ds'=>_ |none=>_)=_
 rw[zjm_,zmq_];unfold call1;cases h:atS e i with
 |none=>rfl
 |some c=>
  show(if(apartOf (i,[]) (agD ds) && apartAll (agD ds))=uO then _ else _)=_
  rw[znA_,znW_,if_pos (show(uO && uO)=uO from rfl)]
  dsimp only;cases f (c::ds)with
  |no=>rfl
  |ok r ds'=>
   cases ds' with
   |nil=>rfl
   |cons c' ds'=>show Mr.ok r (putE (restE e (agD ds) ds') (i,[]) c')=_;rw[zk4_,zhR_ h]
  |ex x ds'=>
   cases ds' with
   |nil=>rfl
   |cons c' ds'=>show Mr.ex x (putE (restE e (agD ds) ds') (i,[]) c')=_;rw[zk4_,zhR_ h]
def onS (T:String)(env:Env)(i:Nat)(m:Mr Env D):Mr Env D:=match atS env i with |some c=>if isK T c=uO then m else .no |none=>.no
theorem zog_ (i:Nat)(as:List A)(T:String)(k:Pl->List Ag->Env->Mr Env D):lentG G env (.v i) as (isK T) k=onS T env i ((evG G env as).bind (k (i,[]))):=by
 unfold lentG onS;have e:Pt.ev G env (.v i)=if(atS env i).isSome then Mo.ok (i,[])else Mo.no:=by rw[Pt.ev,zjm_]
 rw[e];cases h:atS env i with
 |none=>rfl
 |some c=>
  have e2:=zjm_ (env:=env) i;rw[h]at e2;simp only[rD,if_true,e2]
theorem bm_v (o:Bm)(i:Nat)(x:X):Y.ev G (.bm o (.v i) [.x x]) env=onS o.ty env i ((keep (x.ev G env) env x.uses).bind λd e=>call1 o.f i [d] e):=by
 rw[Y.ev,zog_];congr 1;show((stX G env x).bind λd e=>(evG G e []).bind λgs e'=>.ok (.d d::gs) e').bind _=_
 rw[zgG_];cases keep (x.ev G env) env x.uses with
 |ok d e=>exact zi4_ (ds:=[d])
 |ex c e=>rfl
 |no=>rfl
theorem sd_v (i:Nat)(k v:X):Y.ev G (.sd (.v i) k v) env=onS "dict" env i ((keep (k.ev G env) env k.uses).bind λa e=>(keep (v.ev G e) e v.uses).bind λd e'=>call1 setdF i [a,d] e'):=by
 rw[Y.ev,zog_];congr 1;show((stX G env k).bind λa e=>((stX G e v).bind λd e'=>(evG G e' []).bind λgs e'=>.ok (.d d::gs) e').bind λgs e'=>.ok (.d a::gs) e').bind _=_
 rw[zgG_];cases keep (k.ev G env) env k.uses with
 |ok a e=>
  rw[zhi_,zhi_,zgG_];cases keep (v.ev G e) e v.uses with
  |ok d e'=>exact zi4_ (ds:=[a,d])
  |ex c e=>rfl
  |no=>rfl
 |ex c e=>rfl
 |no=>rfl
theorem zeV_ (x:X):Y.ev G (.pu x) env=keep (x.ev G env) env x.uses:=by rw[Y.ev,zgG_]
theorem ye_mv (i:Nat):Y.ev G (.mv i) env=mvM env i:=by rw[Y.ev]
theorem zoF_ (y:Y):Y.ev G (.not y) env=(y.ev G env).bind λd e=>moTo ((blD d).bind λb=>.ok (.bl (!b))) e:=by rw[Y.ev]
theorem zpM_ (o:Bo)(y z:Y):Y.ev G (.bin o y z) env=(y.ev G env).bind λd e=>(z.ev G e).bind λd2 e2=>moTo (o.f d d2) e2:=by rw[Y.ev]
theorem to_ok (a:α):moTo (.ok a) e=.ok a e:=of_eq_true (eq_self _)
theorem zkW_ {i:Nat}{k x:X}{d a c c' r d' a':D}(hx:x.ev G env=.ok d)(hd:d.new=uO)(hk:k.ev G env=.ok a)(ha:a.new=uO)(hc:atS env i=uM c)(hf:setIF [d,c,a]=.ok r [d',c',a']):setIM G (.v i) k x env=.ok .nx (env.set i (uM c')):=by
 unfold setIM;have e:Pt.ev G env (.v i)=Mo.ok (i,[]):=by rw[Pt.ev,zjm_,hc];rfl
 have e1:evG G env [.x x,.l (.v i),.x k]=.ok [.d d,.l (i,[]),.d a] env:=by
  unfold evG;rw[zgG_,hx,zF_ _ hd,zhi_];unfold evG;rw[e];show(Mr.bind (Mr.bind (evG G env [.x k]) _) _)=_
  unfold evG;rw[zgG_,hk,zF_ _ ha];rfl
 rw[e1,zhi_];unfold callG;have e2:resolve env [.d d,.l (i,[]),.d a]=uM [d,c,a]:=by
  show((atE env (i,[])).bind λc=>uM [c,a]).map (λds=>d::ds)=_
  rw[zjm_,hc];rfl
 rw[e2];show dropM (if _ then(match setIF [d,c,a]with |.ok r ds'=>Mr.ok r (restE env [.d d,.l (i,[]),.d a] ds')|.ex x ds'=>_ |.no=>_)else _)=_
 rw[hf,if_pos (show apartAll _=uO from rfl)]
 show Mr.ok Fl.nx (putE env (i,[]) c')=_
 rw[zhR_ hc]
theorem zcq_ {i:Nat}{x:X}{d:D}{n C:Str}{ns:List Str}{xs:List D}(hx:x.ev G env=.ok d)(hd:d.new=uO)(hc:atS env i=uM (.nd (.obj C ns) xs))(hC:C∈G.cs)(hl:ns.length<1000)(hn:n∉ns):setFM G n (.v i) x env=.ok .nx (env.set i (uM (.nd (.obj C (ns++[n])) (xs++[d])))):=by
 unfold setFM;have e:Pt.ev G env (.v i)=Mo.ok (i,[]):=by rw[Pt.ev,zjm_,hc];rfl
 have e1:evG G env [.x x,.l (.v i)]=.ok [.d d,.l (i,[])] env:=by
  unfold evG;rw[zgG_,hx,zF_ _ hd,zhi_];unfold evG;rw[e];rfl
 rw[e1,zhi_];have e3:clsAt env (i,[])=uM C:=by unfold clsAt;rw[zjm_,hc]
 simp only[e3,if_pos hC];unfold callG;have e2:resolve env [.d d,.l (i,[])]=uM [d,.nd (.obj C ns) xs]:=by
  show((atE env (i,[])).bind λc=>uM [c]).map (λds=>d::ds)=_
  rw[zjm_,hc];rfl
 rw[e2];have hf:setFF n [d,.nd (.obj C ns) xs]=.ok .non [.gone,.nd (.obj C (ns++[n])) (xs++[d])]:=by
  unfold setFF;simp only[if_pos hl,if_neg hn]
 show dropM (if _ then(match setFF n [d,.nd (.obj C ns) xs]with |.ok r ds'=>Mr.ok r (restE env [.d d,.l (i,[])] ds')|.ex x ds'=>_ |.no=>_)else _)=_
 rw[hf,if_pos (show apartAll _=uO from rfl)]
 show Mr.ok Fl.nx (putE env (i,[]) _)=_
 rw[zhR_ hc]
theorem fn_en {ds:List D}{n m:Nat}{body:List S}(hl:ds.length=n)(hc:D.colds ds=uO)(h:∀pn,(∀i,pn i=uP)->En (S.runs G pn body (ds.map uM++lu m uN)) λo _=>o=.rt d\/(o=.nx/\d=.non)):fnOf G n m body ds=.ok d ds:=by
 obtain⟨o,e,h,q⟩:=h _ (zbE_ hc);unfold fnOf;rw[if_pos hl,h];rcases q with rfl |⟨rfl,rfl⟩
 ·show Mr.ok d (outs ds e)=_;rw[zbb_ hc]
 ·show Mr.ok D.non (outs ds e)=_;rw[zbb_ hc]
theorem zam_ {ds:List D}{n m:Nat}{body:List S}(hl:ds.length=n)(hc:D.colds ds=uO)(h:∀pn,(∀i,pn i=uP)->En (S.runs G pn body (ds.map uM++lu m uN)) λo _=>o=.rt d\/(o=.nx/\d=.non)):(fnOf G n m body).val ds=.ok d:=zil_ (fn_en hl hc h)
theorem zoD_ {ds:List D}{n m:Nat}{body:List S}(hl:ds.length=n)(h:S.runs G (pins ds) body (ds.map uM++lu m uN)=.ok .nx e):fnOf G n m body ds=.ok .non (outs ds e):=by
 unfold fnOf;rw[if_pos hl,h]
end
class Im {α:Type}(g:α->D):Prop where
 im:∀x,(g x).imm=uO
section
variable {α:Type}{g:α->D}[Im g]{l:List α}{x:α}
theorem zp1_ (x:α):(g x).vw=g x:=by unfold D.vw;rw[if_pos (Im.im x)]
theorem zjY_ (l:List α):D.imms (l.map g)=uO:=by
 induction l with
 |nil=>rw[n6,D.imms]
 |cons x l ih=>rw[kX,D.imms,Im.im x,ih];rfl
theorem zhh_ (l:List α):(l.map g).map D.vw=l.map g:=by
 rw[lY];exact nC λx _=>zp1_ x
mutual
theorem zf4_:∀(d:D),d.imm=uO->d.new=uO
 |.non,_=>by rw[D.new]<;>simp
 |.bl _,_=>by rw[D.new]<;>simp
 |.int _,_=>by rw[D.new]<;>simp
 |.str _,_=>by rw[D.new]<;>simp
 |.nd .tup ds,h=>by rw[D.imm]at h;rw[D.new];exact zct_ ds h
 |.nd .ktup ds,h=>by rw[D.imm]at h;rw[D.new];exact zct_ ds h
 |.nd .lst _,h=>by simp[D.imm]at h
 |.nd .scr _,h=>by simp[D.imm]at h
 |.nd (.dct _) _,h=>by simp[D.imm]at h
 |.nd (.obj _ _) _,h=>by simp[D.imm]at h
 |.fz d,h=>by rw[D.imm]at h;rw[D.new];exact h
 |.pin _,h=>by simp[D.imm]at h
 |.gone,h=>by simp[D.imm]at h
theorem zct_:∀(ds:List D),D.imms ds=uO->D.news ds=uO
 |[],_=>by rw[D.news]
 |d::ds,h=>by rw[D.imms,ky]at h;rw[D.news,zf4_ d h.1,zct_ ds h.2];rfl
end
theorem zmS_ (x:α):(g x).new=uO:=zf4_ _ (Im.im x)
instance:Im D.int:=⟨λ_=>rfl⟩
instance:Im D.str:=⟨λ_=>rfl⟩
instance:Im D.bl:=⟨λ_=>rfl⟩
noncomputable def LS (g:α->D)(l:List α):D:=.nd .lst (l.map g)
theorem ls_vw:(LS g l).vw=.fz (LS g l):=rfl
theorem zlw_:(D.fz (LS g l)).vw=.fz (LS g l):=fz_vw rfl
theorem zah_:(LS g l).new=uO:=by unfold LS;rw[D.new];exact zct_ _ (zjY_ l)
theorem zjL_:(D.fz (LS g l)).new=uP:=by rw[D.new];rfl
theorem zlB_:lenA [LS g l]=.ok (.int l.length):=by
 show Mo.ok (D.int ((l.map g).length:Nat))=_;rw[kE]
theorem zov_:ixA (LS g l) (.int i)=.opt ((atI l i).map g):=by
 show Mo.opt ((atI (l.map g) i).map D.vw)=_
 unfold atI;rw[kE];cases ixN l.length i with
 |none=>rfl
 |some k=>
  show Mo.opt (((l.map g)[k]?).map D.vw)=_
  rw[kZ,Option.map_map];show _=Mo.opt ((l[k]?).map g)
  congr 2;funext x;exact zp1_ x
theorem zmf_ (lo hi:Option Int)(l:List α)(g:α->β):cutG (l.map g) lo hi=(cutG l lo hi).map g:=by
 unfold cutG;rw[kE,<- tD,<- rf]
theorem zpP_ (lo hi:Option Int):slA (LS g l) lo hi=.ok (LS g (cutG l lo hi)):=by
 show Mo.ok (D.nd .lst ((cutG (l.map g) lo hi).map .vw))=_
 rw[zmf_,zhh_];rfl
theorem zhX_ (h:a.length+b.length<=100000):addA (LS g a) (LS g b)=.ok (LS g (a++b)):=by
 show Mo.lim ((a.map g).length+(b.map g).length) (Mo.ok (D.nd .lst ((a.map g++b.map g).map .vw)))=_
 rw[Mo.lim_ok (by rw[kE,kE];exact h),<- mT,zhh_,LS]
theorem zci_:listA [LS g l]=.ok (LS g l):=by
 show Mo.ok (D.nd .lst ((l.map g).map .vw))=_;rw[zhh_];rfl
theorem zlU_:walkA [LS g l]=.ok (l.map g):=of_eq_true (eq_self _)
theorem zoz_:isK "list" (LS g l)=uO:=rfl
theorem zm0_ (h:l.length<100000):appendF [LS g l,g x]=.ok .non [LS g (l++[x]),.gone]:=by
 have h2:l.length<lg:=by have:=zaw_ (n:=l.length+1) (by lia);lia
 show(if(l.map g).length<lg then _ else _)=_
 rw[kE,if_pos h2];unfold LS;rw[mT];rfl
theorem zpa_ (h:a.length+b.length<=100000):extendF [LS g a,LS g b]=.ok .non [LS g (a++b),.nd .lst (b.map λ_=>.gone)]:=by
 show(if(a.map g).length+(b.map g).length<=lg then Mr.ok D.non [D.nd .lst (a.map g++b.map g),D.nd .lst ((b.map g).map λ_=>D.gone)]else _)=_
 rw[kE,kE,if_pos (zaw_ h),lY];unfold LS;rw[mT];rfl
theorem zpF_:revD [LS g l]=.ok (l.reverse.map g):=by
 rw[sj];rfl
theorem ls_rv:rvD (LS g l)=.ok (LS g l.reverse):=by
 show Mo.ok (D.nd .lst ((l.map g).reverse.map .vw))=_
 rw[<- sj,zhh_];rfl
theorem zeQ_:∀(l:List Int),flats (l.map .int)=uM (l.map .int)
 |[]=>rfl
 |i::l=>by rw[kX,flats,zeQ_ l];rfl
theorem zi8_ (i:Int):∀(l:List Int),inV (.int i) (l.map .int)=decide (i∈l)
 |[]=>rfl
 |j::l=>by
  have:=zi8_ i l;unfold inV at this ⊢;rw[kX,oJ,this];by_cases h:i=j
  ·subst h;simp[eqV]
  ·simp[eqV,h,pb h]
theorem ls_in (l:List Int):inA neg (.int i) (LS .int l)=.ok (.bl (if neg=uO then !decide (i∈l)else decide (i∈l))):=by
 show inSeq neg (.int i) (l.map .int)=_
 unfold inSeq;rw[zeQ_];show Mo.ok (D.bl (if neg=uO then !(inV (.int i) (l.map .int))else inV (.int i) (l.map .int)))=_
 rw[zi8_]
end
section
variable {β γ:Type}{G:Gi}{env:Env}{lv:List Str}{fr:List (Str×Nat)}{ik:Ik}{src:List X}{tg:Tg}{p:β->Bool}{f:β->γ}{o:γ->D}
theorem zeN_ {F:List D->Mo (Option D)}{T:β->List D}:∀{l:List β}{acc:List D},(∀b∈l,F (T b)=.ok (if p b=uO then uM (o (f b))else uN))->acc.length+l.length<=100000->compM F (l.map T) acc=.ok (acc++((l.filter p).map f).map o)
 |[],acc,_,_=>by rw[n6];unfold compM;simp
 |b::l,acc,h,hl=>by
  rw[lp]at hl;rw[kX];unfold compM;rw[h b lj,zeq_,List.filter_cons];cases e:p b with
  |false=>
   rw[if_neg (by decide),if_neg (by decide)]
   exact zeN_ (λy hy=>h y (ll _ hy)) (by lia)
  |true=>
   rw[if_pos rfl,if_pos rfl];show Mo.lim _ _=_
   rw[Mo.lim_ok (by lia),zeN_ (λy hy=>h y (ll _ hy)) (by rw[lC,nQ];lia)]
   simp
theorem xcomp {c:Option X}{e:X}{items:List D}{T:β->List D}(l:List β)(hi:tg.is.all (·<lv.length)=uO)(hs:(X.evs G env src).bind ik.f=.ok items)(ht:tgsD tg items=uM (l.map T))(hc:∀b∈l,X.evT G (setE (cE lv fr env) tg.is (T b)) c=.ok (p b))(he:∀b∈l,p b=uO->X.ev G (setE (cE lv fr env) tg.is (T b)) e=.ok (o (f b)))(hl:l.length<=100000):X.ev G env (.comp lv fr ik src tg c e)=.ok (LS o ((l.filter p).map f)):=by
 rw[X.ev,if_pos hi,hs,zeq_,ht,ziy_,zeq_,zeN_ (p:=p) (f:=f) (o:=o) (λb hb=>?_) (by rw[pf,rO];exact hl),zeq_]
 ·rfl
 ·unfold cond1
  rw[hc b hb,zeq_];cases dq:p b with
  |false=>rfl
  |true=>rw[if_pos rfl,if_pos rfl,he b hb dq];rfl
theorem xcompN {e:X}{items:List D}{T:β->List D}(l:List β)(hi:tg.is.all (·<lv.length)=uO)(hs:(X.evs G env src).bind ik.f=.ok items)(ht:tgsD tg items=uM (l.map T))(he:∀b∈l,X.ev G (setE (cE lv fr env) tg.is (T b)) e=.ok (o (f b)))(hl:l.length<=100000):X.ev G env (.comp lv fr ik src tg uN e)=.ok (LS o (l.map f)):=by
 rw[xcomp (p:=λ_=>uO) l hi hs ht (λ_ _=>xt_0) (λb hb _=>he b hb) hl]
 rw[q8.mpr λ_ _=>rfl]
theorem tgs_1 (ds:List D)(i:Nat):tgsD ⟨uP,[i]⟩ ds=uM (ds.map λd=>[d]):=by
 induction ds with
 |nil=>rw[tgsD];rfl
 |cons d ds ih=>rw[tgsD,ih];rfl
theorem zal_ {g:β->D}(l:List β)(i:Nat):tgsD ⟨uP,[i]⟩ (l.map g)=uM (l.map λd=>[g d]):=by rw[tgs_1,lY];rfl
theorem zhJ_ {g h:β->D}(l:List β)(i j:Nat):tgsD ⟨uO,[i,j]⟩ (l.map λb=>.nd .tup [g b,h b])=uM (l.map λb=>[g b,h b]):=by
 induction l with
 |nil=>rw[n6,tgsD];rfl
 |cons d ds ih=>rw[kX,tgsD,ih];rfl
end
section
variable {α:Type}{g:α->D}[Im g]{i:Int}{neg:Bool}
theorem key_i (i:Int):keyD (.int i)=uM (.inl i):=rfl
theorem zkY_ {n:Nat}(h:n<100000):n<lg:=by have:=zaw_ (n:=n+1) (by lia);lia
theorem zmi_ (n:Nat)(i j:Int):eqT n (.int i) (.int j)=uM (decide (i=j)):=by
 cases n with
 |zero=>show uM (eqV (.int i) (.int j))=_;rfl
 |succ n=>show uM (eqV (.int i) (.int j))=_;rfl
theorem zky_ (n:Nat)(a b:List Nat):eqT n (.str a) (.str b)=uM (decide (a=b)):=by
 have:eqV (tx a) (tx b)=decide (a=b):=by
  by_cases h:a=b
  ·subst h;simp[tx,eqV]
  ·rw[decide_eq_false h]
   show(_ == _)=uP
   refine beq_eq_false_iff_ne.mpr λz=>h ?_
   injection z with z;exact List.toArray_inj z
 cases n with
 |zero=>show uM (eqV (tx a) (tx b))=_;rw[this]
 |succ n=>show uM (eqV (tx a) (tx b))=_;rw[this]
theorem zgD_ {f:D->D->Option Bool}[DecidableEq α]{g:α->D}(h:∀x y,f (g x) (g y)=uM (decide (x=y))):∀(a b:List α),a.length=b.length->allT f (a.map g) (b.map g)=uM (decide (a=b))
 |[],[],_=>by simp[allT]
 |x::a,y::b,hl=>by
  rw[kX,kX,allT,h,zgD_ h a b (by simpa using hl)]
  simp
theorem eq_ls [DecidableEq α]{g:α->D}{n:Nat}(h:∀x y,eqT n (g x) (g y)=uM (decide (x=y)))(a b:List α):eqT (n+1) (LS g a) (LS g b)=uM (decide (a=b)):=by
 show(if(a.map g).length=(b.map g).length then allT (eqT n) (a.map g) (b.map g)else uM uP)=_
 rw[kE,kE];by_cases hl:a.length=b.length
 ·rw[if_pos hl,zgD_ h a b hl]
 ·rw[if_neg hl,decide_eq_false (λz=>hl (by rw[z]))]
theorem ziw_ {a b:D}{c:Bool}(h:eqT 12 a b=uM c):eqD neg a b=.ok (.bl (if neg=uO then !c else c)):=by
 unfold eqD;rw[h];rfl
theorem zmN_ (a b:List Int):eqD neg (LS .int a) (LS .int b)=.ok (.bl (if neg=uO then !decide (a=b)else decide (a=b))):=ziw_ (eq_ls (n:=11) (zmi_ 11) a b)
theorem za4_ (a b:Int):eqD neg (.int a) (.int b)=.ok (.bl (if neg=uO then !decide (a=b)else decide (a=b))):=ziw_ (zmi_ 12 a b)
theorem zch_ (a b:List Nat):eqD neg (.str a) (.str b)=.ok (.bl (if neg=uO then !decide (a=b)else decide (a=b))):=ziw_ (zky_ 12 a b)
end
end VI
namespace K50
open PySem PySem.Spec PyProof.Rows L2 VI
open Mo renaming bind→Mb,ok→Mq
open Sl renaming fz→Zf,dead→Zd,ow→Zo
noncomputable abbrev Jx:=List Nat
abbrev Jy:=List Jx
noncomputable abbrev Qm0:List Nat:=[32,48,49,50,51,52,53,54,55,56,57,65,66,67,68,69,70,71,72,73,74,75,76,77,78,79,80,81,82,83,84,85,86,87,88,89,90]
noncomputable abbrev Qm1:List Nat:=[97,98,99,100,101,102,103,104,105,106,107,108,109,110,111,112,113,114,115,116,117,118,119,120,121,122]
noncomputable abbrev Qm2:List Nat:=[97,98,99,100,101,102,103,104,105,106,107,108,109,110,111,112,113,114,115,116,117,118,119,120,121]
noncomputable abbrev Qn0:List Str:=["self", "deck", "picks", "middle", "order", "works", "breaks", "sums", "figures", "board"]
abbrev Qn1:List Str:=["asking"]
noncomputable def gi:Gi:={cs:=["Asking"],kt:=[("MATING_WORDS",[[109,97,116,101,115],[119,105,116,104,111,117,116]])]}
def z3_:List S:=[.if_ (.bin .lt (.v 1) (.bf .len [(.v 0)])) [.ret (.pu (.bin .ix (.v 0) (.v 1)))] [],.asg 2 (.pu (.bin .add (.bin .mul (.v 1) (.n 7919)) (.n 5))),.if_ (.bin .gt (.bf .len [(.v 0)]) (.n 0)) [.asg 2 (.pu (.bin .mod (.bin .add (.bin .mul (.bin .ix (.v 0) (.bin .mod (.bin .mul (.v 1) (.n 7)) (.bf .len [(.v 0)]))) (.n 48271)) (.bin .mul (.v 1) (.n 7919))) (.n 2147483647)))] [],.ret (.pu (.bin .mod (.bin .mul (.v 2) (.v 2)) (.n 2147483629)))]
def z2_:Fn:=fnOf gi 2 1 z3_
noncomputable abbrev zs_:=X.call z2_ "_law_cell"
def zaQ_:List S:=[.asg 1 (.pu (.k (.str Qm0))),.asg 2 (.pu (.bin .mod (.v 0) (.n 37))),.asg 3 (.pu (.bin .mod (.bin .add (.bin .add (.v 2) (.n 1)) (.bin .mod (.bin .div (.v 0) (.n 37)) (.n 36))) (.n 37))),.ret (.pu (.lst [(.bin .ix (.v 1) (.v 2)),(.bin .ix (.v 1) (.v 3)),(.bin .ix (.v 1) (.bin .mod (.bin .add (.bin .add (.v 3) (.n 1)) (.bin .mod (.bin .div (.v 0) (.n 1332)) (.n 36))) (.n 37)))]))]
def zaR_:Fn:=fnOf gi 1 3 zaQ_
def zac_:List S:=[.asg 1 (.pu (.k (.str Qm2))),.asg 2 (.pu (.sl (.v 1) (uM (.bin .mod (.v 0) (.n 22))) (uM (.bin .add (.bin .add (.bin .mod (.v 0) (.n 22)) (.n 1)) (.bin .mod (.bin .div (.v 0) (.n 22)) (.n 4)))))),.asg 3 (.pu (.bin .mod (.bin .div (.v 0) (.n 88)) (.bf .len [(.v 2)]))),.asg 4 (.pu (.bin .add (.bin .add (.sl (.v 2) uN (uM (.v 3))) (.k (.str [122]))) (.sl (.v 2) (uM (.bin .add (.v 3) (.n 1))) uN))),.if_ (.bin .eq (.bin .mod (.bin .div (.v 0) (.n 352)) (.n 2)) (.n 1)) [.ret (.pu (.lst [(.v 4),(.v 2)]))] [],.ret (.pu (.lst [(.v 2),(.v 4)]))]
def zaN_:Fn:=fnOf gi 1 4 zac_
def zaW_:List S:=[.asg 2 (.pu (.bin .mod (.v 0) (.n 5))),.ret (.pu (.tup [(.bin .add (.v 1) (.v 2)),(.bin .add (.bin .add (.v 1) (.v 2)) (.bin .mod (.bin .div (.v 0) (.n 5)) (.bf .min [(.n 3),(.bin .sub (.n 5) (.v 2))])))]))]
def zB_:Fn:=fnOf gi 2 1 zaW_
def z4_:List S:=[.asg 4 (.pu (.k (.str Qm0))),.asg 5 (.pu (.bin .mul (.lst [(.bin .ix (.v 4) (.bin .mod (.bin .div (.v 0) (.n 243)) (.n 37)))]) (.n 36))),.for_ .r1 [(.n 5)] ⟨uP,[6]⟩ [.setI (.v 5) (.bin .add (.bin .sub (.v 1) (.n 1)) (.v 6)) (.bin .ix (.v 2) (.bin .mod (.bin .div (.v 0) (.bin .ix (.lst [(.n 1),(.n 3),(.n 9),(.n 27),(.n 81)]) (.v 6))) (.n 3)))],.ret (.pu (.bin .add (.sm .join (.k (.str [])) [(.v 5)]) (.sm .zfill (.bf .str [(.v 3)]) [(.n 4)])))]
def zz_:Fn:=fnOf gi 4 3 z4_
def zan_:List S:=[.asg 2 (.pu (.comp ["_law_card_here"] [("_law_field_here",1)] .any [(.v 0)] ⟨uP,[0]⟩ uN (.sl (.v 0) (uM (.bin .sub (.i (.v 1) 0) (.n 1))) (uM (.i (.v 1) 1))))),.asg 3 (.pu (.comp ["_law_k"] [("_law_deck",0),("_law_parts",2)] .r1 [(.bf .len [(.v 0)])] ⟨uP,[0]⟩ (uM (.bin .nin (.bin .ix (.v 2) (.v 0)) (.sl (.v 2) uN (uM (.v 0))))) (.bin .ix (.v 1) (.v 0)))),.asg 4 (.pu (.lst [])),.for_ .any [(.bf .sortT [(.comp ["_law_card_here"] [("_law_field_here",1)] .any [(.v 3)] ⟨uP,[0]⟩ uN (.sl (.v 0) (uM (.bin .sub (.i (.v 1) 0) (.n 1))) (uM (.i (.v 1) 1))))])] ⟨uP,[5]⟩ [.asg 4 (.pu (.bin .add (.v 4) (.comp ["_law_card_here"] [("_law_part",5),("_law_field_here",1)] .any [(.v 3)] ⟨uP,[0]⟩ (uM (.bin .eq (.sl (.v 0) (uM (.bin .sub (.i (.v 2) 0) (.n 1))) (uM (.i (.v 2) 1))) (.v 1))) (.v 0))))],.ret (.mv 4)]
def zao_:Fn:=fnOf gi 2 4 zan_
noncomputable def zdm_:List S:=[.ret (.pu (.ifx (.bin .is (.v 0) (.k .non)) (.lst []) (.bf .list [(.v 0)])))]
def zbU_:Fn:=fnOf gi 1 0 zdm_
noncomputable abbrev zbY_:=X.call zbU_ "own_list"
noncomputable def zeS_:List S:=[.if_ (.not (.v 0)) [.never] []]
def zcy_:Fn:=fnOf gi 2 0 zeS_
noncomputable abbrev zm_:=X.call zcy_ "ask_for"
def zE_:List S:=[.ex (.pu (zm_ [(.bin .le (.bf .len [(.fld (.v 0) "picks")]) (.g "MOST_PICKS" (.int 8))),(.k (.str [97,110,32,97,115,107,105,110,103,32,104,97,115,32,56,32,112,105,99,107,115,32,97,116,32,109,111,115,116]))])),.ex (.pu (zm_ [(.bin .le (.bf .len [(.fld (.v 0) "order")]) (.g "MOST_KEYS" (.int 6))),(.k (.str [97,110,32,97,115,107,105,110,103,32,104,97,115,32,54,32,107,101,121,115,32,97,116,32,109,111,115,116]))])),.ex (.pu (zm_ [(.bin .le (.bf .len [(.fld (.v 0) "works")]) (.g "MOST_WORKS" (.int 4))),(.k (.str [97,110,32,97,115,107,105,110,103,32,104,97,115,32,52,32,119,111,114,107,115,32,97,116,32,109,111,115,116]))])),.ex (.pu (zm_ [(.bin .le (.bf .len [(.fld (.v 0) "sums")]) (.g "MOST_SUMS" (.int 4))),(.k (.str [97,110,32,97,115,107,105,110,103,32,104,97,115,32,52,32,115,117,109,115,32,97,116,32,109,111,115,116]))]))]
def zD_:Fn:=fnOf gi 1 0 zE_
def zdi_:List S:=[.ret (.pu (.and (.bin .isn (.fld (.v 0) "middle") (.k .non)) (.bin .inn (.i (.fld (.v 0) "middle") 0) (.gt "MATING_WORDS" [[109,97,116,101,115],[119,105,116,104,111,117,116]]))))]
def zbV_:Fn:=fnOf gi 1 0 zdi_
noncomputable abbrev zbh_:=X.call zbV_ "mates_by"
def zP_:List S:=[.if_ (.bin .is (.fld (.v 0) "middle") (.k .non)) [.retN] [],.asg 1 (.pu (.bf .len [(.fld (.v 0) "middle")])),.ex (.pu (zm_ [(.and (.bin .gt (.v 1) (.n 0)) (.or (zbh_ [(.v 0)]) (.bin .eq (.i (.fld (.v 0) "middle") 0) (.k (.str [102,105,114,115,116]))))),(.k (.str [97,32,109,105,100,100,108,101,32,104,97,115,32,111,110,101,32,111,102,32,116,104,114,101,101,32,119,111,114,100,115]))])),.ex (.pu (zm_ [(.bin .eq (.v 1) (.ifx (zbh_ [(.v 0)]) (.n 4) (.n 2))),(.k (.str [97,32,109,105,100,100,108,101,32,104,97,115,32,119,104,97,116,32,105,116,115,32,119,111,114,100,32,119,97,110,116,115]))]))]
def zy_:Fn:=fnOf gi 1 1 zP_
def zdv_:List S:=[.ret (.pu (.ifx (zbh_ [(.v 0)]) (.lst [(.fld (.v 0) "deck"),(.i (.fld (.v 0) "middle") 1)]) (.lst [(.fld (.v 0) "deck")])))]
def z6_:Fn:=fnOf gi 1 0 zdv_
def zcD_:List S:=[.ret (.pu (.and (.ch .le .le (.n 1) (.bf .len [(.v 0)]) (.g "LONGEST_NAME" (.int 8))) (.bf .all [(.comp ["letter"] [] .any [(.v 0)] ⟨uP,[0]⟩ uN (.bin .inn (.v 0) (.g "SMALL_LETTERS" (.str Qm1))))])))]
def zcW_:Fn:=fnOf gi 1 0 zcD_
def zaz_:List S:=[.asg 1 (.pu (.call z6_ "names_of" [(.v 0)])),.for_ .any [(.v 1)] ⟨uP,[2]⟩ [.ex (.pu (zm_ [(.call zcW_ "is_name" [(.v 2)]),(.k (.str [97,32,110,97,109,101,32,104,97,115,32,111,110,101,32,116,111,32,101,105,103,104,116,32,115,109,97,108,108,32,108,101,116,116,101,114,115]))]))],.ex (.pu (zm_ [(.or (.bin .ne (.i (.v 1) 0) (.bin .ix (.v 1) (.neg (.n 1)))) (.bin .eq (.bf .len [(.v 1)]) (.n 1))),(.k (.str [116,104,101,32,116,119,111,32,110,97,109,101,115,32,97,114,101,32,117,110,108,105,107,101]))]))]
def zU_:Fn:=fnOf gi 1 2 zaz_
def zaK_:List S:=[.if_ (.bin .is (.fld (.v 0) "middle") (.k .non)) [.ret (.pu (.lst []))] [],.ret (.pu (.ifx (zbh_ [(.v 0)]) (.bf .list [(.sl (.fld (.v 0) "middle") (uM (.n 2)) uN)]) (.lst [(.i (.fld (.v 0) "middle") 1)])))]
def zo_:Fn:=fnOf gi 1 0 zaK_
noncomputable abbrev zZ_:=X.call zo_ "middle_fields"
def zaX_:List S:=[.asg 1 (.pu (.bin .add (.bin .add (.bin .add (.comp ["pick"] [] .any [(.fld (.v 0) "picks")] ⟨uP,[0]⟩ uN (.i (.v 0) 0)) (zZ_ [(.v 0)])) (.fld (.v 0) "order")) (.fld (.v 0) "sums"))),.for_ .any [(.fld (.v 0) "works")] ⟨uP,[2]⟩ [.never],.ret (.mv 1)]
def zaS_:Fn:=fnOf gi 1 2 zaX_
noncomputable def zdb_:List S:=[.ret (.pu (.and (.isa (.v 0) "int") (.not (.isa (.v 0) "bool"))))]
def zbR_:Fn:=fnOf gi 1 0 zdb_
noncomputable abbrev za9_:=X.call zbR_ "is_whole"
def zb0_:List S:=[.ret (.pu (.and (za9_ [(.v 0)]) (.and (za9_ [(.v 1)]) (.ch3 .le .le .le (.n 1) (.v 0) (.v 1) (.g "BODY_WIDTH" (.int 36))))))]
def zbQ_:Fn:=fnOf gi 2 0 zb0_
noncomputable def zba_:List S:=[.asg 1 (.pu .dct0),.for_ .any [(.v 0)] ⟨uP,[2]⟩ [.never],.ret (.mv 1)]
def za5_:Fn:=fnOf gi 1 2 zba_
noncomputable def zbA_:List S:=[.asg 1 (.pu (.lst [])),.for_ .any [(.fld (.v 0) "picks")] ⟨uP,[2]⟩ [.never],.ret (.mv 1)]
def zbx_:Fn:=fnOf gi 1 2 zbA_
def zbt_:List S:=[.for_ .any [(.fld (.v 0) "picks")] ⟨uP,[1]⟩ [.never,.never],.ex (.pu (zm_ [(.bin .isn (.call za5_ "picked_signs" [(.call zbx_ "pick_passes" [(.v 0)])]) (.k .non)),(.k (.str [116,119,111,32,112,105,99,107,115,32,119,97,110,116,32,117,110,108,105,107,101,32,115,105,103,110,115,32,111,102,32,111,110,101,32,99,111,108,117,109,110]))]))]
def zaB_:Fn:=fnOf gi 1 1 zbt_
def zdC_:List S:=[.ret (.pu (.bin .add (.bin .sub (.i (.v 0) 1) (.i (.v 0) 0)) (.n 1)))]
def zbg_:Fn:=fnOf gi 1 0 zdC_
def zu_:List S:=[.asg 1 (.pu (zZ_ [(.v 0)])),.ifL (.v 1) [.ex (.pu (zm_ [(.bin .eq (.call zbg_ "width_of" [(.i (.v 1) 0)]) (.call zbg_ "width_of" [(.bin .ix (.v 1) (.neg (.n 1)))])),(.k (.str [116,104,101,32,109,105,100,100,108,101,39,115,32,102,105,101,108,100,115,32,97,114,101,32,111,102,32,111,110,101,32,119,105,100,116,104]))]))] []]
def zl_:Fn:=fnOf gi 1 1 zu_
noncomputable def zaT_:List S:=[.for_ .any [(.v 0)] ⟨uP,[1]⟩ [.never],.asg 2 (.pu .dct0),.for_ .any [(.v 0)] ⟨uP,[1]⟩ [.never,.never],.ret (.pu (.comp ["column"] [("leading",2)] .any [(.bf .sorted [(.v 2)])] ⟨uP,[0]⟩ uN (.bin .ix (.v 1) (.v 0))))]
def zaV_:Fn:=fnOf gi 1 2 zaT_
def zbN_:List S:=[.try0 [.asg 1 (.pu (.call zaV_ "make_board" [(.v 0)]))] [],.ret (.pu (.bin .eq (.v 1) (.v 0)))]
def zb7_:Fn:=fnOf gi 1 1 zbN_
def zM_:List S:=[.ex (.pu (zm_ [(.and (za9_ [(.fld (.v 0) "breaks")]) (.ch .le .le (.n 0) (.fld (.v 0) "breaks") (.g "MOST_BREAKS" (.int 3)))),(.k (.str [116,104,101,114,101,32,97,114,101,32,48,32,116,111,32,51,32,98,114,101,97,107,115]))])),.ex (.pu (zm_ [(.bin .le (.fld (.v 0) "breaks") (.bf .len [(.fld (.v 0) "order")])),(.k (.str [116,104,101,114,101,32,97,114,101,32,110,111,32,109,111,114,101,32,98,114,101,97,107,115,32,116,104,97,110,32,107,101,121,115]))])),.ex (.pu (zm_ [(.and (za9_ [(.fld (.v 0) "figures")]) (.ch .le .le (.n 1) (.fld (.v 0) "figures") (.g "MOST_FIGURES" (.int 12)))),(.k (.str [119,104,101,101,108,115,32,104,97,118,101,32,49,32,116,111,32,49,50,32,102,105,103,117,114,101,115]))])),.ex (.pu (zm_ [(.call zb7_ "is_board" [(.fld (.v 0) "board")]),(.k (.str [116,104,101,32,98,111,97,114,100,32,105,115,32,110,111,110,101,44,32,111,114,32,110,111,116,32,115,111,114,116,101,100]))]))]
def zK_:Fn:=fnOf gi 1 0 zM_
noncomputable def zbz_:List S:=[.for_ .en [(.fld (.v 0) "works")] ⟨uO,[1,2]⟩ [.never,.never]]
def zaC_:Fn:=fnOf gi 1 3 zbz_
def zae_:List S:=[.ex (.pu (.call zD_ "check_lengths" [(.v 0)])),.ex (.pu (.call zy_ "check_middle_word" [(.v 0)])),.ex (.pu (.call zU_ "check_names" [(.v 0)])),.for_ .any [(.call zaS_ "fields_due" [(.v 0)])] ⟨uP,[1]⟩ [.ex (.pu (zm_ [(.call zbQ_ "is_field" [(.i (.v 1) 0),(.i (.v 1) 1)]),(.k (.str [97,32,102,105,101,108,100,32,103,111,101,115,32,102,114,111,109,32,97,32,102,105,114,115,116,32,116,111,32,97,32,108,97,115,116,32,99,111,108,117,109,110,44,32,102,114,111,109,32,49,32,116,111,32,51,54]))]))],.ex (.pu (.call zaB_ "check_picks" [(.v 0)])),.ex (.pu (.call zl_ "check_middle_widths" [(.v 0)])),.ex (.pu (.call zK_ "check_counting" [(.v 0)])),.ex (.pu (.call zaC_ "check_works" [(.v 0)]))]
def zad_:Fn:=fnOf gi 1 1 zae_
def zn_:List S:=[.setF (.v 0) "deck" (.v 1),.setF (.v 0) "picks" (.bf .list [(.v 2)]),.setF (.v 0) "middle" (.v 3),.setF (.v 0) "order" (.bf .list [(.v 4)]),.setF (.v 0) "works" (zbY_ [(.v 5)]),.setF (.v 0) "breaks" (.v 6),.setF (.v 0) "sums" (zbY_ [(.v 7)]),.setF (.v 0) "figures" (.v 8),.setF (.v 0) "board" (zbY_ [(.v 9)]),.ex (.pu (.call zad_ "check_asking" [(.v 0)]))]
def zi_:Fn:=fnOf gi 10 0 zn_
def zaj_:List S:=[.for_ .any [(.call z6_ "names_of" [(.v 0)])] ⟨uP,[2]⟩ [.if_ (.bin .nin (.v 2) (.v 1)) [.never] []]]
def zS_:Fn:=fnOf gi 2 1 zaj_
noncomputable def zbu_:List S:=[.asg 2 (.pu (.v 1)),.for_ .any [(.fld (.v 0) "picks")] ⟨uP,[3]⟩ [.never],.ret (.mv 2)]
def zar_:Fn:=fnOf gi 2 2 zbu_
def zcG_:List S:=[.ret (.pu (.and (.bin .eq (.bf .len [(.v 0)]) (.n 1)) (.bin .inn (.v 0) (.g "SIGNS" (.str Qm0)))))]
def zcw_:Fn:=fnOf gi 1 0 zcG_
def zcR_:List S:=[.if_ (.not (.call zcw_ "is_sign" [(.v 0)])) [.never] [],.ret (.pu (.sm .index (.g "SIGNS" (.str Qm0)) [(.v 0)]))]
def zcN_:Fn:=fnOf gi 1 0 zcR_
def zcC_:List S:=[.ret (.pu (.bin .ix (.v 0) (.bin .sub (.v 1) (.n 1))))]
def zcJ_:Fn:=fnOf gi 2 0 zcC_
def zbL_:List S:=[.ret (.pu (.comp ["column"] [("card",0)] .any [(.v 1)] ⟨uP,[0]⟩ uN (.call zcN_ "rank_of" [(.call zcJ_ "sign_at" [(.v 1),(.v 0)])])))]
def zax_:Fn:=fnOf gi 2 0 zbL_
noncomputable abbrev zbX_:=X.call zax_ "ranks_at"
def zbk_:List S:=[.ret (.pu (.srt "card" [("columns",1)] 0 (zbX_ [(.v 0),(.v 1)])))]
def zt_:Fn:=fnOf gi 2 0 zbk_
def zaU_:List S:=[.ret (.pu (.lr (.i (.v 0) 0) (.bin .add (.i (.v 0) 1) (.n 1))))]
def zA_:Fn:=fnOf gi 1 0 zaU_
noncomputable abbrev zaP_:=X.call zA_ "columns_of"
def zak_:List S:=[.ret (.pu (.bin .ltL (zbX_ [(.v 0),(.v 2)]) (zbX_ [(.v 1),(.v 2)])))]
def zaq_:Fn:=fnOf gi 3 0 zak_
def zdP_:List S:=[.for_ .r2 [(.n 1),(.bf .len [(.v 0)])] ⟨uP,[2]⟩ [.if_ (.call zaq_ "comes_ahead" [(.bin .ix (.v 0) (.v 2)),(.bin .ix (.v 0) (.bin .sub (.v 2) (.n 1))),(.v 1)]) [.ret (.mv 2)] []],.ret (.pu (.k .non))]
def zdV_:Fn:=fnOf gi 2 1 zdP_
def zaA_:List S:=[.asg 3 (.pu (.call zdV_ "out_at" [(.v 0),(zaP_ [(.v 1)])])),.if_ (.bin .isn (.v 3) (.k .non)) [.never] []]
def zaD_:Fn:=fnOf gi 3 1 zaA_
def zcM_:List S:=[.ret (.pu (.sl (.v 0) (uM (.bin .sub (.i (.v 1) 0) (.n 1))) (uM (.i (.v 1) 1))))]
def zcV_:Fn:=fnOf gi 2 0 zcM_
def zH_:List S:=[.ex (.pu (.call zaD_ "check_order" [(.v 0),(.v 1),(.n 1)])),.asg 2 (.pu (.lst [])),.asg 3 (.pu (.lst [])),.asg 4 (.pu .dct0),.for_ .any [(.v 0)] ⟨uP,[5]⟩ [.asg 6 (.pu (.call zcV_ "part_of" [(.v 5),(.v 1)])),.if_ (.bin .inn (.v 6) (.v 4)) [.ex (.bm .append (.v 3) [(.x (.v 5))])] [.ex (.bm .append (.v 2) [(.x (.v 5))])],.setI (.v 4) (.v 6) (.k (.bl uO))],.ret (.pu (.tup [(.v 2),(.v 3)]))]
def zO_:Fn:=fnOf gi 2 5 zH_
def zQ_:List S:=[.if_ (.bin .is (.fld (.v 0) "middle") (.k .non)) [.ret (.mv 1)] [],.asg 3 (.pu (zZ_ [(.v 0)])),.asg 4 (.pu (.call zt_ "put_in_order" [(.v 1),(zaP_ [(.i (.v 3) 0)])])),.if_ (.bin .eq (.i (.fld (.v 0) "middle") 0) (.k (.str [102,105,114,115,116]))) [.ret (.pu (.i (.call zO_ "first_cards" [(.v 4),(.i (.v 3) 0)]) 0))] [],.never,.never,.never]
def zx_:Fn:=fnOf gi 3 3 zQ_
def zas_:List S:=[.asg 1 (.pu (.lst [])),.for_ .any [(.fld (.v 0) "order")] ⟨uP,[2]⟩ [.ex (.bm .extend (.v 1) [(.x (zaP_ [(.v 2)]))])],.ret (.mv 1)]
def zay_:Fn:=fnOf gi 1 2 zas_
noncomputable def zbB_:List S:=[.asg 2 (.pu (.v 1)),.for_ .any [(.fld (.v 0) "works")] ⟨uP,[3]⟩ [.never],.ret (.mv 2)]
def zau_:Fn:=fnOf gi 2 2 zbB_
def zav_:List S:=[.ex (.pu (.call zS_ "check_trays" [(.v 0),(.v 1)])),.asg 2 (.pu (.call zar_ "picked_deck" [(.v 0),(.bin .ix (.v 1) (.fld (.v 0) "deck"))])),.asg 2 (.pu (.call zx_ "middle_deck" [(.v 0),(.v 2),(.v 1)])),.asg 2 (.pu (.call zt_ "put_in_order" [(.v 2),(.call zay_ "key_columns" [(.v 0)])])),.ret (.pu (.comp ["card"] [("asking",0)] .any [(.v 2)] ⟨uP,[0]⟩ uN (.call zau_ "worked_card" [(.v 1),(.v 0)])))]
def zT_:Fn:=fnOf gi 2 1 zav_
def zG_:List S:=[.for_ .any [(.v 2)] ⟨uO,[3,4]⟩ [.asg 5 (.pu (.sl (.v 0) (uM (.bin .sub (.v 3) (.n 1))) (uM (.v 4)))),.asg 6 (.pu (.sl (.v 1) (uM (.bin .sub (.v 3) (.n 1))) (uM (.v 4)))),.if_ (.bin .ne (.v 5) (.v 6)) [.ret (.pu (.bin .sub (.bf .int [(.bin .ltT (.v 5) (.v 6))]) (.bf .int [(.bin .gtT (.v 5) (.v 6))])))] []],.ret (.pu (.n 0))]
def zR_:Fn:=fnOf gi 3 4 zG_
def znV_:List S:=[.asg 1 (.pu (.bin .add (.n 1) (.bin .mod (zs_ [(.v 0),(.n 0)]) (.n 32)))),.asg 2 (.pu (.call zaR_ "_law_signs" [(.bin .div (zs_ [(.v 0),(.n 0)]) (.n 32))])),.asg 3 (.pu (.call zaN_ "_law_names" [(zs_ [(.v 0),(.n 1)])])),.asg 4 (.pu (.comp ["_law_k"] [("_law_base",1),("_law_script",0)] .r1 [(.bin .mod (zs_ [(.v 0),(.n 2)]) (.n 4))] ⟨uP,[0]⟩ uN (.call zB_ "_law_field" [(zs_ [(.v 2),(.bin .add (.n 3) (.v 0))]),(.v 1)]))),.asg 5 (.pu (.comp ["_law_k", "_law_cell_here"] [("_law_base",1),("_law_signs_here",2)] .en [(.sl (.v 0) (uM (.n 7)) (uM (.n 67)))] ⟨uO,[0,1]⟩ uN (.call zz_ "_law_card" [(.v 1),(.v 2),(.v 3),(.v 0)]))),.asg 6 (.pu (.k .non)),.asg 7 (.pu (.bf .list [(.v 5)])),.if_ (.bin .eq (.bin .mod (zs_ [(.v 0),(.n 6)]) (.n 2)) (.n 1)) [.asg 6 (.pu (.tup [(.k (.str [102,105,114,115,116])),(.call zB_ "_law_field" [(.bin .div (zs_ [(.v 0),(.n 6)]) (.n 2)),(.v 1)])])),.asg 7 (.pu (.call zao_ "_law_firsts" [(.v 5),(.i (.v 6) 1)]))] [],.asg 8 (.pu (.mkd zi_ "Asking" [(.i (.v 3) 0),(.lst []),(.v 6),(.v 4)] [.non,(.int 0),.non,(.int 6),.non])),.asg 9 (.pu (.call zT_ "chosen_deck" [(.v 8),(.ds1 (.i (.v 3) 0) (.bf .list [(.v 5)]))])),.if_ (.or (.not (.isa (.v 9) "list")) (.bin .ne (.bf .len [(.v 9)]) (.bf .len [(.v 7)]))) [.ret (.pu (.k (.bl uP)))] [],.for_ .any [(.v 9)] ⟨uP,[10]⟩ [.if_ (.or (.not (.isa (.v 10) "str")) (.bin .nin (.v 10) (.v 7))) [.ret (.pu (.k (.bl uP)))] []],.for_ .zip [(.sl (.v 9) uN (uM (.neg (.n 1)))),(.sl (.v 9) (uM (.n 1)) uN)] ⟨uO,[11,12]⟩ [.asg 13 (.pu (.call zR_ "_law_unlike" [(.v 11),(.v 12),(.v 4)])),.if_ (.or (.bin .lt (.v 13) (.n 0)) (.and (.bin .eq (.v 13) (.n 0)) (.bin .ge (.li (.v 7) (.v 11)) (.li (.v 7) (.v 12))))) [.ret (.pu (.k (.bl uP)))] []],.ret (.pu (.bin .eq (.call zT_ "chosen_deck" [(.v 8),(.ds2 (.i (.v 3) 1) (.lst []) (.i (.v 3) 0) (.bf .list [(.v 5)]))]) (.v 9)))]
def f_law:Fn:=fnOf gi 1 13 znV_
set_option hygiene false in
local macro_rules | `(tactic|exists $ts,*) => `(tactic|first |simp only[S.runs, S.run, trD, zeV_, ye_mv, zoF_, zpM_, to_ok, bm_v, sd_v, onS, call1, atS_0, atS_s, Bm.ty, Bm.f, zoz_, ↓zeo_, ↓zo5_, ↓sq_ct, ↓sq_ex, ↓zhi_, ↓mr_ex, ↓zeq_, zeo_, zo5_, sq_ct, sq_ex, zhi_, mr_ex, zeq_, ziy_, ifM_t, ifM_f, and_t, and_f, or_t, or_f, noE, or_b, and_b, min_i, vd_mod, ziO_, zof_, nw_bl, zki_, zk1_, zoE_, nw_nd, nw_c, nw_0, Bool.and_true, Mo.lim_ok, ag_d, ag_0, zlp_, zqU_, zp4_, get_0, get_s, mv_0, mv_s, zgG_, zF_, zmJ_, zjL_, frzE, List.foldl_cons, List.foldl_nil, frz_0, frz_n, frz_s, X.uses, X.usesL, X.usesO, zal_, zhJ_, xv_v, zpd_, xv_ch, zqM_, zpW_, xv_or, zra_, zpR_, zoU_, xv_sl, zpy_, zpQ_, zqW_, znp_, xv_bf, xv_lr, zqV_, zqS_, xs_0, xs_c, xo_0, xo_s, xt_0, xt_s, zpE_, zrl_, xk_bl, zqP_, zrk_, zp5_, fz_ix, fz_in, zo7_, zmQ_, zlG_, fz_sl, zqT_, zlZ_, zmp_, zqs_, zlC_, fz_is, zpx_, fz_bl, zoL_, zoQ_, fz_rv, zmr_, znm_, zlL_, fz_eq, zp7_, Bo.f, Bf.f, Ik.f, forS, evG, List.map_cons, List.map_nil, List.length_cons, List.length_nil, List.set_cons_zero, List.set_cons_succ, List.replicate_succ, List.replicate_zero, List.cons_append, List.nil_append, zpJ_, zo8_, bl_vw, zpk_, zp1_, zmS_, ls_vw, zlw_, zah_, zlB_, zov_, zpP_, zci_, zlU_, zpF_, ls_rv, ls_in, zmN_, za4_, zch_, vd_lt, vd_le, vd_gt, vd_ge, zqa_, zqX_, zpT_, vd_bl, vd_int, zq1_, Bool.not_true, Bool.not_false, if_true, if_false, Bool.false_eq_true, Bool.true_eq_false, Option.map_some, Option.map_none, Nat.reduceAdd, Nat.reduceLT, Nat.reduceLeDiff, Int.reduceLT, Int.reduceLE, Int.reduceNeg, Int.reduceAdd, Int.reduceSub, Nat.lt_add_one, Nat.zero_lt_succ, Nat.zero_add, setE, cE, List.getElem?_cons_succ, List.getElem?_cons_zero, Option.join_some, setG, true_and, Int.toNat_natCast, zca_, $[$ts:term],*]|skip)
set_option hygiene false in
local macro_rules | `(tactic|fail "q") => `(tactic|first |exact⟨_, _, rfl, .inl rfl⟩|exact⟨_, _, rfl, .inr ⟨rfl, rfl⟩⟩|exact⟨_, _, rfl, .inr ⟨rfl, trivial⟩⟩)
noncomputable abbrev Fd:=Int×Int
def F2 (f:Fd):D:=.nd .tup [.int f.1,.int f.2]
instance:Im F2:=⟨λ_=>rfl⟩
abbrev Pk:=Fd×List Nat
def PK (p:Pk):D:=.nd .tup [F2 p.1,.str p.2]
instance:Im PK:=⟨λ_=>rfl⟩
abbrev Wk:=Fd×Fd×List Nat×Fd
def WK (w:Wk):D:=.nd .tup [F2 w.1,F2 w.2.1,.str w.2.2.1,F2 w.2.2.2]
instance:Im WK:=⟨λ_=>rfl⟩
theorem F2_0 (f:Fd):ixA (F2 f) (.int 0)=.ok (.int f.1):=rfl
theorem F2_1 (f:Fd):ixA (F2 f) (.int 1)=.ok (.int f.2):=rfl
theorem PK_0 (f:Pk):ixA (PK f) (.int 0)=.ok (F2 f.1):=rfl
theorem PK_1 (f:Pk):ixA (PK f) (.int 1)=.ok (.str f.2):=rfl
theorem WK_0 (f:Wk):ixA (WK f) (.int 0)=.ok (F2 f.1):=rfl
theorem WK_1 (f:Wk):ixA (WK f) (.int 1)=.ok (F2 f.2.1):=rfl
theorem WK_2 (f:Wk):ixA (WK f) (.int 2)=.ok (.str f.2.2.1):=rfl
theorem WK_3 (f:Wk):ixA (WK f) (.int 3)=.ok (F2 f.2.2.2):=rfl
theorem zfg_ (f:Fd):(F2 f).vw=F2 f:=rfl
theorem PK_vw (f:Pk):(PK f).vw=PK f:=rfl
theorem WK_vw (f:Wk):(WK f).vw=WK f:=rfl
theorem F2_nw (f:Fd):(F2 f).new=uO:=zmS_ f
noncomputable def WFi:List Nat:=[102,105,114,115,116]
noncomputable def WMa:List Nat:=[109,97,116,101,115]
noncomputable def WWi:List Nat:=[119,105,116,104,111,117,116]
inductive Md where
 |no |fi (f:Fd)|ma (w n:Jx) (f g:Fd)
def MD:Md->D
 |.no=>.non
 |.fi f=>.nd .tup [.str WFi,F2 f]
 |.ma w n f g=>.nd .tup [.str w,.str n,F2 f,F2 g]
structure Ak where
 dk:List Nat
 pk:List Pk
 md:Md
 od:List Fd
 wk:List Wk
 br:Int
 su:List Fd
 fg:Int
 bd:List Fd
def aFs (A:Ak):List D:=[.str A.dk,LS PK A.pk,MD A.md,LS F2 A.od,LS WK A.wk,.int A.br,LS F2 A.su,.int A.fg,LS F2 A.bd]
def AO (A:Ak):D:=.nd (.obj "Asking" ["deck", "picks", "middle", "order", "works", "breaks", "sums", "figures", "board"]) (aFs A)
section
variable (A:Ak)
theorem AO_deck:fldD gi.cs "deck" (AO A)=.ok (.str A.dk):=rfl
theorem zkn_:fldD gi.cs "picks" (AO A)=.ok (.fz (LS PK A.pk)):=rfl
theorem zhA_:fldD gi.cs "middle" (AO A)=.ok (MD A.md):=by cases h:A.md<;>· show Mq (MD A.md).vw=_;rw[h];rfl
theorem zjv_:fldD gi.cs "order" (AO A)=.ok (.fz (LS F2 A.od)):=rfl
theorem zj5_:fldD gi.cs "works" (AO A)=.ok (.fz (LS WK A.wk)):=rfl
theorem zom_:fldD gi.cs "breaks" (AO A)=.ok (.int A.br):=rfl
theorem znG_:fldD gi.cs "sums" (AO A)=.ok (.fz (LS F2 A.su)):=rfl
theorem zoe_:fldD gi.cs "figures" (AO A)=.ok (.int A.fg):=rfl
theorem zpj_:fldD gi.cs "board" (AO A)=.ok (.fz (LS F2 A.bd)):=rfl
theorem AO_vw:(AO A).vw=.fz (AO A):=rfl
theorem zY_:(D.fz (AO A)).vw=.fz (AO A):=rfl
end
def OkFd (f:Fd):Prop:=1<=f.1/\f.1<=f.2/\f.2<=36
def SG:List Nat:=Qm0
def LT:List Nat:=Qm1
def OkN (n:Jx):Prop:=1<=n.length/\n.length<=8/\∀c∈n,c∈LT
def OkK (sg:Int->Nat)(p:Pk):Prop:=OkFd p.1/\p.2=(rngI p.1.1 (p.1.2+1-p.1.1).toNat).map sg
def OkM (d:Jx):Md->Prop
 |.no=>True
 |.fi f=>OkFd f
 |.ma w n f g=>(w=WMa\/w=WWi)/\OkN n/\n≠d/\OkFd f/\OkFd g/\f.2-f.1=g.2-g.1
def WWo:Jy:=[[112,108,117,115],[108,101,115,115],[116,105,109,101,115]]
def OkW (w:Wk):Prop:=OkFd w.1/\OkFd w.2.1/\OkFd w.2.2.2/\w.2.2.1∈WWo
def apt (a b:Fd):Bool:=decide (a.2<b.1)||decide (b.2<a.1)
def midF:Md->List Fd
 |.no=>[]
 |.fi f=>[f]
 |.ma _ _ f g=>[f,g]
def gk (k:Int)(q:Int×Wk):List Fd:=(if q.1=k then[]else[q.2.1])++(if q.1<=k then[q.2.2.1,q.2.2.2.2]else[])
def kp (A:Ak)(k:Int):List Fd:=A.pk.map (·.1)++(midF A.md).take 1++A.od++(enumL A.wk).flatMap (gk k)
structure OkA (A:Ak):Prop where
 nm:OkN A.dk
 pl:A.pk.length<=8
 pk:∃sg:Int->Nat,(∀c,sg c∈SG)/\∀p∈A.pk,OkK sg p
 md:OkM A.dk A.md
 ol:A.od.length<=6
 od:∀f∈A.od,OkFd f
 wl:A.wk.length<=4
 wk:∀w∈A.wk,OkW w
 br:0<=A.br/\A.br<=3/\A.br<=A.od.length
 sl:A.su.length<=4
 su:∀f∈A.su,OkFd f
 fg:1<=A.fg/\A.fg<=12
 bl:A.bd.length<=9
 bd:(∀w∈A.bd,1<=w.1/\w.1<=40/\1<=w.2/\w.2<=36)/\A.bd.Pairwise λa b=>a.2<b.2
 ft:∀q∈enumL A.wk,∀f∈kp A q.1,apt q.2.1 f=uO
theorem zkU_ (f:Fd):zbg_.val [F2 f]=.ok (.int (f.2-f.1+1)):=rfl
theorem zkz_ (w:Jx):zcy_.val [.bl uO,.str w]=.ok .non:=rfl
theorem zg4_ (i:Int):zbR_.val [.int i]=.ok (.bl uO):=rfl
theorem fieldb {f:Fd}(h:OkFd f):zbQ_.val [.int f.1,.int f.2]=.ok (.bl uO):=by
 obtain⟨h1,h2,h3⟩:=h;refine zam_ rfl rfl λpn hp=>?_
 unfold zb0_
 exists hp,zg4_,ch3D,chD,decide_eq_true h1,decide_eq_true h2,decide_eq_true h3
 fail "q"
theorem zfP_ {f:Fd}(h:OkFd f):zA_.val [F2 f]=.ok (LS .int (rngI f.1 (f.2+1-f.1).toNat)):=by
 obtain⟨h1,h2,h3⟩:=h;refine zam_ rfl rfl λpn hp=>?_
 unfold zaU_;have e:lrD (.int f.1) (.int (f.2+1))=.ok (LS .int (rngI f.1 (f.2+1-f.1).toNat)):=by
  show Mo.grd _ (Mq (D.nd .lst (((rngI f.1 (f.2+1-f.1).toNat).map D.int).map .vw)))=_
  rw[Mo.grd_ok (by lia),zhh_];rfl
 exists hp,F2_0,F2_1,e
 fail "q"
theorem zpm_ {A:Ak}(h:OkM A.dk A.md):zbV_.val [.fz (AO A)]=.ok (.bl (match A.md with |.ma _ _ _ _=>uO |_=>uP)):=by
 obtain⟨a,b,m,r⟩:=A;cases m with
 |no=>rfl
 |fi=>rfl
 |ma w n f g=>rcases h.1 with rfl |rfl<;>rfl
theorem zf7_ {A:Ak}(h:OkM A.dk A.md):z6_.val [.fz (AO A)]=.ok (LS .str (match A.md with |.ma _ n _ _=>[A.dk,n]|_=>[A.dk])):=by
 obtain⟨a,b,m,r⟩:=A;cases m with
 |no=>rfl
 |fi=>rfl
 |ma w n f g=>rcases h.1 with rfl |rfl<;>rfl
theorem zkG_ {A:Ak}(h:OkM A.dk A.md):zo_.val [.fz (AO A)]=.ok (LS F2 (midF A.md)):=by
 obtain⟨a,b,m,r⟩:=A;cases m with
 |no=>rfl
 |fi=>rfl
 |ma w n f g=>rcases h.1 with rfl |rfl<;>rfl
theorem zlM_ {A:Ak}(h:OkM A.dk A.md):zy_.val [.fz (AO A)]=.ok .non:=by
 obtain⟨a,b,m,r⟩:=A;cases m with
 |no=>rfl
 |fi=>rfl
 |ma w n f g=>rcases h.1 with rfl |rfl<;>rfl
theorem lens_eq {A:Ak}(h:OkA A):zD_.val [.fz (AO A)]=.ok .non:=by
 have h1:=h.pl;have h2:=h.ol;have h3:=h.wl;have h4:=h.sl;refine zam_ rfl rfl λpn hp=>?_
 unfold zE_
 exists hp,zY_,zkn_,zjv_,zj5_,znG_,decide_eq_true (show(A.pk.length:Int)<=8 by lia),decide_eq_true (show(A.od.length:Int)<=6 by lia),decide_eq_true (show(A.wk.length:Int)<=4 by lia),decide_eq_true (show(A.su.length:Int)<=4 by lia),zkz_
 fail "q"
theorem lt_in {c:Nat}(h:c∈LT):inA uP (.str [c]) (.str LT)=.ok (.bl uO):=by
 show Mq (D.bl (decide (c∈LT)))=_
 rw[decide_eq_true h]
theorem bls_t:∀(l:List Bool),blsD (l.map .bl)=uM l
 |[]=>rfl
 |b::l=>by rw[kX,blsD,bls_t l];rfl
theorem zpV_ {α:Type}{p:α->Bool}(l:List α)(h:∀x∈l,p x=uO):allD [LS .bl (l.map p)]=.ok (.bl uO):=by
 show(match blsD ((l.map p).map .bl)with |some bs=>Mq (D.bl (bs.all id))|none=>.no)=_
 rw[bls_t];show Mq (D.bl _)=_
 rw[t8,mm.mpr];intro x hx;exact h x hx
theorem lnS_ {l:List Nat}(h:l.length<=100000):lenA [.str l]=.ok (.int l.length):=by
 show Mo.lim _ _=_
 rw[Mo.lim_ok h]
theorem zkR_ (l:Jx):walkA [.str l]=.ok (l.map λc=>.str [c]):=rfl
theorem znF_ {n:List Nat}(h:OkN n):zcW_.val [.str n]=.ok (.bl uO):=by
 obtain⟨h1,h2,h3⟩:=h;refine zam_ rfl rfl λpn hp=>?_
 unfold zcD_
 exists hp,chD,lnS_ (show n.length<=100000 by lia),decide_eq_true (show(1:Int)<=n.length by lia),decide_eq_true (show(n.length:Int)<=8 by lia)
 rw[xcompN (f:=λ_:Nat=>uO) (o:=.bl) n rfl (by exists zkR_;rfl) (zal_ _ _) (λc hc=>by exact lt_in (h3 c hc)) (by lia)]
 exists zpV_ n (p:=λ_=>uO) (λ_ _=>rfl)
 fail "q"
def AQ (n:Jx)(m:Md)(ks:List Fd):Ak:=⟨n,[],m,ks,[],0,[],6,[]⟩
section
variable {n:List Nat}{m:Md}{ks:List Fd}
theorem AQ_p:fldD gi.cs "picks" (AO (AQ n m ks))=.ok (.fz (LS PK [])):=rfl
theorem AQ_o:fldD gi.cs "order" (AO (AQ n m ks))=.ok (.fz (LS F2 ks)):=rfl
theorem AQ_w:fldD gi.cs "works" (AO (AQ n m ks))=.ok (.fz (LS WK [])):=rfl
theorem AQ_b:fldD gi.cs "breaks" (AO (AQ n m ks))=.ok (.int 0):=rfl
theorem AQ_s:fldD gi.cs "sums" (AO (AQ n m ks))=.ok (.fz (LS F2 [])):=rfl
theorem AQ_g:fldD gi.cs "figures" (AO (AQ n m ks))=.ok (.int 6):=rfl
theorem AQ_d:fldD gi.cs "board" (AO (AQ n m ks))=.ok (.fz (LS F2 [])):=rfl
theorem cn9 (hn:OkN n)(hm:OkM n m):zU_.val [.fz (AO (AQ n m ks))]=.ok .non:=by
 have key:∀(ns:Jy) (c:Bool),z6_.val [.fz (AO (AQ n m ks))]=.ok (LS .str ns)->(∀n∈ns,OkN n)->eqD uO (.str (ns.headD [])) (.str (ns.getLastD []))=.ok (.bl c)->ixA (LS .str ns) (.int 0)=.ok (.str (ns.headD []))->ixA (LS .str ns) (.int (-1))=.ok (.str (ns.getLastD []))->(c ||decide ((ns.length:Int)=1))=uO->zU_.val [.fz (AO (AQ n m ks))]=.ok .non:=λns c e cM hc h0 h1 a7=>by
  refine zam_ rfl rfl λpn hp=>?_
  unfold zaz_
  exists hp,zY_,e
  refine zeD_ (a:=[_,_]) (b:=[]) rfl (hp _) (λn hn=>?_) (λo=>?_)
  ·exists hp,znF_ (cM n hn),zkz_
   exact⟨_,_,rfl,rfl,rfl⟩
  ·exists hp,h0,h1,hc,a7,zkz_
   fail "q"
 have e:=zf7_ (A:=AQ n m ks) hm;cases m with
 |no=>exact key [n] uP e (λn hn=>by rw[l5.mp hn];assumption) (by rw[zch_];simp) rfl rfl rfl
 |fi=>exact key [n] uP e (λn hn=>by rw[l5.mp hn];assumption) (by rw[zch_];simp) rfl rfl rfl
 |ma w k f g=>
  refine key [n,k] uO e (λx hx=>?_) ?_ rfl rfl rfl
  ·rcases lA.mp hx with rfl |hx
   ·exact hn
   ·rw[l5.mp hx];exact hm.2.1
  ·rw[zch_]
   show Mq (D.bl (if uO=uO then !decide (n=k)else _))=_
   rw[if_pos rfl,decide_eq_false (λz=>hm.2.2.1 z.symm)];rfl
theorem due9 (hm:OkM n m)(hk:ks.length<=6):zaS_.val [.fz (AO (AQ n m ks))]=.ok (LS F2 (midF m++ks)):=by
 have h5:(midF m).length<=2:=by unfold midF;split<;>simp
 refine zam_ rfl rfl λpn hp=>?_
 unfold zaX_;have a1:addA (LS F2 []) (LS F2 (midF m))=.ok (LS F2 (midF m)):=zhX_ (g:=F2) (a:=[]) (b:=midF m) (by rw[pf];lia)
 have a2:addA (LS F2 (midF m++ks)) (LS F2 [])=.ok (LS F2 (midF m++ks)):=by rw[zhX_ (by rw[lC,pf];lia),nU]
 exists hp,zY_
 rw[xcompN (f:=λp:Pk=>p.1) (o:=F2) ([]:List Pk) rfl rfl (zal_ _ _) (λc hc=>rfl) (me _)]
 have em:zo_.val [.fz (AO (AQ n m ks))]=.ok (LS F2 (midF m)):=zkG_ (A:=AQ n m ks) hm
 exists hp,zY_,em,AQ_o,AQ_s,AQ_w,a1,a2,zhX_ (g:=F2) (a:=midF m) (b:=ks) (by lia)
 refine ziu_ (l:=([]:List Wk)) (enc:=λw=>[WK w]) (λd e=>e=[uM (.fz (AO (AQ n m ks))),uM (LS F2 (midF m++ks)),uN]) rfl (λd x r e hl he=>by simp at hl) (λe he=>?_)
 subst he
 exists hp
 fail "q"
theorem cw9 (hm:OkM n m):zl_.val [.fz (AO (AQ n m ks))]=.ok .non:=by
 have key:∀f g:Fd,f.2-f.1=g.2-g.1->∀l,zo_.val [.fz (AO (AQ n m ks))]=.ok (LS F2 l)->l≠[]->ixA (LS F2 l) (.int 0)=.ok (F2 f)->ixA (LS F2 l) (.int (-1))=.ok (F2 g)->zl_.val [.fz (AO (AQ n m ks))]=.ok .non:=λf g h l e hl e0 e1=>by
  refine zam_ rfl rfl λpn hp=>?_
  unfold zu_;cases l with
  |nil=>exact absurd rfl hl
  |cons a l=>
   exists hp,zY_,e,e0,e1,zfg_,zkU_,za4_,decide_eq_true (show f.2-f.1+1=g.2-g.1+1 by lia),zkz_
   exact⟨_,_,rfl,.inr ⟨rfl,by first |rfl |trivial⟩⟩
 have e:=zkG_ (A:=AQ n m ks) hm;cases m with
 |no=>rfl
 |fi f=>exact key f f rfl _ e (by intro h;cases h) rfl rfl
 |ma w k f g=>exact key f g hm.2.2.2.2.2 _ e (by intro h;cases h) rfl rfl
theorem brd9:zb7_.val [.fz (LS F2 [])]=.ok (.bl uO):=by
 have es:srtI []=.ok (.nd .lst []):=by unfold srtI;rw[Mo.grd_ok (by decide),<- zbf_ zoj_ (ws:=[]) (List.Perm.refl _) .nil];rfl
 have es:sortI [(D.nd (.dct []) []).vw]=.ok (.nd .lst []):=es;have eb:zaV_.val [.fz (LS F2 [])]=.ok (LS F2 []):=by
  refine zam_ rfl rfl λpn hp=>?_
  unfold zaT_
  exists hp
  refine zeD_ (l:=([]:List Fd)) (enc:=F2) (a:=[_]) (b:=[_]) rfl (hp _) (λw hw=>by cases hw) (λo=>?_)
  exists hp
  refine zeD_ (l:=([]:List Fd)) (enc:=F2) (a:=[_]) (b:=[_]) rfl (hp _) (λw hw=>by cases hw) (λo=>?_)
  exists hp
  rw[xcompN (f:=λw:Fd=>w) (o:=F2) (T:=λw=>[.int w.2]) (items:=[]) ([]:List Fd) rfl (by exists es;rfl) rfl (λc hc=>by cases hc) (me _)]
  exists hp
  fail "q"
 have ee:eqD uP (LS F2 []) (LS F2 [])=.ok (.bl uO):=rfl;refine zam_ rfl rfl λpn hp=>?_
 unfold zbN_
 exists hp,eb,ee
 fail "q"
theorem check9 (hn:OkN n)(hm:OkM n m)(hk:ks.length<=6)(ho:∀f∈ks,OkFd f):zad_.val [.fz (AO (AQ n m ks))]=.ok .non:=by
 have e1:zD_.val [.fz (AO (AQ n m ks))]=.ok .non:=by
  refine zam_ rfl rfl λpn hp=>?_
  unfold zE_
  exists hp,zY_,AQ_p,AQ_o,AQ_w,AQ_s,decide_eq_true (show(ks.length:Int)<=6 by lia),decide_eq_true (show((0:Nat):Int)<=8 by decide),decide_eq_true (show((0:Nat):Int)<=4 by decide),zkz_
  fail "q"
 have e2:zK_.val [.fz (AO (AQ n m ks))]=.ok .non:=by
  have eb:=brd9;refine zam_ rfl rfl λpn hp=>?_
  unfold zM_
  exists hp,zY_,AQ_b,AQ_o,AQ_g,AQ_d,zg4_,chD,eb,decide_true,decide_eq_true (show(0:Int)<=ks.length by lia),zkz_
  fail "q"
 have e3:zaB_.val [.fz (AO (AQ n m ks))]=.ok .non:=rfl;have e4:zaC_.val [.fz (AO (AQ n m ks))]=.ok .non:=rfl;refine zam_ rfl rfl λpn hp=>?_
 unfold zae_
 exists hp,zY_,e1,zlM_ (A:=AQ n m ks) hm,cn9 hn hm,due9 hm hk
 refine zeD_ (a:=[_]) (b:=[]) rfl (hp _) (λf hf=>?_) (λo=>?_)
 ·have hF:OkFd f:=by
   rcases ny.mp hf with hf |hf
   ·revert hm hf
    cases m with
    |no=>intro _ hf;cases hf
    |fi g=>intro hm hf;rw[l5.mp hf];exact hm
    |ma w k f g=>
     intro hm hf;rcases lA.mp hf with rfl |hf
     ·exact hm.2.2.2.1
     ·rw[l5.mp hf];exact hm.2.2.2.2.1
   ·exact ho f hf
  exists hp,zfg_,F2_0,F2_1,fieldb hF,zkz_
  exact⟨_,_,rfl,rfl,rfl⟩
 ·exists hp,zY_,e2,e3,e4,cw9 hm
  fail "q"
theorem zoa_ (m:Md):(MD m).imm=uO:=by cases m<;>rfl
theorem zop_ (m:Md):(MD m).vw=MD m:=by unfold D.vw;rw[zoa_];rfl
theorem zq5_ (m:Md):(MD m).new=uO:=zf4_ _ (zoa_ m)
theorem make9 (hn:OkN n)(hm:OkM n m)(hk:ks.length<=6)(ho:∀f∈ks,OkFd f){O:D}(hO:O.vw=.fz (LS F2 ks)):makeD zi_ "Asking" [.str n,.nd .lst [],MD m,O,.non,.int 0,.non,.int 6,.non]=.ok (AO (AQ n m ks)):=by
 have main:∀pn:Nat->Bool,∃e,S.runs gi pn zn_ [uM (.nd (.obj "Asking" []) []),uM (.str n),uM (.fz (LS PK [])),uM (MD m),uM (.fz (LS F2 ks)),uM .non,uM (.int 0),uM .non,uM (.int 6),uM .non]=.ok .nx (uM (AO (AQ n m ks))::e):=λpn=>by
  have o1:zbU_.val [.non]=.ok (.nd .lst []):=rfl;unfold zn_;rw[S.runs,S.run,zcq_ (d:=.str n) rfl rfl rfl (by decide) (by decide) (by decide),zeo_]
  rw[S.runs,S.run,zcq_ (d:=LS PK []) (by exists zci_) zah_ rfl (by decide) (by decide) (by decide),zeo_]
  rw[S.runs,S.run,zcq_ (d:=MD m) (by exists zop_) (zq5_ m) rfl (by decide) (by decide) (by decide),zeo_]
  rw[S.runs,S.run,zcq_ (d:=LS F2 ks) (by exists zci_) zah_ rfl (by decide) (by decide) (by decide),zeo_]
  rw[S.runs,S.run,zcq_ (d:=LS WK []) (by exists o1;rfl) zah_ rfl (by decide) (by decide) (by decide),zeo_]
  rw[S.runs,S.run,zcq_ (d:=.int 0) rfl rfl rfl (by decide) (by decide) (by decide),zeo_]
  rw[S.runs,S.run,zcq_ (d:=LS F2 []) (by exists o1;rfl) zah_ rfl (by decide) (by decide) (by decide),zeo_]
  rw[S.runs,S.run,zcq_ (d:=.int 6) rfl rfl rfl (by decide) (by decide) (by decide),zeo_]
  rw[S.runs,S.run,zcq_ (d:=LS F2 []) (by exists o1;rfl) zah_ rfl (by decide) (by decide) (by decide),zeo_]
  have e0:∀l,getE (uM (D.nd (.obj "Asking" ["deck", "picks", "middle", "order", "works", "breaks", "sums", "figures", "board"]) (aFs (AQ n m ks)))::l) 0=.ok (.fz (AO (AQ n m ks))):=λl=>rfl
  unfold aFs AQ at e0;have e1:=check9 hn hm hk ho;unfold AQ at e1
  exists e0,zY_,e1
  exact⟨_,rfl⟩
 obtain⟨e,he⟩:=main (pins [.nd (.obj "Asking" []) [],.str n,.fz (LS PK []),MD m,.fz (LS F2 ks),.non,.int 0,.non,.int 6,.non]);have hh:∃ds,zi_ [.nd (.obj "Asking" []) [],.str n,.fz (LS PK []),MD m,.fz (LS F2 ks),.non,.int 0,.non,.int 6,.non]=.ok .non (AO (AQ n m ks)::ds):=⟨_,zoD_ (G:=gi) (n:=10) (m:=0) (body:=zn_) (ds:=[.nd (.obj "Asking" []) [],.str n,.fz (LS PK []),MD m,.fz (LS F2 ks),.non,.int 0,.non,.int 6,.non]) rfl he⟩;obtain⟨ds,hh⟩:=hh;unfold makeD;have em:[D.str n,.nd .lst [],MD m,O,.non,.int 0,.non,.int 6,.non].map D.vw=[.str n,.fz (LS PK []),MD m,.fz (LS F2 ks),.non,.int 0,.non,.int 6,.non]:=by
  simp only[kX,n6,hO,zop_];rfl
 rw[em,hh]
end
theorem rg1 {j:Int}(h0:0<=j)(h:j<=100000):rng1D [D.int j]=Mq ((lK j.toNat).map λi:Nat=>D.int (0+(i:Int))):=by
 unfold rng1D;dsimp only;rw[VI.vd_int,zeq_,Mo.grd_ok ⟨by lia,by lia⟩]
 unfold rngI;rw[lY];rfl
section
variable (ns:List Int)
theorem zl2_ {k:Int}(h0:0<=k)(h1:k<=1000):∃c,z2_.val [scr ns,.int k]=.ok (.int c):=by
 by_cases hk:k<(ns.length:Int)
 ·refine⟨ns.getD k.toNat 0,zam_ rfl rfl λpn hp=>?_⟩
  unfold z3_
  exists hp,zg3_,decide_eq_true hk,VI.vd_ix h0 hk
  fail "q"
 ·by_cases hl:(0:Int)<(ns.length:Int)
  ·have m0:=mn (k*7) (show(ns.length:Int)≠0 by lia)
   have m1:=l6 (k*7) hl
   generalize hx:ns.getD (k*7 % (ns.length:Int)).toNat 0=x
   have n0:=mn (x*48271+k*7919) (show(2147483647:Int)≠0 by lia)
   have n1:=l6 (x*48271+k*7919) (show(0:Int)<2147483647 by lia)
   refine⟨(x*48271+k*7919) % 2147483647*((x*48271+k*7919) % 2147483647) % 2147483629,zam_ rfl rfl λpn hp=>?_⟩
   unfold z3_;have e1:ixA (scr ns) (.int (k*7 % (ns.length:Int)))=.ok (.int x):=by rw[VI.vd_ix m0 m1,hx]
   have e2:modD (.int (k*7)) (.int (ns.length:Int))=.ok (.int (k*7 % (ns.length:Int))):=VI.vd_mod hl
   generalize hy:(x*48271+k*7919) % 2147483647=y at n0 n1 ⊢
   exists hp,zg3_,decide_eq_false hk,decide_eq_true hl,e1,e2,hy,zi7_ (i:=y) (j:=y) (by lia) (by lia)
   fail "q"
  ·refine⟨(k*7919+5)*(k*7919+5) % 2147483629,zam_ rfl rfl λpn hp=>?_⟩
   unfold z3_
   exists hp,zg3_,decide_eq_false hk,decide_eq_false hl,zi7_ (i:=k*7919+5) (j:=k*7919+5) (by lia) (by lia)
   fail "q"
def cel (k:Int):Int:=match z2_.val [scr ns,.int k]with |.ok (.int c)=>c |_=>0
theorem zc5_ {k:Int}(h0:0<=k)(h1:k<=1000):z2_.val [scr ns,.int k]=.ok (.int (cel ns k)):=by
 obtain⟨c,e⟩:=zl2_ ns h0 h1;unfold cel;rw[e]
end
theorem zjA_ (c b:Int):∃f:Fd,zB_.val [.int c,.int b]=.ok (F2 f)/\b<=f.1/\f.1<=f.2/\f.2<=b+4/\f.2<=f.1+2:=by
 have m0:=mn c (show(5:Int)≠0 by lia)
 have m1:=l6 c (show(0:Int)<5 by lia)
 have hm:0<min 3 (5-c % 5):=by lia
 have k0:=mn (c / 5) (show min 3 (5-c % 5)≠0 by lia)
 have k1:=l6 (c / 5) hm;refine⟨(b+c % 5,b+c % 5+c / 5 % min 3 (5-c % 5)),zam_ rfl rfl λpn hp=>?_,by show b<=b+c % 5;lia,by show b+c % 5<=b+c % 5+_;lia,by show b+c % 5+_<=b+4;lia,by show b+c % 5+_<=b+c % 5+2;lia⟩
 unfold zaW_
 exists hp,VI.vd_mod hm
 fail "q"
theorem zor_ {i:Int}(h0:0<=i)(h1:i<37):∃s,s∈SG/\ixA (.str SG) (.int i)=.ok (.str [s]):=by
 obtain⟨s,e,hs⟩:=zgJ_ (xs:=SG) h0 (show i<(SG.length:Int)from h1)
 refine⟨s,hs,?_⟩;show Mo.lim SG.length (Mo.opt ((atI SG i).map λc=>D.str [c]))=_
 rw[Mo.lim_ok (by decide),e];rfl
theorem zjV_ (x:Int):∃a b c:Nat,zaR_.val [.int x]=.ok (LS .str [[a],[b],[c]])/\a∈SG/\b∈SG/\c∈SG:=by
 obtain⟨a,ha,ea⟩:=zor_ (mn x (show(37:Int)≠0 by lia)) (l6 x (show(0:Int)<37 by lia))
 obtain⟨b,hb,eb⟩:=zor_ (mn (x % 37+1+x / 37 % 36) (show(37:Int)≠0 by lia)) (l6 (x % 37+1+x / 37 % 36) (show(0:Int)<37 by lia))
 obtain⟨c,hc,ec⟩:=zor_ (mn ((x % 37+1+x / 37 % 36) % 37+1+x / 1332 % 36) (show(37:Int)≠0 by lia)) (l6 ((x % 37+1+x / 37 % 36) % 37+1+x / 1332 % 36) (show(0:Int)<37 by lia))
 refine⟨a,b,c,zam_ rfl rfl λpn hp=>?_,ha,hb,hc⟩
 unfold zaQ_;unfold SG at ea eb ec
 exists hp,ea,eb,ec
 fail "q"
theorem zgx_ {α:Type}(xs:List α)(i k:Nat)(h:i<=xs.length):cutG xs (uM (i:Int)) (uM ((i:Int)+k))=(xs.drop i).take k:=by
 have e:cutG xs (uM (i:Int)) (uM ((i:Int)+k))=(xs.drop i).take (min (i+k) xs.length-i):=by
  unfold cutG HT.sIx;simp only[];rw[if_neg (by lia),if_neg (by lia),show min ((i:Int)+k).toNat xs.length=min (i+k) xs.length by lia,show min (i:Int).toNat xs.length=i by lia]
 rw[e];by_cases z:i+k<=xs.length
 ·congr 1;lia
 ·rw[oE (by rw[mJ];lia),oE (by rw[mJ];lia)]
def LY:List Nat:=Qm2
theorem zkI_ (x:Int):∃a b:List Nat,zaN_.val [.int x]=.ok (LS .str [a,b])/\OkN a/\OkN b/\b≠a:=by
 have m0:=mn x (show(22:Int)≠0 by lia)
 have m1:=l6 x (show(0:Int)<22 by lia)
 have k0:=mn (x / 22) (show(4:Int)≠0 by lia)
 have k1:=l6 (x / 22) (show(0:Int)<4 by lia)
 obtain⟨i,hi⟩:=mO m0;obtain⟨j,hj⟩:=mO k0
 generalize ho:(LY.drop i).take (1+j)=one
 have kl:one.length=1+j:=by rw[<- ho,mC,mJ];show min (1+j) (25-i)=_;lia
 have fL:∀c∈one,c∈LY:=λc hc=>by rw[<- ho]at hc;exact qU (qV hc)
 have s1:slA (.str LY) (uM (x % 22)) (uM (x % 22+1+x / 22 % 4))=.ok (.str one):=by
  show Mo.lim LY.length (Mq (D.str (cutG LY _ _)))=_
  rw[Mo.lim_ok (by decide),hi,hj,show((i:Int)+1+j)=(i:Int)+((1+j:Nat):Int) by lia,zgx_ LY i (1+j) (by show i<=25;lia),ho]
 have iC:(0:Int)<(one.length:Int):=by lia
 have a0:=mn (x / 88) (show(one.length:Int)≠0 by lia)
 have a1:=l6 (x / 88) iC;obtain⟨t,ht⟩:=mO a0;have kg:t<one.length:=by lia
 have e2:modD (.int (x / 88)) (.int (one.length:Int))=.ok (.int (x / 88 % (one.length:Int))):=VI.vd_mod iC;have s2:slA (.str one) uN (uM (t:Int))=.ok (.str (one.take t)):=by
  show Mo.lim one.length (Mq (D.str (cutG one _ _)))=_
  rw[Mo.lim_ok (by lia),ziZ_ (by lia),p7]
 have s3:slA (.str one) (uM ((t:Int)+1)) uN=.ok (.str (one.drop (t+1))):=by
  show Mo.lim one.length (Mq (D.str (cutG one _ _)))=_
  rw[Mo.lim_ok (by lia),zeO_ (by lia),show((t:Int)+1).toNat=t+1 by lia]
 have s4:addA (.str (one.take t)) (.str [122])=.ok (.str (one.take t++[122])):=by
  show Mo.lim _ _=_
  rw[Mo.lim_ok (by rw[mC];simp;lia)]
 have s5:addA (.str (one.take t++[122])) (.str (one.drop (t+1)))=.ok (.str (one.take t++[122]++one.drop (t+1))):=by
  show Mo.lim _ _=_
  rw[Mo.lim_ok (by simp;lia)]
 have jP:∀c∈LY,c∈LT:=by decide
 have h1:OkN one:=⟨by lia,by lia,λc hc=>jP c (fL c hc)⟩
 have h2:OkN (one.take t++[122]++one.drop (t+1)):=⟨by simp;lia,by simp;lia,λc hc=>by
  rcases ny.mp hc with hc |hc
  ·rcases ny.mp hc with hc |hc
   ·exact h1.2.2 c (qV hc)
   ·rw[l5.mp hc];decide
  ·exact h1.2.2 c (qU hc)⟩
 have bo:one.take t++[122]++one.drop (t+1)≠one:=λz=>by
  have e1:(one.take t++[122]++one.drop (t+1))[t]?=uM 122:=by
   rw[nr,mD (by rw[mC];lia),mC,sL (by lia),rL];rfl
  rw[z]at e1;have:=fL 122 (mU e1);exact absurd this (by decide)
 unfold LY at s1;by_cases c:x / 352 % 2=1
 ·refine⟨one.take t++[122]++one.drop (t+1),one,zam_ rfl rfl λpn hp=>?_,h2,h1,bo.symm⟩
  unfold zac_
  exists hp,s1,lnS_ (show one.length<=100000 by lia),e2,ht,s2,s3,s4,s5,za4_,decide_eq_true c
  fail "q"
 ·refine⟨one,one.take t++[122]++one.drop (t+1),zam_ rfl rfl λpn hp=>?_,h1,h2,bo⟩
  unfold zac_
  exists hp,s1,lnS_ (show one.length<=100000 by lia),e2,ht,s2,s3,s4,s5,za4_,decide_eq_false c
  fail "q"
theorem zlc_ {n m:Nat}{body:List S}{ds:List D}{d:D}{e:VI.Env}(hl:ds.length=n)(hc:D.colds ds=uO)(h:S.runs gi (pins ds) body (ds.map uM++lu m uN)=.ok (.rt d) e):fnOf gi n m body ds=.ok d ds:=by
 unfold fnOf;rw[if_pos hl,h];show Mr.ok d (outs ds e)=_
 rw[zbb_ hc]
theorem sg3 {a b c:Nat}(ha:a∈SG)(hb:b∈SG)(hc:c∈SG)(y:Int):∃s,s∈SG/\ixA (LS .str [[a],[b],[c]]) (.int (y % 3))=.ok (.str [s]):=by
 obtain⟨x,e,hx⟩:=zgJ_ (xs:=[[a],[b],[c]]) (mn y (show(3:Int)≠0 by lia)) (show y % 3<((3:Nat):Int)from l6 y (by lia))
 have:∃s,s∈SG/\x=[s]:=by
  simp only[lA,se,or_false]at hx;rcases hx with rfl |rfl |rfl
  ·exact⟨a,ha,rfl⟩
  ·exact⟨b,hb,rfl⟩
  ·exact⟨c,hc,rfl⟩
 obtain⟨s,hs,rfl⟩:=this;exact⟨s,hs,by rw[zov_,e];rfl⟩
theorem ziW_ {β:Type}{pn:Nat->Bool}{env:VI.Env}{d1 d2:D}{l:List β}{enc:β->List D}{ik:Ik}{x1 x2:X}{tg:Tg}{b ss:List S}{Q:Fl->VI.Env->Prop}{items:List D}(P:List β->VI.Env->Prop)(h1:keep (x1.ev gi env) env x1.uses=.ok d1 env)(h2:keep (x2.ev gi env) env x2.uses=.ok d2 env)(hi:ik.f [d1,d2]=.ok items)(ht:tgsD tg items=uM (l.map enc))(h0:P [] env)
  (hs:∀d x r e,l=d++x::r->P d e->∃e',setG pn e tg.is (enc x)=uM e'/\En (S.runs gi pn b e') λo bw=>((o=.nx\/o=.ct)/\P (d++[x]) bw)\/((∃v,o=.rt v)/\Q o bw))
  (hk:∀e,P l e->En (S.runs gi pn ss e) Q):En (S.runs gi pn (.for_ ik [x1,x2] tg b::ss) env) Q:=by
 have e0:evG gi env ([x1,x2].map .x)=.ok [.d d1,.d d2] env:=by
  show((stX gi env x1).bind λd e=>((stX gi e x2).bind λd e=>(evG gi e []).bind λgs e'=>.ok (.d d::gs) e').bind λgs e'=>.ok (.d d::gs) e')=_
  rw[zgG_,h1,zhi_,zgG_,h2];rfl
 rw[S.runs,S.run,e0];have e1:forS pn ik tg (.ok [.d d1,.d d2] env) (λe=>S.runs gi pn b e)=forM (λe x=>match setG pn e tg.is x with |some e'=>S.runs gi pn b e' |none=>.no) (l.map enc) env:=by
  unfold forS;show(match ik.f [d1,d2]with |.ok items=>_ |_=>_)=_
  rw[hi];show(match tgsD tg items with |some xs=>_ |none=>_)=_
  rw[ht]<;>rfl
 rw[e1];exact ziu_ P h0 hs hk
abbrev Cds:=Jy
def LG (l:Cds):Prop:=l.length<64/\∀c∈l,c.length<=1000
def pt (f:Fd)(c:Jx):List Nat:=cutG c (uM (f.1-1)) (uM f.2)
theorem zfe_ {c:List Nat}{lo hi:Option Int}(h:c.length<=1000):slA (.str c) lo hi=.ok (.str (cutG c lo hi)):=by
 show Mo.lim _ _=_;rw[Mo.lim_ok (by lia)]
theorem zlJ_ {c:List Nat}{f:Fd}(h:c.length<=1000):zcV_.val [.str c,F2 f]=.ok (.str (pt f c)):=by
 refine zam_ rfl rfl λpn hp=>?_
 unfold zcM_;have e:slA (.str c) (uM (f.1-1)) (uM f.2)=.ok (.str (pt f c)):=zfe_ h
 exists hp,F2_0,F2_1,e
 fail "q"
def kN_t (n:Jx):Key:=.inr ⟨n.toArray⟩
theorem zhN_ {a b:List Nat}:kN_t a=kN_t b↔a=b:=by
 constructor
 ·intro h;injection h with h;injection h with h;simpa using congrArg pU h
 ·rintro rfl;rfl
def TG {α:Type}(g:α->D)(m:List (List Nat×α)):D:=.nd (.dct (m.map λq=>kN_t q.1)) (m.map λq=>g q.2)
abbrev TD (m:List (List Nat×Cds)):D:=TG (LS .str) m
section
variable {α:Type}{g:α->D}
theorem zfk_ (m:List (List Nat×α)):(D.fz (TG g m)).vw=.fz (TG g m):=rfl
theorem TD_vw (m:List (List Nat×α)):(TG g m).vw=.fz (TG g m):=rfl
theorem zk0_:∀(m:List (List Nat×α)) (n:Jx),valD (m.map λq=>kN_t q.1) (m.map λq=>g q.2) (kN_t n)=((m.find? λq=>decide (q.1=n)).map λq=>g q.2)
 |[],n=>rfl
 |q::m,n=>by
  have ih:=zk0_ m n;unfold valD at ih ⊢;rw[kX,kX,lV,m6,m6];by_cases e:q.1=n
  ·rw[decide_eq_true (zhN_.mpr e),decide_eq_true e];rfl
  ·rw[decide_eq_false (λz=>e (zhN_.mp z)),decide_eq_false e];exact ih
theorem td_ix {m:List (List Nat×Cds)}{n:List Nat}{cs:Cds}(h:(m.find? λq=>decide (q.1=n))=uM (n,cs)):ixA (TD m) (.str n)=.ok (.fz (LS .str cs)):=by
 show Mo.opt ((valD _ _ (kN_t n)).map D.vw)=_
 rw[zk0_,h];rfl
theorem td_in (neg:Bool)(m:List (List Nat×α))(n:Jx):inA neg (.str n) (TG g m)=.ok (.bl (if neg then !decide (n∈m.map (·.1))else decide (n∈m.map (·.1)))):=by
 have e:(valD (m.map λq=>kN_t q.1) (m.map λq=>g q.2) (kN_t n)).isSome=decide (n∈m.map (·.1)):=by
  rw[zk0_,pA,nY,List.find?_isSome,decide_eq_true_eq,mz];exact⟨λ⟨q,h,e⟩=>⟨q,h,by simpa using e⟩,λ⟨q,h,e⟩=>⟨q,h,by simpa using e⟩⟩
 show Mq (D.bl (if neg=uO then !(valD _ _ (kN_t n)).isSome else(valD _ _ (kN_t n)).isSome))=_
 rw[e]
end
theorem zpA_ {n:List Nat}{md:Md}{ks:List Fd}{m:List (List Nat×Cds)}(hm:OkM n md)(h:n∈m.map (·.1))(h2:∀w k f g,md=.ma w k f g->k∈m.map (·.1)):zS_.val [.fz (AO (AQ n md ks)),.fz (TD m)]=.ok .non:=by
 have key:∀ns:Cds,z6_.val [.fz (AO (AQ n md ks))]=.ok (LS .str ns)->(∀n∈ns,n∈m.map (·.1))->zS_.val [.fz (AO (AQ n md ks)),.fz (TD m)]=.ok .non:=λns e hn=>by
  refine zam_ rfl rfl λpn hp=>?_
  unfold zaj_;refine zcj_ (l:=ns) (enc:=λp=>[.str p]) (d:=LS .str ns) (λd e=>∃o,e=[uM (.fz (AO (AQ n md ks))),uM (.fz (TD m)),o]) (by exists zY_,e) (by exists hp) (zal_ _ _) ⟨uN,rfl⟩ (λd p r e hl he=>?_) λe he=>?_
  ·obtain⟨o,rfl⟩:=he
   refine⟨[uM (.fz (AO (AQ n md ks))),uM (.fz (TD m)),uM (.str p)],(by exists hp),?_⟩
   exists hp,zfk_,td_in,decide_eq_true (hn p (by rw[hl];simp))
   exact⟨_,_,rfl,.inl ⟨.inl rfl,_,rfl⟩⟩
  ·obtain⟨o,rfl⟩:=he
   exists hp
   fail "q"
 have e:=zf7_ (A:=AQ n md ks) hm;cases md with
 |no=>exact key [n] e λx hx=>by rw[l5.mp hx];exact h
 |fi=>exact key [n] e λx hx=>by rw[l5.mp hx];exact h
 |ma w k f g=>
  refine key [n,k] e λx hx=>?_
  rcases lA.mp hx with rfl |hx
  ·exact h
  ·rw[l5.mp hx];exact h2 _ _ _ _ rfl
theorem zeT_:∀(l:Cds),strsD (l.map D.str)=uM l
 |[]=>rfl
 |c::l=>by rw[kX];unfold strsD;rw[zeT_ l];rfl
theorem zjh_ (l:Cds):strL (.fz (LS .str l))=.ok l:=by
 show Mo.opt (strsD (l.map D.str))=_
 rw[zeT_];rfl
theorem zev_:∀(l:List Int),intsD (l.map D.int)=uM l
 |[]=>rfl
 |c::l=>by rw[kX];unfold intsD;rw[zev_ l];rfl
theorem zgT_ (key:List Nat->List Int):∀(l:Cds),intLs (l.map λc=>LS .int (key c))=uM (l.map key)
 |[]=>rfl
 |c::l=>by
  rw[kX];unfold intLs;rw[zgT_ key l];show(intsD ((key c).map D.int)).bind _=_
  rw[zev_];rfl
def srtG (key:List Nat->List Int)(l:Cds):Cds:=(srtQ (l.map key) l.length).map λi=>l.getD i []
theorem zmL_ {key:List Nat->List Int}{cols:List Int}{l:Cds}(h:LG l)(hk:∀c∈l,zax_.val [.str c,.fz (LS .int cols)]=.ok (LS .int (key c))):zt_.val [.fz (LS .str l),.fz (LS .int cols)]=.ok (LS .str (srtG key l)):=by
 refine zam_ rfl rfl λpn hp=>?_
 unfold zbk_;show En (S.runs gi pn _ [uM (.fz (LS .str l)),uM (.fz (LS .int cols))]) _
 rw[zkF_ (d:=LS .str (srtG key l)) (e:=[uM (.fz (LS .str l)),uM (.fz (LS .int cols))]) ?_]
 ·fail "q"
 ·rw[zeV_,zpU_]
  have e0:getE [uM (.fz (LS .str l)),uM (.fz (LS .int cols))] 0=.ok (.fz (LS .str l)):=rfl;show keep (Mb (getE [uM (.fz (LS .str l)),uM (.fz (LS .int cols))] 0) _) _ _=_
  rw[e0,zeq_,zjh_,zeq_];have e1:compM (λx=>cond1 (.ok uO) ((X.call zax_ "ranks_at" [.v 0,.v 1]).ev gi (setE (cE ["card"] [("columns",1)] [uM (.fz (LS .str l)),uM (.fz (LS .int cols))]) [0] x))) (l.map λc=>[D.str c]) []=.ok (l.map λc=>LS .int (key c)):=by
   rw[zeN_ (p:=λ_=>uO) (f:=λc:List Nat=>c) (o:=λc=>LS .int (key c)) (λc hc=>?_) (by have:=h.1;simp;lia)]
   ·rw[q8.mpr λ_ _=>rfl,qF];rfl
   ·unfold cond1
    rw[zeq_,if_pos rfl,if_pos rfl]
    exists hk c hc
    rfl
  rw[Mo.grd_ok h.1,e1,zeq_];unfold srtK;rw[zgT_];show keep (Mo.grd _ _) _ _=_
  rw[Mo.grd_ok (by simp)]
  unfold srtG;have e2:((srtQ (l.map key) l.length).map λi=>D.str (l.getD i []))=((srtQ (l.map key) l.length).map λi=>l.getD i []).map D.str:=by rw[lY];rfl
  rw[e2];exact zF_ _ zah_
def rk (c:Nat):Int:=(SG.idxOf c:Nat)
def rkc (cols:List Int)(c:Jx):List Int:=cols.map λj=>rk (c.getD (j-1).toNat 0)
def CD (c:Jx):Prop:=c.length=40/\∀i,i<36->c.getD i 0∈SG
theorem sg_in {c:Nat}(h:c∈SG):inA uP (.str [c]) (.str SG)=.ok (.bl uO):=by
 show Mq (D.bl (decide (c∈SG)))=_
 rw[decide_eq_true h]
theorem sgf (c:Nat):c∈SG->findS SG [c]=rk c/\rk c ≠ -1:=by rw[zj8_];revert c;decide
theorem zmw_ {c:Nat}(h:c∈SG):zcN_.val [.str [c]]=.ok (.int (rk c)):=by
 have e0:=sg_in h;unfold SG at e0;have e1:zcw_.val [.str [c]]=.ok (.bl uO):=by
  refine zam_ rfl rfl λpn hp=>?_
  unfold zcG_;have el:lenA [.str [c]]=.ok (.int 1):=lnS_ (l:=[c]) (m7 rfl)
  exists hp,el,za4_,decide_true,e0
  fail "q"
 have e2:Sm.f .index SG [.str [c]]=.ok (.int (rk c)):=by
  show Mo.grd (findS SG [c] ≠ -1) (.ok (D.int (findS SG [c])))=_
  rw[(sgf c h).1,Mo.grd_ok (sgf c h).2]
 unfold SG at e2;have e3:∀l,strOf (.str l)=.ok l:=λ_=>rfl
 refine zam_ rfl rfl λpn hp=>?_
 unfold zcR_
 exists hp,e1,xv_sm,e3,e2
 fail "q"
theorem zcQ_ {c:List Nat}(h:CD c){cols:List Int}(hc:∀j∈cols,1<=j/\j<=36)(hl:cols.length<=1000):zax_.val [.str c,.fz (LS .int cols)]=.ok (LS .int (rkc cols c)):=by
 refine zam_ rfl rfl λpn hp=>?_
 unfold zbL_;rw[zkF_ (d:=LS .int (rkc cols c)) (e:=[uM (.str c),uM (.fz (LS .int cols))]) ?_]
 ·fail "q"
 ·rw[zeV_,xcompN (f:=λj:Int=>rk (c.getD (j-1).toNat 0)) (o:=.int) (T:=λx=>[.int x]) cols rfl (by exists hp) (zal_ _ _) (λj hj=>?_) (by lia)]
  ·exact zF_ _ zah_
  ·obtain⟨j1,j2⟩:=hc j hj
   have hk:=h.1;have e:ixA (.str c) (.int (j-1))=.ok (.str [c.getD (j-1).toNat 0]):=by
    show Mo.lim c.length (Mo.opt ((atI c (j-1)).map λc=>D.str [c]))=_
    rw[Mo.lim_ok (by lia),zfl_ (by lia) (kz (by lia)),kY,kz (by lia)];rfl
   have es:zcJ_.val [.str c,.int j]=.ok (.str [c.getD (j-1).toNat 0]):=by
    refine zam_ rfl rfl λpn hp=>?_
    unfold zcC_
    exists hp,e
    fail "q"
   exists es,zmw_ (h.2 (j-1).toNat (by lia))
def cl (f:Fd):List Int:=rngI f.1 (f.2+1-f.1).toNat
theorem zoo_ {f:Fd}(h:OkFd f):∀j∈cl f,1<=j/\j<=36:=λj hj=>by
 obtain⟨a,b,c⟩:=h;have:=zk6_.mp hj;lia
theorem zh5_ {f:Fd}(h:OkFd f):(cl f).length<=36:=by unfold cl;rw[zk7_];obtain⟨a,b,c⟩:=h;lia
theorem zh6_ {f:Fd}(h:OkFd f){c:List Nat}(hc:c.length=40):pt f c=(cl f).map λj=>c.getD (j-1).toNat 0:=by
 obtain⟨h1,h2,h3⟩:=h;obtain⟨i,hi⟩:=mO (show 0<=f.1-1 by lia)
 have e:pt f c=(c.drop i).take (f.2+1-f.1).toNat:=by
  unfold pt;rw[hi,show f.2=((i:Int)+((f.2+1-f.1).toNat:Nat)) by lia]
  have:=zgx_ c i (f.2+1-f.1).toNat (by lia)
  rw[show(i:Int)+((f.2+1-f.1).toNat:Nat)+1-f.1=f.2+1-f.1 by lia]
  exact this
 rw[e];unfold cl rngI;rw[lY];apply pB;intro k;rw[List.getElem?_take,kZ];by_cases hk:k<(f.2+1-f.1).toNat
 ·rw[if_pos hk,qZ hk,List.getElem?_drop]
  show _=uM (c.getD (f.1+(k:Int)-1).toNat 0)
  rw[show(f.1+(k:Int)-1).toNat=i+k by lia,kY,kz (by lia)];rfl
 ·rw[if_neg hk,nR (by rw[mf];lia)];rfl
theorem ziT_ {f:Fd}(h:OkFd f){c:List Nat}(hc:CD c):∀x∈pt f c,x∈SG:=λx hx=>by
 rw[zh6_ h hc.1]at hx;obtain⟨j,hj,rfl⟩:=mz.mp hx;have:=zoo_ h j hj;exact hc.2 _ (by lia)
theorem zia_ {f:Fd}(h:OkFd f){c:List Nat}(hc:CD c):rkc (cl f) c=(pt f c).map rk:=by rw[zh6_ h hc.1,lY];rfl
theorem ziK_:∀a∈SG,∀b∈SG,(rk a<rk b↔a<b)/\(rk a=rk b↔a=b):=by decide
theorem zeG_:∀{a b:List Nat},(∀x∈a,x∈SG)->(∀x∈b,x∈SG)->HT.lexLt (a.map rk) (b.map rk)=decide (a<b)
 |[],[],_,_=>rfl
 |[],_::_,_,_=>rfl
 |_::_,[],_,_=>rfl
 |x::a,y::b,ha,hb=>by
  obtain⟨m1,m2⟩:=ziK_ x (ha x lj) y (hb y lj);have ih:=zeG_ (a:=a) (b:=b) (λz hz=>ha z (ll _ hz)) λz hz=>hb z (ll _ hz)
  rw[kX,kX,HT.lexLt_cons,ih];by_cases e:x=y
  ·subst e;rw[if_pos rfl,nY,decide_eq_true_eq,decide_eq_true_eq,qK]
   exact⟨λh=>.inr ⟨rfl,h⟩,λh=>h.elim (λz=>absurd z (oh _)) λz=>z.2⟩
  ·rw[if_neg (λz=>e (m2.mp z)),nY,decide_eq_true_eq,decide_eq_true_eq,qK]
   exact⟨λh=>.inl (m1.mp h),λh=>h.elim m1.mpr λz=>absurd z.1 e⟩
theorem zda_ (l:Cds):(lK l.length).map (λi=>l.getD i [])=l:=by
 apply pB;intro i;by_cases hi:i<l.length
 ·simp[hi]
 ·simp[nR,hi,pG hi]
theorem zw_ (key:List Nat->List Int)(l:Cds):(srtG key l).Perm l:=by
 have h:=(zbC_ (ltQ (l.map key)) (lK l.length)).map λi=>l.getD i []
 rw[zda_]at h;exact h
theorem zer_ (key:List Nat->List Int){l:Cds}(nd:l.Nodup):(srtG key l).Pairwise λa b=>HT.lexLt (key b) (key a)=uP/\(HT.lexLt (key a) (key b)=uO\/l.idxOf a<l.idxOf b):=by
 have hp:=zbC_ (ltQ (l.map key)) (lK l.length);have h1:=zcm_ (lo_q (l.map key)) (lK l.length);have h2:(srtL (ltQ (l.map key)) (lK l.length)).Nodup:=hp.nodup_iff.mpr rY;have ek:∀i,i<l.length->(l.map key).getD i []=key (l.getD i []):=λi hi=>by
  rw[kY,kY,kZ,kz hi];rfl
 have ei:∀i,i<l.length->l.idxOf (l.getD i [])=i:=λi hi=>by
  rw[kY,kz hi];exact ni nd i hi
 unfold srtG srtQ;rw[qa];refine(h1.and h2).imp_of_mem λ{i j} hi hj h=>?_
 have hi:=l4.mp (hp.mem_iff.mp hi);have hj:=l4.mp (hp.mem_iff.mp hj);obtain⟨a,b⟩:=zgz_.mp h.1;have a:HT.lexLt _ _=uP:=a;rw[ek i hi,ek j hj]at a;refine⟨a,b.imp (λb=>?_) λb=>?_⟩
 ·have b:HT.lexLt _ _=uO:=b
  rw[ek i hi,ek j hj]at b;exact b
 ·rw[ei i hi,ei j hj];have:=h.2;lia
theorem zn3_ (a b:List Int):ltLD (LS .int a) (LS .int b)=.ok (.bl (HT.lexLt a b)):=by
 show(Mo.opt (intsD (a.map D.int))).bind _=_
 rw[zev_,ziy_,zeq_];show(Mo.opt (intsD (b.map D.int))).bind _=_
 rw[zev_,ziy_,zeq_]
def Asc (cols:List Int)(cs:Cds):Prop:=cs.Pairwise λa b=>HT.lexLt (rkc cols b) (rkc cols a)=uP
def OkC (cols:List Int):Prop:=(∀j∈cols,1<=j/\j<=36)/\cols.length<=1000
theorem zjs_ {a b:List Nat}{cols:List Int}(ha:CD a)(hb:CD b)(hc:OkC cols):zaq_.val [.str a,.str b,.fz (LS .int cols)]=.ok (.bl (HT.lexLt (rkc cols a) (rkc cols b))):=by
 refine zam_ rfl rfl λpn hp=>?_
 unfold zak_
 exists hp,zcQ_ ha hc.1 hc.2,zcQ_ hb hc.1 hc.2,zn3_
 fail "q"
theorem zon_ {cs:Cds}{i:Int}{c:List Nat}(h0:0<=i)(h:cs[i.toNat]?=uM c):ixA (LS .str cs) (.int i)=.ok (.str c):=by
 rw[zov_,zfl_ h0 h];rfl
theorem rg2 {i j:Int}(h : -100000<=i/\i<=100000)(h2 : -100000<=j/\j<=100000):rng2D [.int i,.int j]=.ok ((lK (j-i).toNat).map λk:Nat=>.int (i+(k:Int))):=by
 show Mo.grd _ _=_
 rw[Mo.grd_ok (by lia)]
 unfold rngI;rw[lY];rfl
theorem zoG_ {cs:Cds}{cols:List Int}(hl:LG cs)(au:∀c∈cs,CD c)(hc:OkC cols)(hs:Asc cols cs):zdV_.val [.fz (LS .str cs),.fz (LS .int cols)]=.ok .non:=by
 have hn:=hl.1;have er:=rg2 (i:=1) (j:=(cs.length:Int)) (by lia) (by lia)
 rw[show((cs.length:Int)-1).toNat=cs.length-1 by lia]at er
 refine zam_ rfl rfl λpn hp=>?_
 unfold zdP_;refine ziW_ (l:=lK (cs.length-1)) (enc:=λi:Nat=>[.int (1+(i:Int))]) (d1:=.int 1) (d2:=.int (cs.length:Int)) (λd e=>∃o,e=[uM (.fz (LS .str cs)),uM (.fz (LS .int cols)),o]) (by exists hp) (by exists hp) er (zal_ _ _) ⟨_,rfl⟩ (λd i r e cD he=>?_) λe he=>?_
 ·obtain⟨o,rfl⟩:=he
  have hi:i<cs.length-1:=l4.mp (by rw[cD];simp)
  refine⟨[uM (.fz (LS .str cs)),uM (.fz (LS .int cols)),uM (.int (1+(i:Int)))],(by exists hp),?_⟩
  have e1:=zon_ (cs:=cs) (i:=1+(i:Int)) (c:=cs[i+1]'(by lia)) (by lia) (by rw[show(1+(i:Int)).toNat=i+1 by lia];exact kz (by lia))
  have e2:=zon_ (cs:=cs) (i:=1+(i:Int)-1) (c:=cs[i]'(by lia)) (by lia) (by rw[show(1+(i:Int)-1).toNat=i by lia];exact kz (by lia))
  have e3:=zjs_ (au _ (mK (show i+1<cs.length by lia))) (au _ (mK (show i<cs.length by lia))) hc
  rw[mG.mp hs i (i+1) (by lia) (by lia) (by lia)]at e3
  exists hp,e1,e2,e3
  exact⟨_,_,rfl,.inl ⟨.inl rfl,_,rfl⟩⟩
 ·obtain⟨o,rfl⟩:=he
  exists hp
  fail "q"
theorem zlR_ {cs:Cds}{f:Fd}(hl:LG cs)(au:∀c∈cs,CD c)(hf:OkFd f)(hs:Asc (cl f) cs)(k:Int):zaD_.val [.fz (LS .str cs),F2 f,.int k]=.ok .non:=by
 refine zam_ rfl rfl λpn hp=>?_
 unfold zaA_;have e1:zA_.val [F2 f]=.ok (LS .int (cl f)):=zfP_ hf;have e2:isD uO .non .non=.ok (.bl uP):=rfl
 exists hp,zfg_,e1,zoG_ hl au ⟨zoo_ hf,by have:=zh5_ hf;lia⟩ hs,e2
 fail "q"
def SD (m:Cds):D:=TG D.bl (m.map λn=>(n,uO))
theorem sd_in (neg:Bool)(m:Cds)(n:Jx):inA neg (.str n) (SD m)=.ok (.bl (if neg then !decide (n∈m)else decide (n∈m))):=by
 have:=td_in (g:=D.bl) neg (m.map λn=>(n,uO)) n
 rw[lY,show((·.1)∘λn:List Nat=>(n,uO))=id from rfl,qT]at this
 exact this
def adt (m:Cds)(n:Jx):Cds:=if n∈m then m else m++[n]
theorem znc_ {m:Cds}{n x:List Nat}:x∈adt m n↔x∈m\/x=n:=by
 unfold adt;split
 ·rename_i h;exact⟨.inl,λz=>z.elim id λe=>by rw[e];exact h⟩
 ·simp
theorem zn9_ (m:Cds)(n:Jx):(adt m n).length<=m.length+1:=by unfold adt;split<;>simp
theorem zjn_ (m:Cds):SD m=.nd (.dct (m.map kN_t)) (m.map λ_=>.bl uO):=by
 unfold SD TG;rw[lY,lY];rfl
theorem znh_ {m:Cds}{n:List Nat}(hl:m.length<1000):setIF [.bl uO,SD m,.str n]=.ok .non [.gone,SD (adt m n),.str n]:=by
 rw[zjn_,zjn_];show(if kIx (m.map kN_t) (kN_t n)<(m.map kN_t).length/\(m.map λ_=>D.bl uO).length<lg then Mr.ok D.non [D.gone,.nd (.dct (m.map kN_t)) ((m.map λ_=>D.bl uO).set (kIx (m.map kN_t) (kN_t n)) (.bl uO)),D.str n]else if(m.map λ_=>D.bl uO).length<lg/\¬kIx (m.map kN_t) (kN_t n)<(m.map kN_t).length then Mr.ok D.non [D.gone,.nd (.dct (m.map kN_t++[kN_t n])) ((m.map λ_=>D.bl uO)++[D.bl uO]),D.str n]else Mr.no)=_
 have hz:(m.map λ_=>D.bl uO).length<lg:=by rw[kE];exact zkY_ (by lia)
 have hm:kN_t n∈m.map kN_t↔n∈m:=by
  rw[mz];exact⟨λ⟨x,h,e⟩=>by rw[<- zhN_.mp e];exact h,λh=>⟨n,h,rfl⟩⟩
 unfold adt;by_cases h:n∈m
 ·rw[if_pos ⟨zdU_.mpr (hm.mpr h),hz⟩,if_pos h]
  have:(m.map λ_=>D.bl uO).set (kIx (m.map kN_t) (kN_t n)) (.bl uO)=m.map λ_=>D.bl uO:=by
   rw[show(m.map λ_=>D.bl uO)=lu m.length (D.bl uO)from List.map_const',List.set_replicate_self]
  rw[this]
 ·rw[if_neg λz=>h (hm.mp (zdU_.mp z.1)),if_pos ⟨hz,λz=>h (hm.mp (zdU_.mp z))⟩,if_neg h,mT,mT];rfl
theorem zif_ {ss:Cds}{f:Fd}{p:List Nat->Bool}(hl:LG ss)(au:∀c∈ss,CD c)(hf:OkFd f)(hs:Asc (cl f) ss)(jt:∀d c r,ss=d++c::r->decide (pt f c∈d.map (pt f))=!p c):∃O,zO_.val [.fz (LS .str ss),F2 f]=.ok (.nd .tup [.fz (LS .str (ss.filter p)),.fz (LS .str O)]):=by
 have key:∀pn:Nat->Bool,(∀i,pn i=uP)->En (S.runs gi pn zH_ ([.fz (LS .str ss),F2 f].map uM++lu 5 uN)) λo _=>∃O,o=.rt (.nd .tup [.fz (LS .str (ss.filter p)),.fz (LS .str O)]):=λpn hp=>by
  unfold zH_;rw[zot_ (d:=.non) (e:=[uM (.fz (LS .str ss)),uM (F2 f),uN,uN,uN,uN,uN]) (by exists zfg_,zlR_ hl au hf hs)]
  rw[zby_ (d:=LS .str []) (by rw[zeV_];exact zF_ (d:=LS .str []) _ zah_) (hp _)]
  rw[zby_ (d:=LS .str []) (by rw[zeV_];exact zF_ (d:=LS .str []) _ zah_) (hp _)]
  rw[zby_ (d:=SD []) (by rw[zeV_];exact zF_ (d:=SD []) _ rfl) (hp _)]
  refine zcj_ (l:=ss) (enc:=λc=>[.str c]) (d:=.fz (LS .str ss)) (λd e=>∃m O o o',e=[uM (.fz (LS .str ss)),uM (F2 f),uM (LS .str (d.filter p)),uM (LS .str O),uM (SD m),o,o']/\m.length<=d.length/\O.length<=d.length/\∀x,x∈m↔x∈d.map (pt f)) (by exists hp) (by exists hp) (zal_ _ _) ⟨[],[],uN,uN,rfl,kP _,kP _,λx=>Iff.rfl⟩ (λd c r e cD he=>?_) λe he=>?_
  ·obtain⟨m,O,o,o',rfl,hm,hO,hx⟩:=he
   have hd:d.length<64:=by have:=hl.1;rw[cD,lC]at this;lia
   have hc:=hl.2 c (by rw[cD];simp)
   have hq:decide (pt f c∈m)=!p c:=by rw[<- jt d c r cD,nY,decide_eq_true_eq,decide_eq_true_eq];exact hx _
   refine⟨[uM (.fz (LS .str ss)),uM (F2 f),uM (LS .str (d.filter p)),uM (LS .str O),uM (SD m),uM (.str c),o'],(by exists hp),?_⟩
   rw[zby_ (d:=.str (pt f c)) (by exists zfg_,zlJ_ hc) (hp _)]
   have dE:∀x,x∈adt m (pt f c)↔x∈(d++[c]).map (pt f):=λx=>by rw[znc_,hx,mT,ny,List.map_singleton,l5]
   have hn:(adt m (pt f c)).length<=(d++[c]).length:=by have:=zn9_ m (pt f c);rw[lC,nQ];lia
   have sv:(SD m).vw=.fz (SD m):=rfl;cases hpc:p c with
   |true=>
    rw[hpc]at hq;have gJ:=oM p d;have hq:decide (pt f c∈m)=uP:=hq;rw[zkV_ (by exists sv,sd_in,hq),qL]
    rw[zot_ (d:=.non) (e:=[uM (.fz (LS .str ss)),uM (F2 f),uM (LS .str (d.filter p++[c])),uM (LS .str O),uM (SD m),uM (.str c),uM (.str (pt f c))]) (by exists zm0_ (g:=.str) (l:=d.filter p) (x:=c) (by lia))]
    rw[S.runs,S.run,zkW_ (d:=.bl uO) (a:=.str (pt f c)) rfl rfl rfl rfl rfl (znh_ (by lia)),zeo_]
    refine⟨_,_,rfl,.inl ⟨.inl rfl,adt m (pt f c),O,uM (.str c),uM (.str (pt f c)),?_,hn,by rw[lC];lia,dE⟩⟩
    rw[rG,List.filter_cons_of_pos hpc,sO];rfl
   |false=>
    rw[hpc]at hq;have hq:decide (pt f c∈m)=uO:=hq;rw[zl9_ (by exists sv,sd_in,hq),qL]
    rw[zot_ (d:=.non) (e:=[uM (.fz (LS .str ss)),uM (F2 f),uM (LS .str (d.filter p)),uM (LS .str (O++[c])),uM (SD m),uM (.str c),uM (.str (pt f c))]) (by exists zm0_ (g:=.str) (l:=O) (x:=c) (by lia))]
    rw[S.runs,S.run,zkW_ (d:=.bl uO) (a:=.str (pt f c)) rfl rfl rfl rfl rfl (znh_ (by lia)),zeo_]
    refine⟨_,_,rfl,.inl ⟨.inl rfl,adt m (pt f c),O++[c],uM (.str c),uM (.str (pt f c)),?_,hn,by rw[lC,lC];lia,dE⟩⟩
    rw[rG,List.filter_cons_of_neg (by rw[hpc];decide),sO,nU];rfl
  ·obtain⟨m,O,o,o',rfl,hm,hO,hx⟩:=he
   exists hp
   exact⟨_,_,rfl,O,rfl⟩
 have hf:zO_=fnOf gi 2 5 zH_:=rfl;obtain⟨o,e,h1,O,rfl⟩:=key (pins [.fz (LS .str ss),F2 f]) (zbE_ rfl);exact⟨O,by rw[hf];exact zil_ (zlc_ rfl rfl h1)⟩
theorem zjQ_ {l:Cds}{p:List Nat->Bool}{q:Nat->Bool}(h:∀k,k<l.length->q k=p (l.getD k [])):((lK l.length).filter q).map (λk=>l.getD k [])=l.filter p:=by
 conv=>rhs;rw[<- zda_ l,List.filter_map]
 congr 1;exact List.filter_congr λk hk=>h k (l4.mp hk)
theorem zoH_ {l:Cds}(nd:l.Nodup){k:Nat}(h:k<l.length):l.idxOf (l.getD k [])=k:=by
 rw[kY,kz h];exact ni nd k h
theorem zjP_ {l:Cds}(nd:l.Nodup){k:Nat}{c:List Nat}:c∈l.take k↔c∈l/\l.idxOf c<k:=by
 rw[List.mem_take_iff_getElem];constructor
 ·rintro⟨i,hi,rfl⟩
  rw[ni nd i (by lia)]
  exact⟨mK _,by lia⟩
 ·rintro⟨h1,h2⟩
  have:=nh.mpr h1;exact⟨l.idxOf c,by lia,nO this⟩
theorem zqq_ {l:Cds}(nd:l.Nodup){p:List Nat->Bool}{a b:List Nat}(ha:a∈l.filter p)(hb:b∈l.filter p)(h:l.idxOf a<l.idxOf b):(l.filter p).idxOf a<(l.filter p).idxOf b:=by
 have h0:l.Pairwise λx y=>l.idxOf x<l.idxOf y:=mG.mpr λi j hi hj aE=>by
  rw[ni nd i hi,ni nd j hj];exact aE
 have h1:=mG.mp (h0.sublist (o9 (p:=p)));have la:=nh.mpr ha;have lb:=nh.mpr hb;rcases rQ ((l.filter p).idxOf a) ((l.filter p).idxOf b)with z |z |z
 ·exact z
 ·have:=nO la
  have e2:=nO lb;simp only[z]at this;rw[this]at e2;subst e2;lia
 ·have:=h1 _ _ lb la z
  rw[nO,nO]at this;lia
section
variable {f:Fd}{l:Cds}
def sf (f:Fd)(l:Cds):Cds:=srtG (rkc (cl f)) l
theorem zlh_ (hf:OkFd f)(nd:l.Nodup)(hc:∀c∈l,CD c):(sf f l).Pairwise λa b=>¬pt f b<pt f a/\(pt f a<pt f b\/l.idxOf a<l.idxOf b):=by
 refine(zer_ (rkc (cl f)) nd).imp_of_mem λ{a b} ha hb h=>?_
 have ca:=hc a ((zw_ _ _).mem_iff.mp ha);have cb:=hc b ((zw_ _ _).mem_iff.mp hb);rw[zia_ hf ca,zia_ hf cb,zeG_ (ziT_ hf cb) (ziT_ hf ca),zeG_ (ziT_ hf ca) (ziT_ hf cb),decide_eq_false_iff_not,decide_eq_true_eq]at h;exact h
theorem zro_ (nd:l.Nodup):Asc (cl f) (sf f l):=(zer_ (rkc (cl f)) nd).imp λh=>h.1
theorem zqB_ (h:LG l):LG (sf f l):=⟨by rw[sf,(zw_ _ _).length_eq];exact h.1,λc hc=>h.2 c ((zw_ _ _).mem_iff.mp hc)⟩
def fst' (f:Fd)(l:Cds)(c:Jx):Bool:=decide (pt f c∉(l.take (l.idxOf c)).map (pt f))
theorem zrg_ (hf:OkFd f)(nd:l.Nodup)(hc:∀c∈l,CD c)(d:Cds)(c:Jx)(r:Cds)(h:sf f l=d++c::r):decide (pt f c∈d.map (pt f))=!fst' f l c:=by
 have hr:=zlh_ hf nd hc;rw[h]at hr;obtain⟨_,h2,h3⟩:=List.pairwise_append.mp hr;have hm:∀x,x∈l↔x∈d++c::r:=λx=>by rw[<- h];exact(zw_ _ _).mem_iff.symm
 unfold fst';rw[decide_not,Bool.not_not,nY,decide_eq_true_eq,decide_eq_true_eq,mz,mz];constructor
 ·rintro⟨a,ha,e⟩
  refine⟨a,(zjP_ nd).mpr ⟨(hm a).mpr (by simp[ha]),?_⟩,e⟩
  rcases(h3 a ha c lj).2 with z |z
  ·rw[e]at z;exact absurd z (pX _)
  ·exact z
 ·rintro⟨a,ha,e⟩
  obtain⟨h4,h5⟩:=(zjP_ nd).mp ha;rcases ny.mp ((hm a).mp h4)with z |z
  ·exact⟨a,z,e⟩
  ·rcases lA.mp z with rfl |z
   ·lia
   ·rcases(List.rel_of_pairwise_cons h2 z).2 with z |z
    ·rw[e]at z;exact absurd z (pX _)
    ·lia
end
theorem znD_ {l:Cds}{f:Fd}(h:LG l)(hf:OkFd f)(hc:∀c∈l,CD c):zt_.val [.fz (LS .str l),.fz (LS .int (cl f))]=.ok (LS .str (sf f l)):=
 zmL_ h λc aB=>zcQ_ (hc c aB) (zoo_ hf) (by have:=zh5_ hf;lia)
theorem AQ_m {n:List Nat}{m:Md}{ks:List Fd}:fldD gi.cs "middle" (AO (AQ n m ks))=.ok (MD m):=zhA_ _
def MAm:Md->Bool
 |.ma _ _ _ _=>uO
 |_=>uP
theorem zmj_ {n:List Nat}{f:Fd}{ks:List Fd}{l:Cds}{t:D}(hf:OkFd f)(hl:LG l)(nd:l.Nodup)(hc:∀c∈l,CD c):zx_.val [.fz (AO (AQ n (.fi f) ks)),.fz (LS .str l),.fz t]=.ok (.fz (LS .str ((sf f l).filter (fst' f l)))):=by
 obtain⟨O,e1⟩:=zif_ (p:=fst' f l) (zqB_ hl) (λc h=>hc c ((zw_ _ _).mem_iff.mp h)) hf (zro_ nd) (zrg_ hf nd hc)
 refine zam_ rfl rfl λpn hp=>?_
 unfold zQ_;have e2:isD uP (MD (.fi f)) .non=.ok (.bl uP):=rfl;have e3:zo_.val [.fz (AO (AQ n (.fi f) ks))]=.ok (LS F2 [f]):=zkG_ (A:=AQ n (.fi f) ks) hf;have e4:ixA (LS F2 [f]) (.int 0)=.ok (F2 f):=rfl;have e5:zA_.val [F2 f]=.ok (LS .int (cl f)):=zfP_ hf;have e6:ixA (MD (.fi f)) (.int 0)=.ok (.str WFi):=rfl;have e7:eqD uP (.str WFi) (.str [102,105,114,115,116])=.ok (.bl uO):=rfl;have e8:∀u v:D,ixA (.nd .tup [.fz u,v]) (.int 0)=.ok ((D.fz u).vw):=λ_ _=>rfl
 exists hp,zY_,AQ_m,e2,e3,e4,e5,zfg_,znD_ hl hf hc,e6,e7,e1,e8
 fail "q"
theorem AQ_k {n:List Nat}{m:Md}{ks:List Fd}:fldD gi.cs "deck" (AO (AQ n m ks))=.ok (.str n):=rfl
theorem midn0 {n:List Nat}{ks:List Fd}{d t:D}:zx_.val [.fz (AO (AQ n .no ks)),.fz d,.fz t]=.ok (.fz d):=by
 refine zam_ rfl rfl λpn hp=>?_
 unfold zQ_;have e2:isD uP (MD .no) .non=.ok (.bl uO):=rfl
 exists hp,zY_,AQ_m,e2
 fail "q"
def kc (ks:List Fd):List Int:=ks.flatMap cl
theorem kc_in {ks:List Fd}(h:∀f∈ks,OkFd f):∀j∈kc ks,1<=j/\j<=36:=λj hj=>by
 obtain⟨f,hf,hj⟩:=List.mem_flatMap.mp hj;exact zoo_ (h f hf) j hj
theorem zkg_:∀{ks:List Fd},(∀f∈ks,OkFd f)->(kc ks).length<=36*ks.length
 |[],_=>me _
 |f::ks,h=>by
  have:=zkg_ (ks:=ks) λg hg=>h g (ll _ hg)
  have:=zh5_ (h f lj);unfold kc at *;rw[qb,lC,lp];lia
theorem keyc0 {n:List Nat}{md:Md}{ks:List Fd}(hk:ks.length<=6)(ho:∀f∈ks,OkFd f):zay_.val [.fz (AO (AQ n md ks))]=.ok (LS .int (kc ks)):=by
 refine zam_ rfl rfl λpn hp=>?_
 unfold zas_;rw[zby_ (d:=LS .int []) (by rw[zeV_];exact zF_ (d:=LS .int []) _ zah_) (hp _)]
 refine zcj_ (l:=ks) (enc:=λp=>[F2 p]) (d:=.fz (LS F2 ks)) (λd e=>∃o,e=[uM (.fz (AO (AQ n md ks))),uM (LS .int (kc d)),o]) (by exists zY_,AQ_o) (by exists hp) (zal_ _ _) ⟨uN,rfl⟩ (λd f r e hd he=>?_) λe he=>?_
 ·obtain⟨o,rfl⟩:=he
  have hf:=ho f (by rw[hd];simp)
  have iF:d.length<=6:=by rw[hd,lC]at hk;lia
  have l1:=zkg_ (ks:=d) λg hg=>ho g (by rw[hd];simp[hg])
  have l2:=zh5_ hf;have e1:zA_.val [F2 f]=.ok (LS .int (cl f)):=zfP_ hf;refine⟨[uM (.fz (AO (AQ n md ks))),uM (LS .int (kc d)),uM (F2 f)],(by exists hp,zfg_),?_⟩
  exists hp,zfg_,e1,zpa_ (g:=.int) (a:=kc d) (b:=cl f) (by lia)
  refine⟨_,_,rfl,.inl ⟨.inl rfl,uM (F2 f),?_⟩⟩;unfold kc;rw[ou,oH]
 ·obtain⟨o,rfl⟩:=he
  exists hp
  fail "q"
theorem chosen0 {n:List Nat}{md:Md}{ks:List Fd}{m:List (List Nat×Cds)}{cs rs:Cds}(hm:OkM n md)(fH:∀w k f g,md≠.ma w k f g)(hk:ks.length<=6)(ho:∀f∈ks,OkFd f)(h:(m.find? λq=>decide (q.1=n))=uM (n,cs))(hd:zx_.val [.fz (AO (AQ n md ks)),.fz (LS .str cs),.fz (TD m)]=.ok (.fz (LS .str rs)))(hr:LG rs)(hc:∀c∈rs,CD c):zT_.val [.fz (AO (AQ n md ks)),.fz (TD m)]=.ok (LS .str (srtG (rkc (kc ks)) rs)):=by
 have hn:n∈m.map (·.1):=mz.mpr ⟨_,List.mem_of_find?_eq_some h,rfl⟩;have hl:=zkg_ ho;have e0:zar_.val [.fz (AO (AQ n md ks)),.fz (LS .str cs)]=.ok (.fz (LS .str cs)):=rfl;have e1:zt_.val [.fz (LS .str rs),.fz (LS .int (kc ks))]=.ok (LS .str (srtG (rkc (kc ks)) rs)):=zmL_ hr λc aB=>zcQ_ (hc c aB) (kc_in ho) (by lia)
 have e3:∀c,zau_.val [.fz (AO (AQ n md ks)),.str c]=.ok (.str c):=λc=>rfl
 have pl:=(zw_ (rkc (kc ks)) rs).length_eq;have kj:=hr.1;refine zam_ rfl rfl λpn hp=>?_
 unfold zav_;rw[zot_ (d:=.non) (e:=[uM (.fz (AO (AQ n md ks))),uM (.fz (TD m)),uN]) (by exists zY_,zfk_,zpA_ hm hn (λw k f g z=>absurd z (fH w k f g)))]
 rw[zkw_ (d:=.fz (LS .str cs)) (e:=[uM (.fz (AO (AQ n md ks))),uM (.fz (TD m)),uN]) (by exists zY_,zfk_,AQ_k,td_ix h,e0) (hp _) (m7 rfl)]
 rw[zkw_ (d:=.fz (LS .str rs)) (e:=[uM (.fz (AO (AQ n md ks))),uM (.fz (TD m)),uM (.fz (LS .str cs))]) (by exists zY_,zfk_,hd) (hp _) (m7 rfl)]
 rw[zby_ (d:=LS .str (srtG (rkc (kc ks)) rs)) (by exists zY_,keyc0 hk ho,e1) (hp _)]
 rw[zkF_ (d:=LS .str (srtG (rkc (kc ks)) rs)) (e:=[uM (.fz (AO (AQ n md ks))),uM (.fz (TD m)),uM (LS .str (srtG (rkc (kc ks)) rs))]) ?_]
 ·fail "q"
 ·rw[zeV_,xcompN (f:=λx:List Nat=>x) (o:=.str) (T:=λx=>[.str x]) (srtG (rkc (kc ks)) rs) rfl (by exists hp) (zal_ _ _) (λc hc=>?_) (by lia),qF]
  ·exact zF_ _ zah_
  ·exists zY_,e3
theorem zji_:∀(p q r:List Int),HT.lexLt (p++q) (p++r)=HT.lexLt q r
 |[],_,_=>rfl
 |x::p,q,r=>by rw[l0,l0,HT.lexLt_cons,if_pos rfl,zji_ p q r]
theorem zi9_:∀{x y:List Int}(q r:List Int),x.length=y.length->x≠y->HT.lexLt (x++q) (y++r)=HT.lexLt x y
 |[],[],_,_,_,h=>absurd rfl h
 |[],_::_,_,_,h,_=>by cases h
 |_::_,[],_,_,h,_=>by cases h
 |a::x,b::y,q,r,hl,h=>by
  rw[l0,l0,HT.lexLt_cons,HT.lexLt_cons];by_cases e:a=b
  ·subst e
   rw[if_pos rfl,if_pos rfl];exact zi9_ q r (by simpa using hl) (λz=>h (by rw[z]))
  ·rw[if_neg e,if_neg e]
theorem zjc_:∀(p:List Int),HT.lexLt p p=uP
 |[]=>rfl
 |x::p=>by rw[HT.lexLt_cons,if_pos rfl,zjc_ p]
theorem zlS_:∀{a b:List Nat},(∀x∈a,x∈SG)->(∀x∈b,x∈SG)->a.map rk=b.map rk->a=b
 |[],[],_,_,_=>rfl
 |[],_::_,_,_,h=>by cases h
 |_::_,[],_,_,h=>by cases h
 |x::a,y::b,ha,hb,h=>by
  rw[kX,kX]at h;injection h with h1 h2;rw[((ziK_ x (ha x lj) y (hb y lj)).2).mp h1,zlS_ (λz hz=>ha z (ll _ hz)) (λz hz=>hb z (ll _ hz)) h2]
theorem zck_ (x y:List Int)(c:Jx):rkc (x++y) c=rkc x c++rkc y c:=mT
theorem zhq_ {a b:List Nat}(ha:CD a)(hb:CD b){ks:List Fd}(ho:∀f∈ks,OkFd f):∃w:Int,zR_.val [.str a,.str b,.fz (LS F2 ks)]=.ok (.int w)/\(w<0->HT.lexLt (rkc (kc ks) b) (rkc (kc ks) a)=uO)/\(w=0->rkc (kc ks) a=rkc (kc ks) b):=by
 have key:∀pn:Nat->Bool,(∀i,pn i=uP)->En (S.runs gi pn zG_ ([.str a,.str b,.fz (LS F2 ks)].map uM++lu 4 uN)) λo _=>∃w:Int,o=.rt (.int w)/\(w<0->HT.lexLt (rkc (kc ks) b) (rkc (kc ks) a)=uO)/\(w=0->rkc (kc ks) a=rkc (kc ks) b):=λpn hp=>by
  unfold zG_;refine zcj_ (l:=ks) (enc:=λf=>[.int f.1,.int f.2]) (d:=.fz (LS F2 ks)) (λd e=>∃o3 o4 o5 o6,e=[uM (.str a),uM (.str b),uM (.fz (LS F2 ks)),o3,o4,o5,o6]/\rkc (kc d) a=rkc (kc d) b) (by exists hp) (by exists hp;rfl) (zhJ_ _ _ _) ⟨uN,uN,uN,uN,rfl,rfl⟩ (λd f r e hd he=>?_) λe he=>?_
  ·obtain⟨o3,o4,o5,o6,rfl,hq⟩:=he
   have hf:=ho f (by rw[hd];simp)
   refine⟨[uM (.str a),uM (.str b),uM (.fz (LS F2 ks)),uM (.int f.1),uM (.int f.2),o5,o6],(by exists hp),?_⟩
   have s1:slA (.str a) (uM (f.1-1)) (uM f.2)=.ok (.str (pt f a)):=zfe_ (by rw[ha.1];lia)
   have s2:slA (.str b) (uM (f.1-1)) (uM f.2)=.ok (.str (pt f b)):=zfe_ (by rw[hb.1];lia)
   rw[zby_ (d:=.str (pt f a)) (by exists s1) (hp _)]
   rw[zby_ (d:=.str (pt f b)) (by exists s2) (hp _)]
   have ka:=zia_ hf ha;have kb:=zia_ hf hb;have jV:kc ks=kc d++(cl f++kc r):=by unfold kc;rw[hd,ou,qb]
   have g1:=zch_ (neg:=uO) (pt f a) (pt f b);by_cases z:pt f a=pt f b
   ·rw[decide_eq_true z]at g1
    exists hp,g1
    refine⟨_,_,rfl,.inl ⟨.inl rfl,_,_,_,_,rfl,?_⟩⟩;have:kc (d++[f])=kc d++cl f:=by unfold kc;rw[ou,oH]
    rw[this,zck_,zck_,hq,ka,kb,z]
   ·rw [decide_eq_false z]at g1
    have g2:txtD (λi j=>decide (i<j)) (.str (pt f a)) (.str (pt f b))=.ok (.bl (decide (pt f a<pt f b))):=rfl
    have g3:txtD (λi j=>decide (j<i)) (.str (pt f a)) (.str (pt f b))=.ok (.bl (decide (pt f b<pt f a))):=rfl
    have g4:∀c:Bool,intB [.bl c]=.ok (.int (if c=uO then 1 else 0)):=λ_=>rfl
    exists hp,g1,g2,g3,g4
    refine⟨_,_,rfl,.inr ⟨⟨_,rfl⟩,_,rfl,λhw=>?_,λhw=>?_⟩⟩
    ·have ay:pt f b<pt f a:=by
      by_cases y:pt f b<pt f a
      ·exact y
      ·rw[decide_eq_false y]at hw
       exfalso;revert hw;cases decide (pt f a<pt f b)<;>decide
     rw[jV,zck_,zck_,zck_,zck_,hq,zji_,ka,kb,zi9_ _ _ (by rw[kE,kE,zh6_ hf ha.1,zh6_ hf hb.1,kE,kE]) (λe=>z (zlS_ (ziT_ hf hb) (ziT_ hf ha) e).symm),zeG_ (ziT_ hf hb) (ziT_ hf ha)]
     exact decide_eq_true ay
    ·exfalso
     by_cases y:pt f b<pt f a
     ·rw[decide_eq_true y,decide_eq_false (tE y)]at hw
      revert hw;decide
     ·by_cases y':pt f a<pt f b
      ·rw[decide_eq_true y',decide_eq_false y]at hw
       revert hw;decide
      ·exact z (qk y y')
  ·obtain⟨o3,o4,o5,o6,rfl,hq⟩:=he
   exists hp
   exact⟨_,_,rfl,0,rfl,λh=>absurd h (by decide),λ_=>hq⟩
 have hf:zR_=fnOf gi 3 4 zG_:=rfl;obtain⟨o,e,h1,w,rfl,h2⟩:=key (pins [.str a,.str b,.fz (LS F2 ks)]) (zbE_ rfl);exact⟨w,by rw[hf];exact zil_ (zlc_ rfl rfl h1),h2⟩
theorem zm1_ {v:Int}(h0:0<=v)(h1:v<10000):v.natAbs.log2<1920/\(zfL (strI v) 4).length=4:=by
 obtain⟨m,rfl⟩:=mO h0;have hm:m<10000:=by lia
 have e:zfL (strI (m:Int)) 4=digs 4 m:=by
  unfold zfL;rw[zd5_];exact zb8_ (w:=4) (by decide) (by lia)
 refine⟨?_,by rw[e,zcf_]⟩
 have:Int.natAbs (m:Int)=m:=by lia
 rw[this];by_cases h:m=0
 ·subst h;decide
 ·have:m.log2<14:=(Nat.log2_lt h).mpr (by lia)
  lia
theorem atI_5 {l:List Int}{j:Nat}{q:Int}(h:l[j]?=uM q):ixA (LS .int l) (.int (0+(j:Int)))=.ok (.int q):=by
 rw[zov_,zfl_ (by lia) (by rw[show(0+(j:Int)).toNat=j by lia];exact h)];rfl
theorem zlK_ {row:Cds}{s:List Nat}{i:Int}(h0:0<=i)(h1:i<row.length):setIF [.str s,LS .str row,.int i]=.ok .non [.gone,LS .str (row.set i.toNat s),.int i]:=by
 show(match ixN (row.map D.str).length i with |some j=>Mr.ok D.non [D.gone,D.nd .lst ((row.map D.str).set j (D.str s)),D.int i]|none=>Mr.no)=_
 have:ixN (row.map D.str).length i=uM i.toNat:=by unfold ixN;rw[kE,if_pos h0,if_pos (by lia)]
 rw[this];show Mr.ok D.non [D.gone,D.nd .lst ((row.map D.str).set i.toNat (D.str s)),D.int i]=_
 rw[<- List.map_set];rfl
def S1 (t:Jx):Prop:=∃s,s∈SG/\t=[s]
theorem zqH_ {s:Nat}(hs:s∈SG):∃R:Cds,mulD (.nd .lst [.str [s]]) (.int 36)=.ok (LS .str R)/\R.length=36/\∀t∈R,S1 t:=by
 refine⟨lu 36 [s],?_,qI,λt ht=>⟨s,hs,List.eq_of_mem_replicate ht⟩⟩
 show Mo.grd (CRep 1 36) _=_
 rw[Mo.grd_ok (by decide)];rfl
theorem str_int {k:Int}(h:k.natAbs.log2<1920):strD [.int k]=.ok (.str (strI k)):=by
 show Mo.grd _ _=_
 rw[Mo.grd_ok h]
theorem zf_4 (l:Jx):zfillD l [.int 4]=.ok (.str (zfL l 4)):=by
 show Mo.grd _ _=_
 rw[Mo.grd_ok (zfa_ (by lia) (by lia))]
theorem smf_j (l:Jx)(ds:List D):Sm.f .join l ds=joinD l ds:=rfl
theorem smf_z (l:Jx)(ds:List D):Sm.f .zfill l ds=zfillD l ds:=rfl
theorem zlN_ (l:Jx):strOf (.str l)=.ok l:=rfl
theorem zkC_ {row:Cds}(hl:row.length=36)(h1:∀t∈row,S1 t):∃t,joinD [] [.fz (LS .str row)]=.ok (.str t)/\t.length=36/\∀c∈t,c∈SG:=by
 have h2:∀t∈row,t.length=1:=λt ht=>by obtain⟨s,_,rfl⟩:=h1 t ht;rfl
 have e:joinS [] (strsL row)=row.flatten:=by
  rw[L2.zkN_];have e:((strsL row).map λz:Str=>z.cps.toList)=row:=by
   unfold strsL;rw[lY];exact(nC λt _=>rfl).trans (qF row)
  rw[e]
 refine⟨row.flatten,?_,?_,λc hc=>?_⟩
 ·show(Mo.opt (strsD (row.map D.str))).bind _=_
  rw[zeT_,<- e];show Mo.grd _ _=_
  rw[Mo.grd_ok (zdX_ (by unfold strsL;rw[kE,hl];decide) ?_)]
  intro z hz;obtain⟨t,ht,rfl⟩:=mz.mp hz;show t.toArray.size<=1
  rw[kQ,h2 t ht];exact kP _
 ·rw[List.length_flatten,List.eq_replicate_of_mem (a:=1) (l:=row.map qO) (λx hx=>by obtain⟨t,ht,rfl⟩:=mz.mp hx;exact h2 t ht),kE,hl];rfl
 ·obtain⟨t,ht,hc⟩:=List.mem_flatten.mp hc
  obtain⟨s,hs,rfl⟩:=h1 t ht;rw[l5.mp hc];exact hs
theorem zlP_ {b:Int}(hb:1<=b/\b<=32){x y z:Nat}(hx:x∈SG)(hy:y∈SG)(hz:z∈SG)(c:Int){k:Int}(gF:0<=k)(eD:k<10000):∃t,zz_.val [.int c,.int b,.fz (LS .str [[x],[y],[z]]),.int k]=.ok (.str t)/\CD t/\t.drop 36=zfL (strI k) 4:=by
 have key:∀pn:Nat->Bool,(∀i,pn i=uP)->En (S.runs gi pn z4_ ([.int c,.int b,.fz (LS .str [[x],[y],[z]]),.int k].map uM++lu 3 uN)) λo _=>∃t,o=.rt (.str t)/\CD t/\t.drop 36=zfL (strI k) 4:=λpn hp=>by
  unfold z4_;rw[zby_ (d:=.str SG) (by exists hp;rfl) (hp _)]
  obtain⟨s,hs,es⟩:=zor_ (mn (c / 243) (show(37:Int)≠0 by lia)) (l6 (c / 243) (show(0:Int)<37 by lia))
  obtain⟨R,eR,R1,R2⟩:=zqH_ hs;rw[zby_ (d:=LS .str R) (by exists hp,es,eR) (hp _)]
  refine zcj_ (l:=lK 5) (enc:=λi:Nat=>[.int (0+(i:Int))]) (d:=.int 5) (λd e=>∃row o,e=[uM (.int c),uM (.int b),uM (.fz (LS .str [[x],[y],[z]])),uM (.int k),uM (.str SG),uM (LS .str row),o]/\row.length=36/\∀t∈row,S1 t) (by exists hp) (rg1 (by lia) (by lia)) (zal_ _ _) ⟨_,uN,rfl,R1,R2⟩ (λd j r e hl he=>?_) λe he=>?_
  ·obtain⟨row,o,rfl,hr,h1⟩:=he
   have hj:j<5:=by
    have:j∈lK 5:=by rw[hl];simp
    exact l4.mp this
   refine⟨[uM (.int c),uM (.int b),uM (.fz (LS .str [[x],[y],[z]])),uM (.int k),uM (.str SG),uM (LS .str row),uM (.int (0+(j:Int)))],(by exists hp),?_⟩
   obtain⟨q,hq,q0,q1⟩:∃q:Int,[1,3,9,27,81][j]?=uM q/\0<q/\q<1000:=by
    have:j=0\/j=1\/j=2\/j=3\/j=4:=by lia
    rcases this with rfl |rfl |rfl |rfl |rfl<;>exact⟨_,rfl,by decide,by decide⟩
   have e5:ixA (.nd .lst [.int 1,.int 3,.int 9,.int 27,.int 81]) (.int (0+(j:Int)))=.ok (.int q):=atI_5 (l:=[1,3,9,27,81]) hq;obtain⟨s,hs,es⟩:=sg3 hx hy hz (c / q);rw[S.runs,S.run,zkW_ (d:=.str [s]) (a:=.int (b-1+(0+(j:Int)))) (by exists hp,e5,ziO_ q0 (by lia),es) (zk1_ _) (by exists hp) (zki_ _) rfl (zlK_ (by lia) (by lia)),zeo_]
   refine⟨_,_,rfl,.inl ⟨.inl rfl,_,_,rfl,by rw[mS];exact hr,λt ht=>?_⟩⟩
   rcases List.mem_or_eq_of_mem_set ht with h |h
   ·exact h1 t h
   ·exact⟨s,hs,h⟩
  ·obtain⟨row,o,rfl,hr,h1⟩:=he
   obtain⟨t,et,tl,ts⟩:=zkC_ hr h1;obtain⟨m1,m2⟩:=zm1_ gF eD;have ea:addA (.str t) (.str (zfL (strI k) 4))=.ok (.str (t++zfL (strI k) 4)):=by show Mo.lim _ _=_;rw[Mo.lim_ok (by lia)]
   exists hp,xv_sm,zlN_,smf_j,smf_z,et,str_int m1,zf_4,ea
   exact⟨_,_,rfl,t++zfL (strI k) 4,rfl,⟨by rw[lC];lia,λi hi=>by rw[kY,mF (by lia),kz (by lia)];exact ts _ (mK _)⟩,by rw[<- tl];exact List.drop_left⟩
 have hf:zz_=fnOf gi 4 3 z4_:=rfl;obtain⟨o,e,h1,t,rfl,h2⟩:=key (pins [.int c,.int b,.fz (LS .str [[x],[y],[z]]),.int k]) (zbE_ rfl);exact⟨t,by rw[hf];exact zil_ (zlc_ rfl rfl h1),h2⟩
theorem zjt_ {i j:Int}(h0:0<=i)(h1:i<10000)(g0:0<=j)(g1:j<10000)(e:zfL (strI i) 4=zfL (strI j) 4):i=j:=by
 obtain⟨m,rfl⟩:=mO h0;obtain⟨n,rfl⟩:=mO g0;unfold zfL at e;rw[zd5_,zd5_]at e;have a:=zb8_ (w:=4) (m:=m) (by decide) (by lia)
 have b:=zb8_ (w:=4) (m:=n) (by decide) (by lia)
 have:=zgp_ 4 m n (by lia) (by lia) (a.symm.trans (e.trans b))
 rw[this]
theorem zhk_ (l:List Int):enumD [LS .int l]=.ok ((enumL l).map λq=>.nd .tup [.int q.1,.int q.2]):=by
 show Mq ((enumL (l.map D.int)).map λq=>D.nd .tup [.int q.1,q.2])=_
 unfold enumL;rw[kE,List.zip_map_right,lY,lY,lY];rfl
theorem zmB_ (l:List Int)(hl:l.length<64){b:Int}(hb:1<=b/\b<=32){x y z:Nat}(hx:x∈SG)(hy:y∈SG)(hz:z∈SG):∃g:Int×Int->List Nat,(∀q∈enumL l,zz_.val [.int q.2,.int b,.fz (LS .str [[x],[y],[z]]),.int q.1]=.ok (.str (g q)))/\LG ((enumL l).map g)/\((enumL l).map g).Nodup/\∀c∈(enumL l).map g,CD c:=by
 have key:∀q:Int×Int,∃t,q∈enumL l->(zz_.val [.int q.2,.int b,.fz (LS .str [[x],[y],[z]]),.int q.1]=.ok (.str t)/\CD t/\t.drop 36=zfL (strI q.1) 4):=λq=>by
  by_cases h:q∈enumL l
  ·obtain⟨k,hk,e,_⟩:=zhP_ h
   obtain⟨t,ht⟩:=zlP_ hb hx hy hz q.2 (k:=q.1) (by lia) (by lia)
   exact⟨t,λ_=>ht⟩
  ·exact⟨[],λz=>absurd z h⟩
 refine⟨λq=>(key q).choose,λq hq=>((key q).choose_spec hq).1,⟨by rw[kE,zJ_];exact hl,λc hc=>?_⟩,mG.mpr λi j hi hj aE e=>?_,λc hc=>?_⟩
 ·obtain⟨q,hq,rfl⟩:=mz.mp hc
  rw[((key q).choose_spec hq).2.1.1];decide
 ·rw[kE,zJ_]at hi hj
  have m:∀(i:Nat) (h:i<l.length),(enumL l)[i]'(by rw[zJ_];exact h)=((i:Int),l[i]):=λi h=>by
   have:=zbD_ l i;rw[kz (by rw[zJ_];exact h),kz h]at this
   exact lP this
  rw[oy,oy,m i hi,m j hj]at e;have a:=((key ((i:Int),l[i])).choose_spec (by rw[<- m i hi];exact mK _)).2.2
  have b:=((key ((j:Int),l[j])).choose_spec (by rw[<- m j hj];exact mK _)).2.2
  have:=zjt_ (i:=(i:Int)) (j:=(j:Int)) (by lia) (by lia) (by lia) (by lia) (a.symm.trans ((congrArg (List.drop 36) e).trans b))
  lia
 ·obtain⟨q,hq,rfl⟩:=mz.mp hc
  exact((key q).choose_spec hq).2.1
theorem ziM_ (a b:Cds):eqT 12 (LS .str a) (LS .str b)=uM (decide (a=b)):=eq_ls (n:=11) (zky_ 11) a b
theorem zoA_ (ns:List Int)(lo hi:Option Int):slA (scr ns) lo hi=.ok (LS .int (cutG ns lo hi)):=by
 show Mq (D.nd .lst ((cutG (ns.map D.int) lo hi).map .vw))=_
 unfold cutG LS;rw[kE,<- tD,<- rf,lY];rfl
theorem dsp_2 {a n:List Nat}(h:n≠a){x y:D}:dspD [.str a,x,.str n,y]=.ok (.nd (.dct [kN_t a,kN_t n]) [x,y]):=by
 unfold dspD;rw[show prD [.str a,x,.str n,y]=uM ([kN_t a,kN_t n],[x,y])from rfl]
 show Mo.grd ([kN_t a,kN_t n].Nodup/\[kN_t a,kN_t n].length<=15) (.ok (D.nd (.dct [kN_t a,kN_t n]) [x,y]))=_
 rw[Mo.grd_ok ⟨by simp[zhN_,pb h],by simp⟩]
theorem ned_2 {ks:List Key}{u v:Cds}:nedD (.fz (.nd (.dct ks) [LS .str u,LS .str v])) (.nd (.dct ks) [.fz (LS .str u),.fz (LS .str v)])=.ok (.bl uP):=by
 show Mo.grd (ks=ks) _=_
 rw[Mo.grd_ok rfl];have e1:∀u,eqT 12 (LS .str u) (.fz (LS .str u))=uM uO:=λu=>by rw[ziE_,ziM_];simp
 show(Mo.opt ((eqT 12 _ _).bind _)).bind _=_
 rw[e1];show(Mo.opt (((eqT 12 _ _).bind _).map _)).bind _=_
 rw[e1];rfl
theorem zfu_ {c:List Nat}{f:Fd}(h:c.length<=1000):slA (.str c) (uM (f.1-1)) (uM f.2)=.ok (.str (pt f c)):=zfe_ h
theorem zjo_ (c:Jx):∀(l:Cds),inV (tx c) (l.map tx)=decide (c∈l)
 |[]=>rfl
 |j::l=>by
  have:=zjo_ c l;unfold inV at this ⊢;rw[kX,oJ,this];have e:∀a b:List Nat,eqV (tx a) (tx b)=decide (a=b):=λa b=>by
   have:=zky_ 0 a b;exact lP this
  rw[e];by_cases h:c=j
  ·subst h;simp
  ·simp[h,pb h]
theorem zc7_:∀(l:Cds),flats (l.map D.str)=uM (l.map tx)
 |[]=>rfl
 |c::l=>by rw[kX];unfold flats;rw[zc7_ l];rfl
theorem ziG_ (neg:Bool)(c:Jx)(l:Cds):inA neg (.str c) (LS .str l)=.ok (.bl (if neg=uO then !decide (c∈l)else decide (c∈l))):=by
 show inSeq neg (.str c) (l.map .str)=_
 unfold inSeq;rw[zc7_];show Mq (D.bl (if neg=uO then !(inV (tx c) (l.map tx))else inV (tx c) (l.map tx)))=_
 rw[zjo_]
theorem zl5_ {l:Cds}(h:l.length<64):srtT [LS .str l]=.ok (LS .str (srtL ltS l)):=by
 show(match strsD (l.map D.str)with |some ls=>Mo.grd (ls.length<64) (Mq (D.nd .lst ((srtL ltS ls).map .str)))|none=>.no)=_
 rw[zeT_];show Mo.grd _ _=_
 rw[Mo.grd_ok h];rfl
theorem zkc_ {f:Fd}{D':Cds}{K':Cds}(hp:D'.Perm K')(hn:(D'.map (pt f)).Nodup)(nd:K'.Nodup):(D'.map (pt f)).flatMap (λt=>K'.filter λc=>decide (pt f c=t))=D':=by
 have one:∀x∈D',(K'.filter λc=>decide (pt f c=pt f x))=[x]:=λx hx=>by
  have dE:=hp.mem_iff.mp hx;have h1:∀c∈K'.filter (λc=>decide (pt f c=pt f x)),c=x:=λc hc=>by
   obtain⟨h2,h3⟩:=m5.mp hc;have h3:=of_decide_eq_true h3;obtain⟨i,hi,ei⟩:=oS.mp (hp.mem_iff.mpr h2);obtain⟨j,hj,ej⟩:=oS.mp hx;have aE:i=j:=by
    have hP:=mG.mp hn;rcases rQ i j with z |z |z
    ·exact absurd (by rw[oy,oy,ei,ej,h3]) (hP i j (by rw[kE];exact hi) (by rw[kE];exact hj) z)
    ·exact z
    ·exact absurd (by rw[oy,oy,ei,ej,h3]) (hP j i (by rw[kE];exact hj) (by rw[kE];exact hi) z)
   subst aE;rw[<- ei,ej]
  have h4:(K'.filter λc=>decide (pt f c=pt f x)).Nodup:=nd.sublist o9
  have h5:x∈K'.filter λc=>decide (pt f c=pt f x):=m5.mpr ⟨dE,by simp⟩
  generalize (K'.filter λc=>decide (pt f c=pt f x))=Z at h1 h4 h5
  cases Z with
  |nil=>cases h5
  |cons y Z=>
   have:=h1 y lj;subst this;cases Z with
   |nil=>rfl
   |cons z Z=>
    have:=h1 z (ll _ lj);subst this;exact absurd lj (nW.mp h4).1
 clear hp hn;induction D' with
 |nil=>rfl
 |cons x D' ih=>
  rw[kX,qb,one x lj,ih λy hy=>one y (ll _ hy)];rfl
section
variable {f:Fd}{l:Cds}
theorem znR_ (hf:OkFd f)(nd:l.Nodup)(hc:∀c∈l,CD c):(((sf f l).filter (fst' f l)).map (pt f)).Pairwise λa b=>a<b:=by
 rw[qa];refine((zlh_ hf nd hc).filter _).imp_of_mem λ{a b} ha hb h=>?_
 rcases h.2 with z |z
 ·exact z
 ·by_cases e:pt f a=pt f b
  ·have:=(m5.mp hb).2
   unfold fst' at this;refine absurd (mz.mpr ⟨a,(zjP_ nd).mpr ⟨(zw_ _ _).mem_iff.mp (m5.mp ha).1,z⟩,e⟩) (of_decide_eq_true this)
  ·by_cases y:pt f a<pt f b
   ·exact y
   ·exact absurd (qk h.1 y) (by first |exact e |exact λw=>e w.symm)
theorem zgI_ (hf:OkFd f)(nd:l.Nodup)(hc:∀c∈l,CD c):srtL ltS ((l.filter (fst' f l)).map (pt f))=((sf f l).filter (fst' f l)).map (pt f):=by
 refine(zbf_ zmC_ (((zw_ _ _).filter _).map _) ?_).symm;exact(znR_ hf nd hc).imp λ{a b} h=>decide_eq_false (tE h)
end
theorem zgF_ {cs:Cds}{f:Fd}(hf:OkFd f)(hl:LG cs)(nd:cs.Nodup)(hc:∀c∈cs,CD c):zao_.val [.fz (LS .str cs),F2 f]=.ok (LS .str ((sf f cs).filter (fst' f cs))):=by
 have hn:=hl.1;have gJ:=oM (fst' f cs) cs;have hK:∀c∈cs.filter (fst' f cs),c.length<=1000:=λc h=>hl.2 c (m5.mp h).1
 refine zam_ rfl rfl λpn hp=>?_
 unfold zan_;rw[zby_ (d:=LS .str (cs.map (pt f))) (by rw[zeV_,xcompN (f:=pt f) (o:=.str) (T:=λc=>[.str c]) cs rfl (by exists hp) (zal_ _ _) (λc hc=>by exists zfg_,F2_0,F2_1,zfu_ (f:=f) (hl.2 c hc)) (by lia)];exact zF_ _ zah_) (hp _)]
 rw[zby_ (d:=LS .str (cs.filter (fst' f cs))) ?A (hp _)]
 case A=>
  rw[zeV_,xcomp (p:=λk=>!decide (pt f (cs.getD k [])∈(cs.take k).map (pt f))) (f:=λk=>cs.getD k []) (o:=.str) (T:=λk:Nat=>[.int (0+(k:Int))]) (lK cs.length) rfl (by exists rg1 (j:=(cs.length:Int)) (by lia) (by lia)) (zal_ _ _) (λk hk=>?_) (λk hk _=>?_) (by rw[mf];lia),zjQ_ (p:=fst' f cs) ?_]
  ·exact zF_ _ zah_
  ·intro k hk
   unfold fst';rw[zoH_ nd hk,decide_not]
  ·have hk:=l4.mp hk
   have e1:=zon_ (cs:=cs.map (pt f)) (i:=0+(k:Int)) (c:=pt f (cs.getD k [])) (by lia) (by rw[show(0+(k:Int)).toNat=k by lia,kZ,kY,kz hk];rfl)
   have e2:cutG (cs.map (pt f)) uN (uM (0+(k:Int)))=(cs.take k).map (pt f):=by rw[ziZ_ (by lia),show(0+(k:Int)).toNat=k by lia,rf]
   exists e1,e2,ziG_
  ·have hk:=l4.mp hk
   have e1:=zon_ (cs:=cs) (i:=0+(k:Int)) (c:=cs.getD k []) (by lia) (by rw[show(0+(k:Int)).toNat=k by lia,kY,kz hk];rfl)
   exists e1
 rw[zby_ (d:=LS .str []) (by rw[zeV_];exact zF_ (d:=LS .str []) _ zah_) (hp _)]
 show En (S.runs gi pn _ [uM (.fz (LS .str cs)),uM (F2 f),uM (LS .str (cs.map (pt f))),uM (LS .str (cs.filter (fst' f cs))),uM (LS .str []),uN]) _
 have eX:X.ev gi [uM (.fz (LS .str cs)),uM (F2 f),uM (LS .str (cs.map (pt f))),uM (LS .str (cs.filter (fst' f cs))),uM (LS .str []),uN] (.comp ["_law_card_here"] [("_law_field_here",1)] .any [(.v 3)] ⟨uP,[0]⟩ uN (.sl (.v 0) (uM (.bin .sub (.i (.v 1) 0) (.n 1))) (uM (.i (.v 1) 1))))=.ok (LS .str ((cs.filter (fst' f cs)).map (pt f))):=
  xcompN (f:=pt f) (o:=.str) (T:=λc=>[.str c]) (cs.filter (fst' f cs)) rfl (by exists hp) (zal_ _ _) (λc hc=>by exists zfg_,F2_0,F2_1,zfu_ (f:=f) (hK c hc)) (by lia)
 have eS:=zl5_ (l:=(cs.filter (fst' f cs)).map (pt f)) (by rw[kE];lia)
 rw[zgI_ hf nd hc]at eS;have pm:((sf f cs).filter (fst' f cs)).Perm (cs.filter (fst' f cs)):=(zw_ _ _).filter _;have pl:=pm.length_eq;have fin:=zkc_ pm ((znR_ hf nd hc).imp λ{a b} h e=>by rw[e]at h;exact pX _ h) (nd.sublist o9)
 generalize kq:cs.filter (fst' f cs)=K' at *
 generalize cQ:(sf f cs).filter (fst' f cs)=D' at *
 refine zcj_ (l:=D'.map (pt f)) (enc:=λt=>[.str t]) (d:=LS .str (D'.map (pt f))) (λd e=>∃o,e=[uM (.fz (LS .str cs)),uM (F2 f),uM (LS .str (cs.map (pt f))),uM (LS .str K'),uM (LS .str (d.flatMap λt=>K'.filter λc=>decide (pt f c=t))),o]/\(d.flatMap λt=>K'.filter λc=>decide (pt f c=t)).length<=64*d.length) (by exists eX,eS) (by exists hp) (zal_ _ _) ⟨uN,rfl,me _⟩ (λd t r e hd he=>?_) λe he=>?_
 ·obtain⟨o,rfl,hlen⟩:=he
  have iF:d.length<=64:=by have:=congrArg qO hd;simp at this;lia
  have hZ:=oM (λc=>decide (pt f c=t)) K'
  refine⟨[uM (.fz (LS .str cs)),uM (F2 f),uM (LS .str (cs.map (pt f))),uM (LS .str K'),uM (LS .str (d.flatMap λt=>K'.filter λc=>decide (pt f c=t))),uM (.str t)],(by exists hp),?_⟩
  generalize hY:(d.flatMap λt=>K'.filter λc=>decide (pt f c=t))=Y at hlen
  have eY:X.ev gi [uM (.fz (LS .str cs)),uM (F2 f),uM (LS .str (cs.map (pt f))),uM (LS .str K'),uM (LS .str Y),uM (.str t)] (.comp ["_law_card_here"] [("_law_part",5),("_law_field_here",1)] .any [(.v 3)] ⟨uP,[0]⟩ (uM (.bin .eq (.sl (.v 0) (uM (.bin .sub (.i (.v 2) 0) (.n 1))) (uM (.i (.v 2) 1))) (.v 1))) (.v 0))=.ok (LS .str (K'.filter λc=>decide (pt f c=t))):=by
   have:=xcomp (G:=gi) (env:=[uM (.fz (LS .str cs)),uM (F2 f),uM (LS .str (cs.map (pt f))),uM (LS .str K'),uM (LS .str Y),uM (.str t)]) (lv:=["_law_card_here"]) (fr:=[("_law_part",5),("_law_field_here",1)]) (ik:=.any) (src:=[(.v 3)]) (tg:=⟨uP,[0]⟩) (c:=uM (.bin .eq (.sl (.v 0) (uM (.bin .sub (.i (.v 2) 0) (.n 1))) (uM (.i (.v 2) 1))) (.v 1))) (e:=.v 0) (p:=λc=>decide (pt f c=t)) (f:=λc:List Nat=>c) (o:=.str) (T:=λc=>[.str c]) (items:=K'.map .str) K' rfl (by exists hp) (zal_ _ _) (λc hc=>?_) (λc hc _=>rfl) (by lia)
   ·rw[qF]at this;exact this
   ·have e2:=zch_ (neg:=uP) (pt f c) t
    exists zfg_,F2_0,F2_1,zfu_ (f:=f) (hK c hc),e2
  rw[zby_ (d:=LS .str (Y++K'.filter λc=>decide (pt f c=t))) (by exists eY,zhX_ (g:=.str) (a:=Y) (b:=K'.filter λc=>decide (pt f c=t)) (by lia)) (hp _)]
  refine⟨_,_,rfl,.inl ⟨.inl rfl,uM (.str t),?_,?_⟩⟩
  ·rw[ou,oH,hY];rfl
  ·rw[ou,oH,hY,lC,lC,nQ];lia
 ·obtain⟨o,rfl,hlen⟩:=he
  rw[fin]
  exists hp
  fail "q"
theorem dsp_1 {a:List Nat}{x:D}:dspD [.str a,x]=.ok (.nd (.dct [kN_t a]) [x]):=by
 unfold dspD;rw[show prD [.str a,x]=uM ([kN_t a],[x])from rfl]
 show Mo.grd ([kN_t a].Nodup/\[kN_t a].length<=15) (.ok (D.nd (.dct [kN_t a]) [x]))=_
 rw[Mo.grd_ok ⟨by simp,by simp⟩]
theorem zkx_ {α:Type}(l:List α):cutG l uN (uM (-1))=l.take (l.length-1):=by
 unfold cutG HT.sIx;simp only[];rw[if_pos (by lia)]
 simp only[qR,tQ];congr 1;lia
theorem zjD_ (a b:Cds):zipD [LS .str a,LS .str b]=.ok ((a.zip b).map λq=>.nd .tup [.str q.1,.str q.2]):=by
 show Mq (((a.map D.str).zip (b.map D.str)).map λq=>D.nd .tup [q.1,q.2])=_
 rw[List.zip_map,lY];rfl
theorem run0 {pn:Nat->Bool}(hp:∀i,pn i=uP){s0 s1 s2:Option D}{n1 n2:List Nat}(h1:OkN n1)(bo:n2≠n1){ks:List Fd}(hk:ks.length<=6)(ho:∀f∈ks,OkFd f){cs ds:Cds}(b8:LG cs)(cO:LG ds)(nd:ds.Nodup)(au:∀c∈ds,CD c){md:Md}(hm:OkM n1 md)(fH:∀w k f g,md≠.ma w k f g)(iB:∀m,zx_.val [.fz (AO (AQ n1 md ks)),.fz (LS .str cs),.fz (TD m)]=.ok (.fz (LS .str ds))){Q:Fl->VI.Env->Prop}(hq:∀e,Q (.rt (.bl uO)) e):
  En (S.runs gi pn (znV_.drop 8) [s0,s1,s2,uM (LS .str [n1,n2]),uM (LS F2 ks),uM (LS .str cs),uM (MD md),uM (LS .str ds),uN,uN,uN,uN,uN,uN]) Q:=by
 have l1:ixA (LS .str [n1,n2]) (.int 0)=.ok (.str n1):=rfl;have l2:ixA (LS .str [n1,n2]) (.int 1)=.ok (.str n2):=rfl;have iF:=cO.1;have c1:=chosen0 (m:=[(n1,cs)]) hm fH hk ho (by simp) (iB _) cO au
 have c2:=chosen0 (m:=[(n2,[]),(n1,cs)]) hm fH hk ho (by simp[bo]) (iB _) cO au
 have rel:=zer_ (rkc (kc ks)) nd;have pm:=zw_ (rkc (kc ks)) ds;have jX:dspD [.str n1,LS .str cs]=.ok (TD [(n1,cs)]):=dsp_1;have jW:dspD [.str n2,.nd .lst [],.str n1,LS .str cs]=.ok (TD [(n2,[]),(n1,cs)]):=dsp_2 (pb bo);have nA:(AO (AQ n1 md ks)).new=uO:=by unfold AO aFs AQ;simp only[nw_nd,nw_c,nw_0,zk1_,zki_,zah_,zq5_,tB]
 have mk:∀env,X.evs gi env [(.i (.v 3) 0),(.lst []),(.v 6),(.v 4)]=.ok [.str n1,.nd .lst [],MD md,.fz (LS F2 ks)]->X.ev gi env (.mkd zi_ "Asking" [(.i (.v 3) 0),(.lst []),(.v 6),(.v 4)] [.non,(.int 0),.non,(.int 6),.non])=.ok (AO (AQ n1 md ks)):=λenv he=>by
  rw[zqc_,if_pos (show(flats [.non,.int 0,.non,.int 6,.non]).isSome=uO from rfl),he,zeq_]
  exact make9 h1 hm hk ho rfl
 generalize srtG (rkc (kc ks)) ds=rs at *
 have jo:=pm.length_eq;have jy:lenA [LS .str rs]=.ok (.int (ds.length:Nat)):=by rw[zlB_,jo]
 have i1:isaD "list" (LS .str rs)=.ok (.bl uO):=rfl;have i2:∀c,isaD "str" (.str c)=.ok (.bl uO):=λ_=>rfl
 have e3:∀n:Int,eqD uO (.int n) (.int n)=.ok (.bl uP):=λn=>by rw[za4_];simp
 unfold znV_;show En (S.runs gi pn (S.asg 8 _::_) _) _
 rw[zby_ (d:=AO (AQ n1 md ks)) (by rw[zeV_,mk _ (by exists l1,zop_)];exact zF_ _ nA) (hp _)]
 rw[zby_ (d:=LS .str rs) (by exists AO_vw,zY_,zpX_,l1,zci_,jX,TD_vw,zfk_,c1) (hp _)]
 rw[zkV_ (by exists i1,jy,e3;rfl),mQ]
 show En (S.runs gi pn (S.for_ _ _ _ _::_) [s0,s1,s2,uM (LS .str [n1,n2]),uM (LS F2 ks),uM (LS .str cs),uM (MD md),uM (LS .str ds),uM (AO (AQ n1 md ks)),uM (LS .str rs),uN,uN,uN,uN]) _
 refine ziB_ (l:=rs) (enc:=λc=>[.str c]) (d:=.fz (LS .str rs)) (e1:=[s0,s1,s2,uM (LS .str [n1,n2]),uM (LS F2 ks),uM (LS .str cs),uM (MD md),uM (LS .str ds),uM (AO (AQ n1 md ks)),uM (.fz (LS .str rs)),uN,uN,uN,uN]) (λd e=>∃o,e=[s0,s1,s2,uM (LS .str [n1,n2]),uM (LS F2 ks),uM (LS .str cs),uM (MD md),uM (LS .str ds),uM (AO (AQ n1 md ks)),uM (.fz (LS .str rs)),o,uN,uN,uN]) (by exists hp) (by exists hp) (zal_ _ _) ⟨uN,rfl⟩ (λd c r e hd he=>?_) λe he=>?_
 ·obtain⟨o,rfl⟩:=he
  refine⟨[s0,s1,s2,uM (LS .str [n1,n2]),uM (LS F2 ks),uM (LS .str cs),uM (MD md),uM (LS .str ds),uM (AO (AQ n1 md ks)),uM (.fz (LS .str rs)),uM (.str c),uN,uN,uN],(by exists hp),?_⟩
  exists hp,i2,ziG_,decide_eq_true (pm.mem_iff.mp (show c∈rs by rw[hd];simp))
  exact⟨_,_,rfl,.inl ⟨.inl rfl,_,rfl⟩⟩
 obtain⟨o,rfl⟩:=he;have ez:=zjD_ (rs.take (rs.length-1)) (rs.drop 1);have k1:=zkx_ rs;have k2:cutG rs (uM 1) uN=rs.drop 1:=zeO_ (by lia)
 refine ziW_ (l:=(rs.take (rs.length-1)).zip (rs.drop 1)) (enc:=λq=>[.str q.1,.str q.2]) (λd e=>∃o1 o2 o3,e=[s0,s1,s2,uM (LS .str [n1,n2]),uM (LS F2 ks),uM (LS .str cs),uM (MD md),uM (LS .str ds),uM (AO (AQ n1 md ks)),uM (.fz (LS .str rs)),o,o1,o2,o3]) (d1:=LS .str (rs.take (rs.length-1))) (d2:=LS .str (rs.drop 1)) (by exists zpP_,k1) (by exists zpP_,k2) ez (zhJ_ _ _ _) ⟨_,_,_,rfl⟩ (λd q r e hd he=>?_) λe he=>?_
 ·obtain⟨o1,o2,o3,rfl⟩:=he
  obtain⟨a,b⟩:=q;have hq:(a,b)∈(rs.take (rs.length-1)).zip (rs.drop 1):=by rw[hd];simp
  obtain⟨i,hi,e⟩:=oS.mp hq;rw[mB,mC,mJ]at hi;rw[List.getElem_zip,List.getElem_take,List.getElem_drop]at e;have ea:rs[i]'(by lia)=a:=congrArg Prod.fst e
  have eb:rs[1+i]'(by lia)=b:=congrArg Prod.snd e
  have ha:a∈ds:=pm.mem_iff.mp (ea ▸ mK _);have hb:b∈ds:=pm.mem_iff.mp (eb ▸ mK _);have hR:=mG.mp rel i (1+i) (by lia) (by lia) (by lia)
  rw[ea,eb]at hR;obtain⟨w,ew,w1,w2⟩:=zhq_ (au a ha) (au b hb) ho;have hw:¬w<0:=λz=>by rw[w1 z]at hR;cases hR.1
  have li:∀c∈ds,liD ds (.str c)=.ok (.int (ds.idxOf c:Nat)):=λc h=>by
   show Mo.grd _ _=_
   rw[Mo.grd_ok h]
  refine⟨[s0,s1,s2,uM (LS .str [n1,n2]),uM (LS F2 ks),uM (LS .str cs),uM (MD md),uM (LS .str ds),uM (AO (AQ n1 md ks)),uM (.fz (LS .str rs)),o,uM (.str a),uM (.str b),o3],(by exists hp),?_⟩
  rw[zby_ (d:=.int w) (by exists ew) (hp _)]
  have g2:=za4_ (neg:=uP) w 0;by_cases z:w=0
  ·rw[decide_eq_true z]at g2
   have h2:ds.idxOf a<ds.idxOf b:=by
    rcases hR.2 with y |y
    ·rw[w2 z,zjc_]at y;cases y
    ·exact y
   exists hp,decide_eq_false hw,g2,xv_li,zjh_,li a ha,li b hb,decide_eq_false (show¬((ds.idxOf b:Nat):Int)<=(ds.idxOf a:Nat) by lia)
   exact⟨_,_,rfl,.inl ⟨.inl rfl,_,_,_,rfl⟩⟩
  ·rw[decide_eq_false z]at g2
   exists hp,decide_eq_false hw,g2
   exact⟨_,_,rfl,.inl ⟨.inl rfl,_,_,_,rfl⟩⟩
 ·obtain⟨o1,o2,o3,rfl⟩:=he
  have eq:eqD uP (LS .str rs) (LS .str rs)=.ok (.bl uO):=by rw[ziw_ (ziM_ rs rs)];simp
  exists AO_vw,zY_,zq7_,l1,l2,zci_,jW,TD_vw,zfk_,c2,eq
  exact⟨_,_,rfl,hq _⟩
theorem zkH_:∀ns:List Int,ns.length<=63->BitsOk ns->f_law.val [scr ns]=.ok (.bl uO):=by
 intro ns hl _;have b0:=mn (cel ns 0) (show(32:Int)≠0 by lia)
 have b1:=l6 (cel ns 0) (show(0:Int)<32 by lia)
 obtain⟨x,y,z,es,hx,hy,hz⟩:=zjV_ (cel ns 0 / 32);obtain⟨n1,n2,en,h1,h2,bo⟩:=zkI_ (cel ns 1)
 generalize gS:1+cel ns 0 % 32=b
 have hb:1<=b/\b<=32:=by lia
 have fo:∀c,∃f:Fd,zB_.val [.int c,.int b]=.ok (F2 f)/\OkFd f:=λc=>by
  obtain⟨f,ef,g1,g2,g3,g4⟩:=zjA_ c b;exact⟨f,ef,by lia,by lia,by lia⟩
 have k0:=mn (cel ns 2) (show(4:Int)≠0 by lia)
 have k1:=l6 (cel ns 2) (show(0:Int)<4 by lia)
 have hlen:=zjR_ ns (uM 7) (uM 67);obtain⟨g,eg,hg1,nd,au⟩:=zmB_ (cutG ns (uM 7) (uM 67)) (by lia) hb hx hy hz
 have c0:=zc5_ ns (k:=0) (by lia) (by lia)
 have c1:=zc5_ ns (k:=1) (by lia) (by lia)
 have c2:=zc5_ ns (k:=2) (by lia) (by lia)
 have c6:=zc5_ ns (k:=6) (by lia) (by lia)
 have ek:X.ev gi [uM (scr ns),uM (.int b),uM (LS .str [[x],[y],[z]]),uM (LS .str [n1,n2]),uN,uN,uN,uN,uN,uN,uN,uN,uN,uN] (.comp ["_law_k"] [("_law_base",1),("_law_script",0)] .r1 [(.bin .mod (zs_ [(.v 0),(.n 2)]) (.n 4))] ⟨uP,[0]⟩ uN (.call zB_ "_law_field" [(zs_ [(.v 2),(.bin .add (.n 3) (.v 0))]),(.v 1)]))=.ok (LS F2 ((lK (cel ns 2 % 4).toNat).map λk:Nat=>(fo (cel ns (3+(0+(k:Int))))).choose)):=by
  rw[xcompN (f:=λk:Nat=>(fo (cel ns (3+(0+(k:Int))))).choose) (o:=F2) (T:=λk:Nat=>[.int (0+(k:Int))]) (lK (cel ns 2 % 4).toNat) rfl (by exists zca_,c2,rg1 k0 (by lia)) (zal_ _ _) (λk hk=>?_) (by rw[mf];lia)]
  have hk:=l4.mp hk;have ec:=zc5_ ns (k:=3+(0+(k:Int))) (by lia) (by lia)
  have ef:=(fo (cel ns (3+(0+(k:Int))))).choose_spec.1
  generalize (fo (cel ns (3+(0+(k:Int))))).choose=F at ef ⊢
  exists zca_,ec,ef
 have cF:((lK (cel ns 2 % 4).toNat).map λk:Nat=>(fo (cel ns (3+(0+(k:Int))))).choose).length<=6:=by rw[kE,mf];lia
 have gE:∀f∈(lK (cel ns 2 % 4).toNat).map (λk:Nat=>(fo (cel ns (3+(0+(k:Int))))).choose),OkFd f:=λf hf=>by
  obtain⟨k,_,rfl⟩:=mz.mp hf;exact(fo _).choose_spec.2
 generalize (lK (cel ns 2 % 4).toNat).map (λk:Nat=>(fo (cel ns (3+(0+(k:Int))))).choose)=ks at ek cF gE
 have ex:X.ev gi [uM (scr ns),uM (.int b),uM (LS .str [[x],[y],[z]]),uM (LS .str [n1,n2]),uM (LS F2 ks),uN,uN,uN,uN,uN,uN,uN,uN,uN] (.comp ["_law_k", "_law_cell_here"] [("_law_base",1),("_law_signs_here",2)] .en [(.sl (.v 0) (uM (.n 7)) (uM (.n 67)))] ⟨uO,[0,1]⟩ uN (.call zz_ "_law_card" [(.v 1),(.v 2),(.v 3),(.v 0)]))=.ok (LS .str ((enumL (cutG ns (uM 7) (uM 67))).map g)):=by
  refine xcompN (f:=g) (o:=.str) (T:=λq=>[.int q.1,.int q.2]) (items:=(enumL (cutG ns (uM 7) (uM 67))).map λq=>.nd .tup [.int q.1,.int q.2]) (enumL (cutG ns (uM 7) (uM 67))) rfl (by exists zca_,zoA_,zhk_) (zhJ_ _ _ _) (λq hq=>?_) (by rw[zJ_];lia)
  exists eg q hq
 generalize (enumL (cutG ns (uM 7) (uM 67))).map g=cs at ex hg1 nd au
 refine zam_ rfl rfl λpn hp=>?_
 unfold znV_;rw[zby_ (d:=.int b) (by exists zca_,c0,gS) (hp _)]
 rw[zby_ (d:=LS .str [[x],[y],[z]]) (by exists zca_,c0,es) (hp _)]
 rw[zby_ (d:=LS .str [n1,n2]) (by exists zca_,c1,en) (hp _)]
 rw[zby_ (d:=LS F2 ks) (by rw[zeV_];show keep (X.ev gi [uM (scr ns),uM (.int b),uM (LS .str [[x],[y],[z]]),uM (LS .str [n1,n2]),uN,uN,uN,uN,uN,uN,uN,uN,uN,uN] _) _ _=_;rw[ek];exact zF_ _ zah_) (hp _)]
 rw[zby_ (d:=LS .str cs) (by rw[zeV_];show keep (X.ev gi [uM (scr ns),uM (.int b),uM (LS .str [[x],[y],[z]]),uM (LS .str [n1,n2]),uM (LS F2 ks),uN,uN,uN,uN,uN,uN,uN,uN,uN] _) _ _=_;rw[ex];exact zF_ _ zah_) (hp _)]
 rw[zby_ (d:=.non) (by exists hp) (hp _)]
 rw[zby_ (d:=LS .str cs) (by exists zci_) (hp _)]
 by_cases hw:cel ns 6 % 2=1
 ·rw[zl9_ (by exists zca_,c6,za4_,decide_eq_true hw),l0,l0,mQ]
  obtain⟨f,ef,hF⟩:=fo (cel ns 6 / 2);have eM:D.nd .tup [.str [102,105,114,115,116],F2 f]=MD (.fi f):=rfl;have jY:ixA (MD (.fi f)) (.int 1)=.ok (F2 f):=rfl;rw[zby_ (d:=MD (.fi f)) (by exists zca_,c6,ef,zfg_,eM,zq5_) (hp _)]
  rw[zby_ (d:=LS .str ((sf f cs).filter (fst' f cs))) (by exists zop_,jY,zfg_,zgF_ hF hg1 nd au) (hp _)]
  have pm:((sf f cs).filter (fst' f cs)).Perm (cs.filter (fst' f cs)):=(zw_ _ _).filter _;refine run0 (md:=.fi f) hp h1 bo cF gE hg1 ⟨rF (oM _ _) (zqB_ hg1).1,λc hc=>(zqB_ hg1).2 c (m5.mp hc).1⟩ (pm.nodup_iff.mpr (nd.sublist o9)) (λc hc=>au c (m5.mp (pm.mem_iff.mp hc)).1) hF (λ_ _ _ _ z=>by cases z) (λm=>zmj_ hF hg1 nd au) λ_=>.inl rfl
 ·rw[zkV_ (by exists zca_,c6,za4_,decide_eq_false hw),mQ]
  exact run0 (md:=.no) hp h1 bo cF gE hg1 hg1 nd au trivial (λ_ _ _ _ z=>by cases z) (λm=>midn0) λ_=>.inl rfl
def top (i:Nat):l8:=PySem.Challenge.pw_cardshop_k50_put_in_order.main.body.getD i (.Pass ⟨0,0,0,0⟩)
abbrev ze5_:l8:=top 85
abbrev zek_:l8:=top 87
abbrev zen_:l8:=top 88
abbrev zem_:l8:=top 86
abbrev ze3_:l8:=top 89
abbrev zdo_:l8:=top 90
abbrev zfK_:l8:=top 46
abbrev zhW_:l8:=top 53
abbrev zb9_:l8:=top 55
abbrev zgl_:l8:=top 47
abbrev zbj_:l8:=top 56
abbrev zg5_:l8:=top 48
abbrev zhH_:l8:=top 51
abbrev zdA_:l8:=top 57
abbrev zcd_:l8:=top 49
abbrev zei_:l8:=top 58
abbrev zfZ_:l8:=top 18
abbrev zfE_:l8:=top 25
abbrev zcY_:l8:=top 33
abbrev zc3_:l8:=top 50
abbrev zdt_:l8:=top 59
abbrev zga_:l8:=top 26
abbrev zaJ_:l8:=top 60
abbrev zee_:l8:=top 23
abbrev zgi_:l8:=top 52
abbrev zbK_:l8:=top 61
abbrev zc4_:l8:=top 62
abbrev zcu_:l8:=top 54
abbrev zaf_:l8:=inClass (top 45) 0
abbrev zdG_:l8:=top 78
abbrev zc9_:l8:=top 79
abbrev zhF_:l8:=top 12
abbrev zhG_:l8:=top 14
abbrev zhL_:l8:=top 15
abbrev zgq_:l8:=top 65
abbrev z9_:l8:=top 68
abbrev zd7_:l8:=top 27
abbrev zdx_:l8:=top 66
abbrev zjJ_:l8:=top 67
abbrev zdF_:l8:=top 70
abbrev zip_:l8:=top 29
abbrev zdp_:l8:=top 74
abbrev zdI_:l8:=top 80
abbrev zde_:l8:=top 81
abbrev zdB_:l8:=top 82
abbrev zdw_:l8:=top 83
abbrev zdu_:l8:=top 91
abbrev s_law:l8:=top 92
structure Ek (K:Fgg):Prop where
 u0:Fg K "_law_cell" ze5_
 u1:Fg K "_law_signs" zek_
 u2:Fg K "_law_names" zen_
 u3:Fg K "_law_field" zem_
 u4:Fg K "_law_card" ze3_
 u5:Fg K "_law_firsts" zdo_
 u6:Fg K "own_list" zfK_
 u7:Fg K "ask_for" zhW_
 u8:Fg K "check_lengths" zb9_
 u9:Fg K "mates_by" zgl_
 u10:Fg K "check_middle_word" zbj_
 u11:Fg K "names_of" zg5_
 u12:Fg K "is_name" zhH_
 u13:Fg K "check_names" zdA_
 u14:Fg K "middle_fields" zcd_
 u15:Fg K "fields_due" zei_
 u16:Fg K "is_whole" zfZ_
 u17:Fg K "is_field" zfE_
 u18:Fg K "picked_signs" zcY_
 u19:Fg K "pick_passes" zc3_
 u20:Fg K "check_picks" zdt_
 u21:Fg K "width_of" zga_
 u22:Fg K "check_middle_widths" zaJ_
 u23:Fg K "make_board" zee_
 u24:Fg K "is_board" zgi_
 u25:Fg K "check_counting" zbK_
 u26:Fg K "check_works" zc4_
 u27:Fg K "check_asking" zcu_
 u28:Fg K "check_trays" zdG_
 u29:Fg K "picked_deck" zc9_
 u30:Fg K "is_sign" zhF_
 u31:Fg K "rank_of" zhG_
 u32:Fg K "sign_at" zhL_
 u33:Fg K "ranks_at" zgq_
 u34:Fg K "put_in_order" z9_
 u35:Fg K "columns_of" zd7_
 u36:Fg K "comes_ahead" zdx_
 u37:Fg K "out_at" zjJ_
 u38:Fg K "check_order" zdF_
 u39:Fg K "part_of" zip_
 u40:Fg K "first_cards" zdp_
 u41:Fg K "middle_deck" zdI_
 u42:Fg K "key_columns" zde_
 u43:Fg K "worked_card" zdB_
 u44:Fg K "chosen_deck" zdw_
 u45:Fg K "_law_unlike" zdu_
 u46:Fg K "law" s_law
 u47:FmD K "Asking" "__init__" "Asking.__init__" zaf_ [.non,(.int 0),.non,(.int 6),.non]
 u48:Fc K "Asking"
 u49:Fa K "Asking" "board"
 u50:Fa K "Asking" "breaks"
 u51:Fa K "Asking" "deck"
 u52:Fa K "Asking" "figures"
 u53:Fa K "Asking" "middle"
 u54:Fa K "Asking" "order"
 u55:Fa K "Asking" "picks"
 u56:Fa K "Asking" "sums"
 u57:Fa K "Asking" "works"
 u58:L2.Fl K (lamPos z9_)
 u59:Fb K "all"
 u60:Fb K "bool"
 u61:Fb K "enumerate"
 u62:Fb K "int"
 u63:Fb K "isinstance"
 u64:Fb K "len"
 u65:Fb K "list"
 u66:Fb K "min"
 u67:Fb K "range"
 u68:Fb K "sorted"
 u69:Fb K "str"
 u70:Fb K "zip"
 u71:Fv K "BODY_WIDTH" (.int 36)
 u72:Fv K "LONGEST_NAME" (.int 8)
 u73:Fv K "MOST_BREAKS" (.int 3)
 u74:Fv K "MOST_FIGURES" (.int 12)
 u75:Fv K "MOST_KEYS" (.int 6)
 u76:Fv K "MOST_PICKS" (.int 8)
 u77:Fv K "MOST_SUMS" (.int 4)
 u78:Fv K "MOST_WORKS" (.int 4)
 u79:Fv K "SIGNS" (tx Qm0)
 u80:Fv K "SMALL_LETTERS" (tx Qm1)
 u81:Fk K "MATING_WORDS"
 u82:FtT K "MATING_WORDS" [[109,97,116,101,115],[119,105,116,104,111,117,116]]
structure En (K:Fgg)(mg:Str->Option aU):Prop extends Ek K where
 m:Mgo K mg
def ft:Ft:={bs:=["all", "bool", "enumerate", "int", "isinstance", "len", "list", "min", "range", "sorted", "str", "zip"],at_:=["board", "breaks", "deck", "figures", "middle", "order", "picks", "sums", "works"],gc:=[("BODY_WIDTH",(.int 36)),("LONGEST_NAME",(.int 8)),("MOST_BREAKS",(.int 3)),("MOST_FIGURES",(.int 12)),("MOST_KEYS",(.int 6)),("MOST_PICKS",(.int 8)),("MOST_SUMS",(.int 4)),("MOST_WORKS",(.int 4)),("SIGNS",(tx Qm0)),("SMALL_LETTERS",(tx Qm1))]}
theorem gok {K:Fgg}(e:Ek K):gi.Ok K:=⟨by decide,(zf_ (ftt_u e.u82) zdQ_)⟩
theorem fo {K:Fgg}{mg:Str->Option aU}(e:En K mg):ft.Ok gi K mg:=⟨(zf_ (e.m.gb e.u59) (zf_ (e.m.gb e.u60) (zf_ (e.m.gb e.u61) (zf_ (e.m.gb e.u62) (zf_ (e.m.gb e.u63) (zf_ (e.m.gb e.u64) (zf_ (e.m.gb e.u65) (zf_ (e.m.gb e.u66) (zf_ (e.m.gb e.u67) (zf_ (e.m.gb e.u68) (zf_ (e.m.gb e.u69) (zf_ (e.m.gb e.u70) zdQ_)))))))))))),(zf_ e.u48.cls zdQ_),(zf_ (zf_ e.u49.no (zf_ e.u50.no (zf_ e.u51.no (zf_ e.u52.no (zf_ e.u53.no (zf_ e.u54.no (zf_ e.u55.no (zf_ e.u56.no (zf_ e.u57.no zdQ_))))))))) zdQ_),(zf_ (e.m.gv e.u71) (zf_ (e.m.gv e.u72) (zf_ (e.m.gv e.u73) (zf_ (e.m.gv e.u74) (zf_ (e.m.gv e.u75) (zf_ (e.m.gv e.u76) (zf_ (e.m.gv e.u77) (zf_ (e.m.gv e.u78) (zf_ (e.m.gv e.u79) (zf_ (e.m.gv e.u80) zdQ_)))))))))),(zf_ (e.m.gkc e.u81) zdQ_)⟩
section
variable {P:lN}{w:l7}{K:Fgg}{mg:Str->Option aU}{base:Heap}
theorem g0 (e:En K mg):GG P w K mg base 1 "_law_cell" ["_law_script", "_law_k"] z2_:=zN_ e.m e.u0 (okW (N:=["_law_script", "_law_k", "_law_number"]) (body:=z3_) (n:=2) (m:=1) (gok e.toEk) (fo e) trivial)
theorem g1 (e:En K mg):GG P w K mg base 1 "_law_signs" ["_law_cell_here"] zaR_:=zN_ e.m e.u1 (okW (N:=["_law_cell_here", "_law_some", "_law_one", "_law_two"]) (body:=zaQ_) (n:=1) (m:=3) (gok e.toEk) (fo e) trivial)
theorem g2 (e:En K mg):GG P w K mg base 1 "_law_names" ["_law_cell_here"] zaN_:=zN_ e.m e.u2 (okW (N:=["_law_cell_here", "_law_letters", "_law_one", "_law_at", "_law_two"]) (body:=zac_) (n:=1) (m:=4) (gok e.toEk) (fo e) trivial)
theorem g3 (e:En K mg):GG P w K mg base 1 "_law_field" ["_law_cell_here", "_law_base"] zB_:=zN_ e.m e.u3 (okW (N:=["_law_cell_here", "_law_base", "_law_low"]) (body:=zaW_) (n:=2) (m:=1) (gok e.toEk) (fo e) trivial)
theorem g4 (e:En K mg):GG P w K mg base 1 "_law_card" ["_law_cell_here", "_law_base", "_law_signs_here", "_law_k"] zz_:=zN_ e.m e.u4 (okW (N:=["_law_cell_here", "_law_base", "_law_signs_here", "_law_k", "_law_some", "_law_row", "_law_j"]) (body:=z4_) (n:=4) (m:=3) (gok e.toEk) (fo e) trivial)
theorem g5 (e:En K mg):GG P w K mg base 1 "_law_firsts" ["_law_deck", "_law_field_here"] zao_:=zN_ e.m e.u5 (okW (N:=["_law_deck", "_law_field_here", "_law_parts", "_law_kept", "_law_found", "_law_part"]) (body:=zan_) (n:=2) (m:=4) (gok e.toEk) (fo e) trivial)
theorem g6 (e:En K mg):GG P w K mg base 1 "own_list" ["values"] zbU_:=zN_ e.m e.u6 (okW (N:=["values"]) (body:=zdm_) (n:=1) (m:=0) (gok e.toEk) (fo e) trivial)
theorem g7 (e:En K mg):GG P w K mg base 1 "ask_for" ["holds", "words"] zcy_:=zN_ e.m e.u7 (okW (N:=["holds", "words"]) (body:=zeS_) (n:=2) (m:=0) (gok e.toEk) (fo e) trivial)
theorem g8 (e:En K mg):GG P w K mg base 2 "check_lengths" Qn1 zD_:=zN_ e.m e.u8 (okW (N:=Qn1) (body:=zE_) (n:=1) (m:=0) (gok e.toEk) (fo e) ⟨fkc (g7 e),fkc (g7 e),fkc (g7 e),fkc (g7 e),trivial⟩)
theorem g9 (e:En K mg):GG P w K mg base 1 "mates_by" Qn1 zbV_:=zN_ e.m e.u9 (okW (N:=Qn1) (body:=zdi_) (n:=1) (m:=0) (gok e.toEk) (fo e) trivial)
theorem g10 (e:En K mg):GG P w K mg base 2 "check_middle_word" Qn1 zy_:=zN_ e.m e.u10 (okW (N:=["asking", "many"]) (body:=zP_) (n:=1) (m:=1) (gok e.toEk) (fo e) ⟨fkc (g7 e),fkc (g9 e),fkc (g7 e),fkc (g9 e),trivial⟩)
theorem g11 (e:En K mg):GG P w K mg base 2 "names_of" Qn1 z6_:=zN_ e.m e.u11 (okW (N:=Qn1) (body:=zdv_) (n:=1) (m:=0) (gok e.toEk) (fo e) ⟨fkc (g9 e),trivial⟩)
theorem g12 (e:En K mg):GG P w K mg base 1 "is_name" ["text"] zcW_:=zN_ e.m e.u12 (okW (N:=["text"]) (body:=zcD_) (n:=1) (m:=0) (gok e.toEk) (fo e) trivial)
theorem g13 (e:En K mg):GG P w K mg base 3 "check_names" Qn1 zU_:=zN_ e.m e.u13 (okW (N:=["asking", "names", "name"]) (body:=zaz_) (n:=1) (m:=2) (gok e.toEk) (fo e) ⟨fkc (g11 e),fkc (g7 e),fkc (g12 e),fkc (g7 e),trivial⟩)
theorem g14 (e:En K mg):GG P w K mg base 2 "middle_fields" Qn1 zo_:=zN_ e.m e.u14 (okW (N:=Qn1) (body:=zaK_) (n:=1) (m:=0) (gok e.toEk) (fo e) ⟨fkc (g9 e),trivial⟩)
theorem g15 (e:En K mg):GG P w K mg base 3 "fields_due" Qn1 zaS_:=zN_ e.m e.u15 (okW (N:=["asking", "fields", "work"]) (body:=zaX_) (n:=1) (m:=2) (gok e.toEk) (fo e) ⟨fkc (g14 e),trivial⟩)
theorem g16 (e:En K mg):GG P w K mg base 1 "is_whole" ["value"] zbR_:=zN_ e.m e.u16 (okW (N:=["value"]) (body:=zdb_) (n:=1) (m:=0) (gok e.toEk) (fo e) trivial)
theorem g17 (e:En K mg):GG P w K mg base 2 "is_field" ["first", "last"] zbQ_:=zN_ e.m e.u17 (okW (N:=["first", "last"]) (body:=zb0_) (n:=2) (m:=0) (gok e.toEk) (fo e) ⟨fkc (g16 e),fkc (g16 e),trivial⟩)
theorem g18 (e:En K mg):GG P w K mg base 1 "picked_signs" ["row"] za5_:=zN_ e.m e.u18 (okW (N:=["row", "signs", "step"]) (body:=zba_) (n:=1) (m:=2) (gok e.toEk) (fo e) trivial)
theorem g19 (e:En K mg):GG P w K mg base 1 "pick_passes" Qn1 zbx_:=zN_ e.m e.u19 (okW (N:=["asking", "row", "pick"]) (body:=zbA_) (n:=1) (m:=2) (gok e.toEk) (fo e) trivial)
theorem g20 (e:En K mg):GG P w K mg base 2 "check_picks" Qn1 zaB_:=zN_ e.m e.u20 (okW (N:=["asking", "pick"]) (body:=zbt_) (n:=1) (m:=1) (gok e.toEk) (fo e) ⟨fkc (g7 e),fkc (g18 e),fkc (g19 e),trivial⟩)
theorem g21 (e:En K mg):GG P w K mg base 1 "width_of" ["field"] zbg_:=zN_ e.m e.u21 (okW (N:=["field"]) (body:=zdC_) (n:=1) (m:=0) (gok e.toEk) (fo e) trivial)
theorem g22 (e:En K mg):GG P w K mg base 3 "check_middle_widths" Qn1 zl_:=zN_ e.m e.u22 (okW (N:=["asking", "fields"]) (body:=zu_) (n:=1) (m:=1) (gok e.toEk) (fo e) ⟨fkc (g14 e),fkc (g7 e),fkc (g21 e),fkc (g21 e),trivial⟩)
theorem g23 (e:En K mg):GG P w K mg base 1 "make_board" ["wires"] zaV_:=zN_ e.m e.u23 (okW (N:=["wires", "wire", "leading"]) (body:=zaT_) (n:=1) (m:=2) (gok e.toEk) (fo e) trivial)
theorem g24 (e:En K mg):GG P w K mg base 2 "is_board" ["wires"] zb7_:=zN_ e.m e.u24 (okW (N:=["wires", "board"]) (body:=zbN_) (n:=1) (m:=1) (gok e.toEk) (fo e) ⟨fkc (g23 e),trivial⟩)
theorem g25 (e:En K mg):GG P w K mg base 3 "check_counting" Qn1 zK_:=zN_ e.m e.u25 (okW (N:=Qn1) (body:=zM_) (n:=1) (m:=0) (gok e.toEk) (fo e) ⟨fkc (g7 e),fkc (g16 e),fkc (g7 e),fkc (g7 e),fkc (g16 e),fkc (g7 e),fkc (g24 e),trivial⟩)
theorem g26 (e:En K mg):GG P w K mg base 1 "check_works" Qn1 zaC_:=zN_ e.m e.u26 (okW (N:=["asking", "place", "work", "field"]) (body:=zbz_) (n:=1) (m:=3) (gok e.toEk) (fo e) trivial)
theorem g27 (e:En K mg):GG P w K mg base 4 "check_asking" Qn1 zad_:=zN_ e.m e.u27 (okW (N:=["asking", "field"]) (body:=zae_) (n:=1) (m:=1) (gok e.toEk) (fo e) ⟨fkc (g8 e),fkc (g10 e),fkc (g13 e),fkc (g15 e),fkc (g7 e),fkc (g17 e),fkc (g20 e),fkc (g22 e),fkc (g25 e),fkc (g26 e),trivial⟩)
theorem g28 (e:En K mg):GkD P w K mg base CX0 5 "Asking" (gA K "Asking") Qn0 ((flats [.non,(.int 0),.non,(.int 6),.non]).getD []) (CtG K zi_):=show GkD P w K mg base CX0 5 "Asking" (gA K "Asking") Qn0 ([.non,(.int 0),.non,(.int 6),.non].drop 0) (CtG K zi_)from zqE_ 0 e.m e.u48 e.u47 (λT f fd arr n oc od aq F lT hl=>bnd5 rfl F lT hl λd0 d1 d2 d3 d4 kV doc pm an ae ct u0 u1 u2 u3 u4 s ⟨o,ho,hd⟩=>BindsTo.of_defaults rfl ho hd rfl rfl) (okVD (k:=4) (ps:=Qn0) (st:=zaf_) (N:=Qn0) (body:=zn_) (n:=10) (m:=0) (gok e.toEk) (fo e) ⟨fkc (g6 e),fkc (g6 e),fkc (g6 e),fkc (g27 e),trivial⟩ (by decide +kernel) ⟨rfl,rfl,rfl,by decide +kernel,rfl,by decide +kernel,by decide +kernel⟩ rfl rfl)
theorem g29 (e:En K mg):GG P w K mg base 3 "check_trays" ["asking", "trays"] zS_:=zN_ e.m e.u28 (okW (N:=["asking", "trays", "name"]) (body:=zaj_) (n:=2) (m:=1) (gok e.toEk) (fo e) ⟨fkc (g11 e),trivial⟩)
theorem g30 (e:En K mg):GG P w K mg base 1 "picked_deck" ["asking", "deck"] zar_:=zN_ e.m e.u29 (okW (N:=["asking", "deck", "left", "pick"]) (body:=zbu_) (n:=2) (m:=2) (gok e.toEk) (fo e) trivial)
theorem g31 (e:En K mg):GG P w K mg base 1 "is_sign" ["text"] zcw_:=zN_ e.m e.u30 (okW (N:=["text"]) (body:=zcG_) (n:=1) (m:=0) (gok e.toEk) (fo e) trivial)
theorem g32 (e:En K mg):GG P w K mg base 2 "rank_of" ["sign"] zcN_:=zN_ e.m e.u31 (okW (N:=["sign"]) (body:=zcR_) (n:=1) (m:=0) (gok e.toEk) (fo e) ⟨fkc (g31 e),trivial⟩)
theorem g33 (e:En K mg):GG P w K mg base 1 "sign_at" ["card", "column"] zcJ_:=zN_ e.m e.u32 (okW (N:=["card", "column"]) (body:=zcC_) (n:=2) (m:=0) (gok e.toEk) (fo e) trivial)
theorem g34 (e:En K mg):GG P w K mg base 3 "ranks_at" ["card", "columns"] zax_:=zN_ e.m e.u33 (okW (N:=["card", "columns"]) (body:=zbL_) (n:=2) (m:=0) (gok e.toEk) (fo e) ⟨fkc (g32 e),fkc (g33 e),trivial⟩)
theorem g35 (e:En K mg):GG P w K mg base 5 "put_in_order" ["deck", "columns"] zt_:=zqv_ (st:=z9_) (N:=["deck", "columns"]) (n:=2) (m:=0) (p:="card") (fr:=[("columns",1)]) (i:=0) e.m e.u34 e.u58 (gok e.toEk) (fo e) ⟨fkc (g34 e),trivial⟩
theorem g36 (e:En K mg):GG P w K mg base 1 "columns_of" ["field"] zA_:=zN_ e.m e.u35 (okW (N:=["field"]) (body:=zaU_) (n:=1) (m:=0) (gok e.toEk) (fo e) trivial)
theorem g37 (e:En K mg):GG P w K mg base 4 "comes_ahead" ["card", "other", "columns"] zaq_:=zN_ e.m e.u36 (okW (N:=["card", "other", "columns"]) (body:=zak_) (n:=3) (m:=0) (gok e.toEk) (fo e) ⟨fkc (g34 e),fkc (g34 e),trivial⟩)
theorem g38 (e:En K mg):GG P w K mg base 5 "out_at" ["deck", "columns"] zdV_:=zN_ e.m e.u37 (okW (N:=["deck", "columns", "place"]) (body:=zdP_) (n:=2) (m:=1) (gok e.toEk) (fo e) ⟨fkc (g37 e),trivial⟩)
theorem g39 (e:En K mg):GG P w K mg base 6 "check_order" ["deck", "field", "number"] zaD_:=zN_ e.m e.u38 (okW (N:=["deck", "field", "number", "place"]) (body:=zaA_) (n:=3) (m:=1) (gok e.toEk) (fo e) ⟨fkc (g38 e),fkc (g36 e),trivial⟩)
theorem g40 (e:En K mg):GG P w K mg base 1 "part_of" ["card", "field"] zcV_:=zN_ e.m e.u39 (okW (N:=["card", "field"]) (body:=zcM_) (n:=2) (m:=0) (gok e.toEk) (fo e) trivial)
theorem g41 (e:En K mg):GG P w K mg base 7 "first_cards" ["deck", "field"] zO_:=zN_ e.m e.u40 (okW (N:=["deck", "field", "firsts", "others", "seen", "card", "part"]) (body:=zH_) (n:=2) (m:=5) (gok e.toEk) (fo e) ⟨fkc (g39 e),fkc (g40 e),trivial⟩)
theorem g42 (e:En K mg):GG P w K mg base 8 "middle_deck" ["asking", "deck", "trays"] zx_:=zN_ e.m e.u41 (okW (N:=["asking", "deck", "trays", "fields", "ordered", "parts"]) (body:=zQ_) (n:=3) (m:=3) (gok e.toEk) (fo e) ⟨fkc (g14 e),fkc (g35 e),fkc (g36 e),fkc (g41 e),trivial⟩)
theorem g43 (e:En K mg):GG P w K mg base 2 "key_columns" Qn1 zay_:=zN_ e.m e.u42 (okW (N:=["asking", "columns", "key"]) (body:=zas_) (n:=1) (m:=2) (gok e.toEk) (fo e) ⟨fkc (g36 e),trivial⟩)
theorem g44 (e:En K mg):GG P w K mg base 1 "worked_card" ["asking", "card"] zau_:=zN_ e.m e.u43 (okW (N:=["asking", "card", "worked", "work"]) (body:=zbB_) (n:=2) (m:=2) (gok e.toEk) (fo e) trivial)
theorem g45 (e:En K mg):GG P w K mg base 9 "chosen_deck" ["asking", "trays"] zT_:=zN_ e.m e.u44 (okW (N:=["asking", "trays", "deck"]) (body:=zav_) (n:=2) (m:=1) (gok e.toEk) (fo e) ⟨fkc (g29 e),fkc (g30 e),fkc (g42 e),fkc (g35 e),fkc (g43 e),fkc (g44 e),trivial⟩)
theorem g46 (e:En K mg):GG P w K mg base 1 "_law_unlike" ["_law_one", "_law_two", "_law_keys"] zR_:=zN_ e.m e.u45 (okW (N:=["_law_one", "_law_two", "_law_keys", "_law_low", "_law_high", "_law_here", "_law_there"]) (body:=zG_) (n:=3) (m:=4) (gok e.toEk) (fo e) trivial)
theorem g47 (e:En K mg):OkF P w K mg base CX0 10 "law" "law" s_law ["_law_script"] (CtG K f_law):=okW (N:=["_law_script", "_law_base", "_law_signs_here", "_law_names_here", "_law_keys", "_law_deck", "_law_middle", "_law_due", "_law_asking", "_law_found", "_law_card_here", "_law_one", "_law_two", "_law_way"]) (body:=znV_) (n:=1) (m:=13) (gok e.toEk) (fo e) ⟨fkc (g0 e),fkc (g1 e),fkc (g0 e),fkc (g2 e),fkc (g0 e),fkc (g0 e),fkc (g3 e),fkc (g0 e),fkc (g4 e),fkc (g0 e),fkc (g3 e),fkc (g0 e),fkc (g5 e),fkd (g28 e),fkc (g45 e),fkc (g46 e),fkc (g45 e),trivial⟩
end
theorem all_mk {l:tI}{w:l7}{K:Fgg}{h:Heap}{mg:Str->Option aU}{fa:kR}(X:K.In h)(G:h.Ns lD mg)(gM:mg "law"=uM (.ref fa))(k:Ek K):
  ∃fd:mH,(∀(s:kF) (v:aU),BindsTo s fd ⟨[v],[]⟩ [("_law_script",v)])/\∀base:Heap,K.In base->base.Ns lD mg->FnOk l.prog w K mg base CX0 10 fa fd ["_law_script"] (spL K):=by
 have e:En K mg:=⟨k,_,X,G⟩;refine okLaw e.m e.u46 gM (λ_ _ _ _ _ _ _ _=>rfl) λbase f fd F=>?_
 exact okLV (g47 (P:=l.prog) (w:=w) (base:=base) e f fd F).1 zkH_
theorem walk {l:tI}{q:lN}{loose:List Str}{XP:(Str->Option aU)->Heap->Prop}{YP:l7->Heap->Prop}{d:DefRec}{K:Params->Fgg}(hn:l.most=uM 63)(eL:d.params.defaults=[])(bU:∀p,L2.lamOk q (K p)=uO)
  (hY:∀(w:l7) (h:Heap),YP w h->(K w.params).In h)
  (F:∀(w:l7) (mg:Str->Option aU) (fa:kR) (h:Heap),(K w.params).In h->h.Ns lD mg->mg d.name=uM (.ref fa) ->
   ∃fd:mH,(∀(s:kF) (u:aU),BindsTo s fd ⟨[u],[]⟩ [("_law_script",u)])/\∀base:Heap,(K w.params).In base->base.Ns lD mg->FnOk l.prog w (K w.params) mg base CX0 10 fa fd ["_law_script"] (spL (K w.params))):
  W.WalkO q loose XP YP l.row.toRowW d [] (λf vs=>sX f vs):=
 L2.zjr_ (n:=63) (k:=10) (x:="_law_script") (CX:=λ_=>CX0) (sp:=λw=>spL (K w.params)) hn (by decide) eL ⟨rfl,by decide,by decide⟩ bU hY F (λ_ _ a ns hl hb _ hS=>⟨a,ns,rfl,hS,hl,hb,λ_=>rfl⟩) λ_ _ _ _ _ z=>z
end K50
open PySem PySem.W PyProof.Rows
set_option maxRecDepth 100000 in
set_option maxHeartbeats 0 in
theorem PySem.Challenge.cw_cardshop_k50_put_in_order_holds : PySem.Challenge.rw_cardshop_k50_put_in_order.Holds := by
 w_on;o_law;k_head;(case hw=>w_witness2)
 k_fill
 refine K50.walk (l:=PySem.Challenge.rw_cardshop_k50_put_in_order) rfl rfl ?L (λw h Y=>W.km_in_of Y) ?F
 case L=>intro p;kernel_rfl!
 case F=>
  intro w mg fa h KX G eo;refine K50.all_mk KX G eo ?_;constructor
  all_goals first |(refine' L2.Fl.mk_ ?x0 ?x1 ?x2 ?x3 ?x4 ?x5 ?x6 ?x7 ?x8;(case x0=>k_is);(case x1=>k_is);(case x2=>rfl);(case x3=>k_is);(case x4=>rfl);(case x5=>rfl);(case x6=>rfl);(case x7=>rfl);(case x8=>rfl))|(refine' L2.FmD.mk_ ?x0 ?x1 ?x2 ?x3 ?x4 ?x5 ?x6 ?x7;(case x0=>k_is);(case x1=>k_is);(case x2=>k_is);(case x3=>k_is);(case x4=>k_is);(case x5=>k_is);(case x6=>k_is);(case x7=>(show _=_;kernel_rfl!)))|(refine' L2.Fg.mk_ ?x0 ?x1 ?x2 ?x3;(case x0=>k_is);(case x1=>k_is);(case x2=>k_is);(case x3=>k_is))|(refine' L2.Fm.mk_ ?x0 ?x1 ?x2 ?x3 ?x4 ?x5;(case x0=>k_is);(case x1=>k_is);(case x2=>k_is);(case x3=>k_is);(case x4=>k_is);(case x5=>k_is))|(refine' L2.Fc.mk_ ?x0 ?x1 ?x2 ?x3 ?x4 ?x5 ?x6;(case x0=>k_is);(case x1=>k_is);(case x2=>k_is);(case x3=>k_is);(case x4=>k_is);(case x5=>k_is);(case x6=>k_is))|(refine' L2.Fa.mk_ ?x0 ?x1;(case x0=>k_is);(case x1=>k_is))|(delta L2.Fb;k_is)|(refine' L2.Fv.mk_ ?x0 ?x1;(case x0=>k_is);(case x1=>first |exact⟨_,rfl⟩|rfl))|(refine' L2.Fk.mk_ ?x0;(case x0=>k_is))|(refine' L2.Fe1.mk_ ?x0 ?x1;(case x0=>k_is);(case x1=>(show _=_;kernel_rfl!)))|(refine' L2.FtT.mk_ ?x0 ?x1 ?x2 ?x3;(case x0=>k_is);(case x1=>k_is);(case x2=>(show _=_;kernel_rfl!));(case x3=>decide))
#print axioms PySem.Challenge.cw_cardshop_k50_put_in_order_holds
