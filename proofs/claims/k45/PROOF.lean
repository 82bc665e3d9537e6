import PyProof.Rows.All
import Wide.All
import OpenK.AllK
import Wide.FinOn
import Lean
import PyProof.EqAt
import PyProof.EqKinds
import PyProof.TupleCall
import PyProof.StrLawsRepr
import PyProof.NeKinds
import KE.KTryMore
import PyProof.Rows.TupIter
import PyProof.InstStoreFacts
import PyProof.ExcInit
import KE.KEqDict
import KE.KDictOf
import KE.KPairComp
import PySem.Challenge.RW_cardshop_k45_askings_read
set_option Elab.async false
set_option compiler.extract_closed false
set_option linter.all false
set_option maxRecDepth 100000
set_option maxHeartbeats 4000000
structure PySem.W.Fast:Prop where(tw2545231201418329649 tw11841548191852989002 tw3883711587249078737 tw4490409941538925868 tw2884569842580142479 tw11923997278632135890 tw6508458066315210136 tw9574084521741339710 tw9946689586713198542 tw2500523195572419373 tw9531906346162962263 tw6396191677289766849 tw8952187454144379185 tw8637842430629707521 tw13197329360954846561 tw9895795263153350670 tw6814563673678107031 tw15410977122349560841 tw12057642291944963090 tw7271598412521884517 tw5634457453036721215 tw9663874404979134446 tw15719431841167652514 tw12421667204206179840 tw6081510554029494550 tw2477791917056431181 tw3679614791396407541 tw14587016002531759067 tw11797287749617599629 tw12903029366045335787 tw9174930330471344785 tw5948421138906083879 tw13650124950741081604 tw13645225915031206975 tw15439271032550697479 tw14688014799009251129 tw14812544578213189473 tw7771588185053127978 tw8974215988751477220 tw17613777850760099277 tw12712567603167549451 tw15001463877283139896 tw4270285369940404300 tw8403283052171305552 tw15634882459093607832 tw6737024152015631136 tw6012876871360078198 tw8299109485663091824 tw13092497658142537687 tw16442043375169536993 tw620910098846931855 tw11060765958484778623 tw16222313104421648209 tw4260591408104342567 tw10019409280513827441 tw8492600487798121108 tw3149782963793419869 tw3752047279400473426 tw12763483594522639225 tw12759246991958385791
 tw4997582685717479795 tw7789648012046412033 tw15473934507356058335 tw3646049876121655245 tw15315588533641928354 tw13593275263874782131 tw1179829501916655038 tw1976341809305184118 tw7740686308722570499 tw6296761277032614895 tw10919872357905105786 tw6514033261851462707 tw2864808975679421175 tw14968716915519399027 tw15879567566779961064 tw14515882325690637145 tw17021605217269629922 tw13103533294752775215 tw17081898178955524233 tw8557852469212893629 tw8847431979060210879 tw2604837235136023834 tw15452836541633551566 tw15575924568848259006 tw9301170017788977556 tw17396845247897009295 tw11108890522215009916 tw4613962783717462554 tw7133451692006274904 tw9169284386057272391 tw13513750135287676446 tw3453847798491366884 tw17662814926912688550 tw9349937271387235460 tw4729666353167407050 tw14704045442749791706 tw10940049858864070155 tw1308018526147446535 tw11046433175159685431 tw9672216306600651278 tw566412617713922799 tw13173792520078756102 tw12646059146304434199 tw5324129316507732694 tw4755675043221918295 tw8445548737787027963 tw12798108157750941956 tw16665934354664686489 tw16831961180902749342 tw12379830654418444903 tw92270101651020267 tw2820675205544599969 tw6590750988761344025 tw2784179132910292573 tw14662354772429273973 tw2513261623895410262 tw9072105050403461230 tw9212612729012397808 tw944028434319585267 tw15093572034878626990
 tw14468528986840323561 tw8384478944506454731 tw17099127371213455880 tw13088846711600731642 tw6528658309636583581 tw13192643372439212967 tw17117564477113746606 tw3389111347099684119 tw1336156800029437144 tw2043285011152839477 tw912861881773301498 tw7668756607599893435 tw6642786004182806327 tw11907479505280197036 tw16272987123939153642 tw12503164728592880877 tw6440750888614469645 tw9484184860772139292 tw17845596081931962621 tw17182167284773894152 tw4581953110458822470 tw4876007799886926451 tw5954779354364718467 tw13537385556857127628 tw6602568303790224526 tw16661059898597351170 tw11486648534495390808 tw16651121177066147842 tw15471541051036451314 tw1116006937625041005 tw18294792402337539437 tw4108083969188939576 tw15396425667342292053 tw5001560628847461896 tw927122202587522325 tw17003435671554320458 tw5654583870125431074 tw2624718340823292237 tw1808626583087703226 tw5113119775340943325 tw8402583930154900600 tw4642235537269901686 tw12993189164978664250 tw7485394243440987404 tw230777504634779455 tw6212869712465860102 tw490636388252329639 tw13532953906614728410 tw7671579155789047988 tw16312602784544701146 tw13868870842952453163 tw5635027423108976423 tw4729380623106384272 tw2675387043718937903 tw17011051956749338071 tw840815259189346152 tw13378900980112655006 tw3096431100284617347 tw1184499336039499463 tw12611057852233865023
 tw18343214477248488007 tw13166399139719614130 tw4301445418752794993 tw8900744556110791977 tw4600936744776402223 tw2004282725798239518 tw8832091828618007496 tw14430030728611866321 tw11810876743470381147 tw2765431477862109291 tw9894245690034252617 tw11176266324337653554 tw7326054752804036249 tw9961158274430663878 tw4577408616993575339 tw9179419533362641383 tw3679880782269412233 tw5498707835578834553 tw10883587423168263785 tw9301118135616188980 tw11140832844512507827 tw4023897769541480020 tw5724614158706725774 tw8869781883950708716 tw5461410693167720370 tw1343991586449128199 tw2160517991019098680 tw13737055626372481964 tw259261084176342003 tw8397647420776718167 tw9703113673539696082 tw8976519143544313423 tw7429790152505763625 tw8467673501844015007 tw9765125417929145214 tw554404885964545067 tw15035122276283996407 tw1818917605674903426 tw11787872574660469555 tw3442471760818102024 tw9895127387693426093 tw2136375022520244076 tw8944834868076081637 tw1019965887267078312 tw17525706522398128842 tw17697530517219759992 tw3886146392188408735 tw667202264746158899 tw8779172653197541414 tw764326095611154301 tw12177683309375048077 tw5632201782750964394 tw15184130081108926187 tw5532486899549872066 tw2956914962649975298 tw8699869987749299902 tw7858816157160906266 tw7984735181810795635 tw15391059490666920626 tw5648253965563847194
 tw8543011249392665997 tw6107704577386271833 tw11118187370551194037 tw5898312759517980262:True)
set_option genSizeOf false
set_option genSizeOfSpec false
set_option bootstrap.genMatcherCode false
noncomputable section
set_option hygiene false in
local macro_rules
 |`(tactic|cases $x:ident $a:inductionAlts)=>do ("Option List aL Bool ai Sum Mo bY h_ Nat Or hL eY q7 p H fF".splitOn " ").foldrM (λs r=>do let i:=Lean.mkIdent (s++".casesOn").toName;`(tactic|first|induction $x:ident using $i:ident $a:inductionAlts|$(⟨r⟩):tactic)) (<-`(tactic|cases ($x) $a:inductionAlts)).raw
 |`(tactic|cases $x:ident)=>do (("Option List aL Bool ai Sum Mo bY h_ Nat Or hL eY q7 p H fF".splitOn " ").foldrM (λs (r:Lean.TSyntax `tactic)=>do let i:=Lean.mkIdent (s++".casesOn").toName;`(tactic|first|induction $x:ident using $i:ident|$r:tactic)) (<-`(tactic|cases ($x)))>>=λr=>`(tactic|first|(injection $x;done)|(have h:_=_:=$x;clear h;subst $x)|$r:tactic))
 |`(tactic|cases $h:ident : $e:term $a:inductionAlts)=>`(tactic|(generalize $h : $e = xx_;cases xx_ $a:inductionAlts))
 |`(tactic|cases $t:term)=>if t.raw.isOfKind ``Lean.Parser.Term.paren then Lean.Macro.throwUnsupported else `(tactic|first|(have hh_:_=_:=$t;injection hh_;done)|cases ($t))
 |`(tactic|lia)=>`(tactic|first|decide|with_reducible(first|assumption|exact Nat.zero_le _|exact Nat.le_refl _|exact Nat.le_of_lt (by assumption)|exact Nat.lt_of_lt_of_le (by assumption) (by decide)|exact Nat.le_trans (by assumption) (by decide)|exact Int.lt_of_lt_of_le (by assumption) (by decide)|exact Int.le_trans (by assumption) (by decide)|exact Nat.lt_of_lt_of_le (by assumption) (by assumption)|exact Nat.le_trans (by assumption) (by assumption))|lia (splits:=9))
set_option hygiene false in
local macro_rules|`(tactic|fail "0")=>`(tactic|first |assumption |exact a6.tk ‹_› |exact Co _ |(refine hY ?_ ‹_›;exact a6.tk ‹_›)|exact hY (a6.tk ‹_›) (Cp _ _))|`(tactic|fail "1")=>`(tactic|first |exact .inl rfl |exact .inr rfl |assumption)|`(tactic|fail "2")=>`(tactic|first |exact nobehind _ (by decide) (by decide)|rfl)
open PySem renaming Value→aR,wpAny_bind→bK,Shared→aY,Addr→aV,sizeLine→cw,wpAny_pure→dx,wpAny→bM,Expr→bI,Program→cW,mainGlobals→fb,compareOp→eJ,starEach→ej,World→cF,Around→dp,wpAny_truthy_bool→kV,strIterType→hZ,FuncData→hk,wpAny_mono→kC,assignEach→jN,Stmt→d4,mem_of_lookup→rC,binaryOp→j4,bootBuiltins→oc,wpAny_field→nv,backTo→h1,wpAny_Call_Name_kw→tJ,NameKind→nx,wpAny_setField_rec→tK,IsPair→ij,wpAny_passesOwn→rD,keywordEach→o_,backToKw→pa,Within→yo,Builtin→rE,Ctx→yp,call→Cq,Obj→iU,Fin→Cr
open Bool renaming and_eq_true→cC,and_eq_true_iff→kW,false_ne_true→pb,or_eq_true→pd,and_false→tL,and_true→vE,or_self→yq,true_and→Cs,false_and→H3,or_false→H4,true→ae,false→ax
open List renaming length_map→ct,length_append→dq,mem_cons_self→ek,mem_cons→df,length_cons→ee,getElem?_eq_getElem→gd,size_toArray→eQ,mem_cons_of_mem→fM,getElem?_eq_some_iff→hF,exists_cons_of_length_eq_add_one→j5,mem_singleton→fv,map_cons→eR,getElem?_map→gC,mem_map→e3,not_mem_nil→gD,replicate→fV,mem_append→g0,getElem?_set_ne→jO,mem_append_right→j6,range→fl,map_map→gr,getD_eq_getElem?_getD→mL,map_append→iA,zip_cons_cons→j7,isEmpty_iff→j8,getElem?_append_right→pe,length_take→lB,append_nil→lC,all_cons→kD,mem_range→lD,all_eq_true→mM,length_eq_zero_iff→qf,drop_eq_getElem_cons→rF,length_eq_one_iff→qg,drop_succ_cons→pf,append_assoc→od,mem_of_getElem?→qh,drop_zero→mN,getElem?_append_left→tM,map_congr_left→qi,flatMap_append→qj,getElem?_set_self→tN,length_range→qk,flatMap_cons→ql,length→ma,filterMap_map→rG,length_drop→qm,getElem?_of_mem→tO,getElem?_set→yr,length_zip→qn,nodup_cons→qo,find?_cons→qp,getElem_mem→rH,of_mem_zip→rI,length_set→vF,pairwise_map→tP,getElem?_take_of_lt→ys,filterMap_cons→vG,find?_cons_of_neg→yt,set_cons_zero→vH,length_singleton→yu,getElem?_eq_none→yv,mem_append_left→yw,drop_length→vI,map_nil→rJ,length_nil→vJ,set_cons_succ→yx,lookup→rK,reverse_cons→yy,set_set→tQ,nodup_append→yz,take_succ_eq_append_getElem→H5,any_eq_true→yA,take_length→yB,cons_append→yC,flatMap_nil→yD,eq_nil_of_length_eq_zero→H6,forIn_cons→yE,nil_append→yF,getElem_of_mem→Ct,replicate_succ→Cu,length_reverse→Cv,getElem?_range→Cw,toArray→vK,map_id'→vL,pairwise_cons→Cx,mem_of_find?_eq_some→H7,getElem?_zip_eq_some→H8,ext_getElem?→Cy,map_id→vM,any_cons→yG,map_snd_zip→Cz,mem_flatMap→CA,mem_iff_getElem?→H9,set_append_right→H_,take_append_drop→Ia,nodup_nil→CB,drop_left→CC,filterMap_some→Ib,mem_map_of_mem→Ic,take_nil→CD,mem_filterMap→Ie,foldl→yH,getElem_range→Ig,getElem?_drop→Ih,ext_getElem→Ii,zipIdx_cons→Ij,lookup_cons→Ik,map_reverse→Il,mem_filter→Im,zipIdx_nil→Io,idxOf_cons→Ip,find?_some→Iq,forIn_nil→Ir,drop_drop→It,drop_nil→Iu,set_comm→Iv,map_drop→Iw,map_take→Iy,all_map→Iz
open PySem.Heap renaming get?_push_of_some→el,get?_push_size→gf,lt_size→eK,ExtBut→ny,size_push→qq,SameBut→rL,get?_update_other→IA,get?_push_cases→IB,get?_push_ne→IC
open Nat renaming lt_of_lt_of_le→hY,le_refl→cM,ne_of_lt→gg,le_add_right→Cp,le_trans→jP,succ_pos→Co,zero_le→jl,le_succ→oe,lt_irrefl→rM,lt_succ_of_lt→vN,ne_of_gt→rN,lt_succ_self→vO,min_self→rO,le_of_eq→tR,min_eq_left→yI,le_of_lt→vP,min_eq_right→CE,add_sub_cancel_left→ID,sub_self→yJ,le_of_ble_eq_true→IE,mul_le_mul_right→IF,sub_zero→CF,lt_or_ge→CG,min_le_right→IG,le_of_not_lt→IH,mul_comm→II,le_total→IJ,lt_trans→IK
open Option renaming bind_eq_some_iff→g4,map_eq_some_iff→ik,isNone_iff_eq_none→qr,isSome_iff_exists→vQ,isSome_map→yK,isSome_none→IL,getD_none→IM,map_some→IP,none→IQ,some→E,none→k
open Nat.succ renaming inj→fD
open PySem.W renaming Frag→cH,Frag→i5,nsIn→gu,findIn→i6,keepIn→kE,emptyDict→pg,kia_one→nz,instObj→qs,hasDictIn→tS,codeIn→ph,plainGet→tT,plainOver→yL,specialIn→yM,mroIn→rP,plainGet_of→CH,callWith_K0→CI,callWith_K→CJ,isFn→rQ,makesIn→yN,cellsFrom_some→IS,methodObj→CK,methodCall_KW→IT,lookIn→yO,kitOne→yP,takerIn→CL,OpenLaw→CM,mg_of→yQ,typeIn→CN,tabIn→CO
open False renaming elim→fG
open Option.some renaming inj→jQ
open PySem.Builtin.Str renaming strSliceIndices→qt,occurrences→tU,strSub→rR,strKind→yR,lastOccurrence→Q5,tooLong→Q6
open PySem.Obj renaming mapSeq→j9
open PySem.Builtin.SmallTypes renaming ownedTupleIsFree→yS,nextOf→yT,ownedTupleHandOut→IU
open PySem.Value renaming none→kF,ref→jR,type→pj,bool→rS,str→vR,int→yU,isStrOf→IV,isInt→IW,float→IX
open Int renaming emod_lt_of_pos→qu,eq_ofNat_of_zero_le→vS,emod_nonneg→rT,natCast_nonneg→vT,le_refl→qv,max_eq_right→yV,min_eq_left→yW,reduceEq→vU,ofNat_le→yX,min_eq_right→IY,ofNat_toNat→IZ,max_comm→I0,not_lt→I1
open PyProof.Rows renaming callWith_type1→vV,slot_tuple_getitem→CP,split_pos→I2,callWith_builtin1→Q7,assign_Tuple→Q8,join_closes→Q9,lt_int→Q_,lt_str→Ra
open True renaming intro→mb
open PySem.Str renaming length→mO,ofString→rU,join→yY,empty→CQ
open PySem.SeqAt renaming RcAt→og,RcNeAt→rV,ne_of_list_tuple→I3,EqAt→CR
open PySem.StrLaws renaming strSub_toList→yZ,subAt_one→y0,At→rW,join_split→I4
open PySem.Builtin.Slice renaming slicePlaces→CS,sliceAdjust→I5,slicePartIndex→Rb,sliceApplied→Rc
open Array renaming length_toList→y1,toList_inj→y2,perm_iff_toList_perm→I6,getElem?_toList→I7,toList→CT,getD→I8
open PySem.Builtin.Int renaming intBits→y3
open PySem.Builtin.List renaming listTooLong→CU,listExtendWith→Rd,listUpdate→Rf
open Classical renaming choose_spec→CV
open PySem.Builtin renaming divisionGoesByPylong→I9
open PySem.F renaming slot_zip_next→y4,slot_dict_setdefault→I_,slot_str_rpartition→Ja,args_str_split_2→CW,slot_str_partition→Jb,entry_str_split→CX,args_tuple_add_2→Jc,entry_tuple_add→Jd,slot_str_split→CY,plain_list_iadd→Je,slot_tuple_add→Jf,plainAttrs_str→Jg,slot_str_getitem→Jh,args_zip_next_1→Ji,entry_zip_next→Jj,slot_int_rmul→Jk
open Ne renaming symm→oh
open List.cons renaming inj→y5
open PySem.Builtin.Range renaming rangeSize→Jl
open PySem.Env renaming kindOf→CZ
open PySem.SeqAt.EqAt renaming same→C0,int_str→Jm,str_int→Jn
open PySem.Heap.SameBut renaming update→Jo
open PySem.Heap.IsSliceOf renaming new→Jp
open Sum renaming inl→tV,inr→vW
open List.Pairwise renaming nil→Jq
open PySem.Builtin.Tuple renaming tupleItemsOf→Rg,tupleExact→Rh
open PySem.SeqAt.RcNeAt renaming lists_lengths→Ri,tuple_none→Rj,tuple_bool→Rk,none_tuple→Rl,bool_tuple→Rm,none_none→Rn,none_bool→Ro,bool_none→Rp,bool_bool→Rq,list_none→Rr,list_bool→Rt,none_list→Ru,bool_list→Rv,tuple_int→Rw,tuple_str→Rx,int_tuple→Ry,str_tuple→Rz,none_int→RA,none_str→RB,bool_int→RC,bool_str→RD,int_none→RE,int_bool→RF,str_none→RG,str_bool→RH,list_int→RI,list_str→RJ,int_list→RK,str_list→RL,int_int→RM,int_str→RN,str_int→RO,str_str→RP,tuples→RQ,lists→RR
open List.Perm renaming refl→Jr
open Prod renaming ext→C1
open PySem.Within renaming cons→RS
open PySem.Heap.DictOf renaming new→RT
section
open PySem PySem.Spec PyProof.Rows
abbrev tW:=List (String×Bool)
abbrev mP:=Array (Option aR)
abbrev jm:=List (List Nat)
abbrev eu:=Str->Option aR
abbrev rX:=aR->aR->Sem aR
abbrev jn:=List (Str×Nat)
abbrev kX:=Nat->Nat->Bool
abbrev vX:=List (Int×Int)
abbrev pk:=List (Str×aR)
abbrev jS:=List (Str×aV)
abbrev tX:=List (Str×nx)
abbrev vY:=Option CmpOp
abbrev ea:=Option Int
abbrev qw:=Option aR
abbrev gv:=Option aV
abbrev pl:=Option bI
abbrev qx:=List Bool
abbrev il:=Array Nat
abbrev i7:=Nat->Bool
abbrev g5:=Array aR
abbrev cx:=List Str
abbrev lE:=List Env
abbrev ef:=List Int
abbrev bo:=List Nat
abbrev mQ:=Int->Nat
abbrev cu:=List aR
abbrev jT:=List aV
abbrev ew:=List bI
abbrev jo:=List d4
end
namespace L2
open PySem PySem.Spec PyProof.Rows
theorem fE.{u}{ay:Type u}(S:ay):E S≠k:=Option.some_ne_none S
noncomputable abbrev bD:=cH
noncomputable abbrev di:=List (aV×iU)
noncomputable abbrev d9:=Sum Int Str
abbrev tY:=List (List d9×aV×aR)
abbrev jq:=List d9
def tZ:d9->aR->Bool
 |.inl D,v=>IW D v|.inr X,v=>IV X v
def RU (r:cF):d9->Int
 |.inl D=>hashInt D|.inr X=>hashStr r X
theorem oi:∀{D:d9}{v:aR},tZ D v=ae->(∃O n,D=tV O/\v=yU O n)\/(∃X n,D=vW X/\v=vR X n)
 |.inl O,v,Y=>by
  obtain⟨n,e⟩:=Value.isInt_shape   Y;exact .inl ⟨O,n,rfl,e⟩
 |.inr X,v,Y=>by
  obtain⟨n,e⟩:=Value.isStrOf_shape   Y;exact .inr ⟨X,n,rfl,e⟩
theorem RV (O:Int)(n:Tok):tZ (.inl O) (.int O n)=ae:=by simp[tZ,IW]
theorem RW (X:Str)(n:Tok):tZ (.inr X) (.str X n)=ae:=by simp[tZ,IV]
theorem RX (S b:Int):decide ((tV S:d9)=tV b)=(S == b):=by
 grind
theorem RY (S b:Str):decide ((vW S:d9)=vW b)=decide (S=b):=by
 grind
theorem RZ (S:Int)(b:Str):decide ((tV S:d9)=vW b)=ax:=decide_eq_false (λV=>nomatch V)
theorem R0 (S:Str)(b:Int):decide ((vW S:d9)=tV b)=ax:=decide_eq_false (λV=>nomatch V)
def kG (prog:cW)(r:cF):PySem.KeyKind prog r d9 where
 is:=tZ
 hash:=RU r
 inj:=λv S b d c=>by
  rcases oi d with⟨O,n,rfl,rfl⟩|⟨X,n,rfl,rfl⟩
  ·rcases oi c with⟨j,u,rfl,e⟩|⟨t,u,rfl,e⟩
   ·injection e with aN _;rw[aN]
   ·exact nomatch e
  ·rcases oi c with⟨j,u,rfl,e⟩|⟨t,u,rfl,e⟩
   ·exact nomatch e
   ·injection e with aN _;rw[aN]
 byValue:=λD v Y=>by
  rcases oi Y with⟨O,n,rfl,rfl⟩|⟨X,n,rfl,rfl⟩<;>rfl
 pyHash:=λa Y=>by
  rcases oi a with⟨O,n,rfl,rfl⟩|⟨X,n,rfl,rfl⟩
  ·exact wpAny_pyHash_int Y
  ·exact wpAny_pyHash_str Y
 eqBool:=λf a Y=>by
  rcases oi f with⟨O,n,rfl,rfl⟩|⟨X,n,rfl,rfl⟩
  ·rcases oi a with⟨j,u,rfl,rfl⟩|⟨t,u,rfl,rfl⟩
   ·rw[RX]at Y;exact wpAny_eqBool_int Y
   ·rw[RZ]at Y;exact Jm O n t u _ _ _ _ Y
  ·rcases oi a with⟨j,u,rfl,rfl⟩|⟨t,u,rfl,rfl⟩
   ·rw[R0]at Y;exact Jn X n j u _ _ _ _ Y
   ·rw[RY]at Y;exact wpAny_eqBool_str Y
 «strs»:=λD X n v Y=>by
  rcases oi Y with⟨O,u,rfl,e⟩|⟨t,u,rfl,e⟩
  ·exact nomatch e
  ·injection e with aN _
   subst aN;cases v<;>rfl
theorem R1 (prog:cW)(r:cF)(O:Int)(n:Tok):(kG prog r).is (.inl O) (.int O n)=ae:=RV O n
theorem R2 (prog:cW)(r:cF)(X:Str)(n:Tok):(kG prog r).is (.inr X) (.str X n)=ae:=RW X n
inductive aL where
 |a9 |aM (b:Bool)|d (O:Int)|f (X:Str)|Js (b:Array UInt8)|vZ (b:UInt64)|a0 (S:aV)|fW (z:String)
 deriving DecidableEq
abbrev y6:=List (Nat×Option aL)
abbrev t2:=List (List d9×aL)
abbrev nA:=List (Str×aL)
abbrev kY:=List (d9×aL)
abbrev qy:=Int->Int->aL
abbrev h2:=Option aL
abbrev a3:=List aL
noncomputable def cc:aL->aR->Prop
 |.a9,u=>u=kF|.aM b,u=>u=rS b|.d O,u=>∃n,u=yU O n|.f X,u=>∃n,u=vR X n|.Js b,u=>∃n,u=Value.bytes b n|.vZ b,u=>∃n,u=IX b n|.a0 S,u=>u=jR S|.fW z,u=>u=pj z
abbrev b3:a3->cu->Prop:=Paired cc
theorem b3.dB {m:a3}{aa:cu}(G:b3 m aa):m.length=aa.length:=Paired.length G
theorem b3.gQ:∀{m:a3}{aa:cu}{O:Nat}{X:aL},b3 m aa->m[O]?=E X->∃u,aa[O]?=E u/\cc X u
 |_,_,_,_,.nil,e=>by simp at e
 |_,_,0,_,.cons G _,e=>by simp at e;subst e;exact⟨_,rfl,G⟩
 |_,_,O+1,X,.cons _ n,e=>by
  obtain⟨u,ab,af⟩:=b3.gQ   n (by simpa using e)
  exact⟨u,by simpa using ab,af⟩
theorem b3.set {X:aL}{u:aR}(G:cc X u):∀{m:a3}{aa:cu}(O:Nat),b3 m aa->b3 (m.set O X) (aa.set O u)
 |_,_,_,.nil=>.nil|_,_,0,.cons _ n=>.cons G n|_,_,O+1,.cons V n=>.cons V (b3.set G O n)
theorem b3.dY:∀{m aS:a3}{aa aD:cu},b3 m aa->b3 aS aD->b3 (m++aS) (aa++aD)
 |_,_,_,_,.nil,A=>A|_,_,_,_,.cons G n,A=>.cons G (b3.dY n A)
theorem b3.take:∀{m:a3}{aa:cu}(z:Nat),b3 m aa->b3 (m.take z) (aa.take z)
 |_,_,0,_=>.nil|_,_,_+1,.nil=>.nil|_,_,z+1,.cons G n=>.cons G (b3.take z n)
theorem b3.drop:∀{m:a3}{aa:cu}(z:Nat),b3 m aa->b3 (m.drop z) (aa.drop z)
 |_,_,0,G=>G|_,_,_+1,.nil=>.nil|_,_,z+1,.cons _ n=>b3.drop z n
def kH:h2->qw->Prop
 |some v,E u=>cc v u|none,k=>True|_,_=>False
def jr {eG:Type}:List (eG×aL)->List (eG×aR)->Prop:=Paired λ(N:eG×aL) (V:eG×aR)=>N.1=V.1/\cc N.2 V.2
def h3:d9->aL
 |.inl O=>.d O|.inr X=>.f X
inductive fF where
 |aG (m:List aL)
 |a_ (m:List aL)
 |ey (ba:List (d9×aL))|lF (ba:List (List d9×aL))
 |set (a:Int->Bool) (z:Nat)
 |e1 (aJ bH:aV) (av:List (Str×aL))
 |e4 (X:aV)
 |C2 (av:List (Str×aL))
 |C3 (w X:aV)
 |rY (a8 aB:Int)
 |h4 (C:iU) (u:fF)
 |mR (pos:Pos) (b:Str)
 |ext (c:Heap->Prop)
noncomputable abbrev aj:=aV->Option fF
def b8 (R:aj)(S:aV)(C:fF):aj:=λb=>if b=S then E C else R b
theorem js {R:aj}{S:aV}{C:fF}:b8 R S C S=E C:=by unfold b8;rw[if_pos rfl]
theorem fN {R:aj}{S b:aV}{C:fF}(Y:b≠S):b8 R S C b=R b:=by unfold b8;rw[if_neg Y]
theorem R3 {R:aj}{S b:aV}{C u:fF}(Y:R S=E C)(aE:R b=E u)(y:C≠u):S≠b:=by
 intro e;subst e;rw[Y]at aE;exact y (jQ aE)
theorem rZ {R:aj}{S b:aV}{C:fF}(Y:R S=E C)(aE:R b=k):S≠b:=by grind
section
variable (P:cW)(r:cF)
def h5 (R:aj)(Y:Heap)(S:aV):fF->Prop
 |.aG m=>m.length<=cw/\∃(a:cu) (z:Nat),b3 m a/\Y.get? S=E {cls:=.type "list",data:=.seq a.toArray z}|.a_ m=>m.length<=cw/\∃a:cu,b3 m a/\IsTup Y S a.toArray|.ey ba=>ba.length<=cw/\(S == sysModules)=ax/\∃c,jr ba c/\Y.DictOf (kG P r) S c| .lF ba=>ba.length<=cw/\(S == sysModules)=ax/\∃m:tY,
   Paired (λ(N:jq×aL) (V:jq×aV×aR)=>N.1=V.1/\R V.2.1=E (.a_ (N.1.map h3))/\cc N.2 V.2.2) ba m /\
   ∃C aw e,Y.get? S=E C/\C.ExactDict/\C.data=.dict aw e/\aw.toList=m.map (entryOfKey (tupleKind (kG P r)))/\(m.map (·.1)).Nodup
 |.set f z=>Y.SetOf (intKind P r) S f z| .e1 aJ bH av=>R bH=E (.e4 S)/\av.length<=1000/\bH≠S/\Y.get? S=E (qs aJ bH) /\
   ∃e5,Y.Ns1 bH e5/\(∀w,kH (av.lookup w) (e5 w))/\yo e5 (av.map (·.1))
 |.e4 _=>∃C,Y.get? S=E C|.C2 av=>∃e5,Y.Ns1 S e5/\∀w,kH (av.lookup w) (e5 w)|.rY a8 aB=>∃n u v,Y.get? S=E {cls:=.type "range",data:=.fields #[.int a8 n,.int aB u,.int 1 v]}|.h4 C u=>Y.get? S=E C/\h5 R Y S u|.mR pos g=>∃aF:g5,Y.get? S=E {cls:=.none,data:=.fields aF}/\TriplesOk aF.toList/\∀d,codeAmong pos aF.toList=E d->∃Q C c n,d=.ref Q/\R Q=E (.h4 C (.e4 S))/\C.data=.fields c/\c[1]?=E (.str g n)|.C3 w X=>Y.get? S=E (CK (.ref w) (.ref X))|.ext b=>b Y/\(∃C,Y.get? S=E C)/\∀ab af:Heap,b ab->(∀C,ab.get? S=E C->af.get? S=E C)->b af
def gh (R:aj)(Y:Heap):Prop:=∀S C,R S=E C->h5 P r R Y S C
end
section
variable {P:cW}{r:cF}{R aq:aj}{Y aE:Heap}{S:aV}{C:fF}
theorem h5.h6 (X:h5 P r R Y S C):S<Y.objs.size:=by
 cases C with
 |aG m=>obtain⟨_,_,_,_,e⟩:=X;exact eK e|a_ m=>obtain⟨_,_,_,N⟩:=X;exact N.lt|set a z=>obtain⟨C,_,_,_,e,_⟩:=X;exact eK e|e1 aJ bH av=>obtain⟨_,_,_,e,_⟩:=X;exact eK e|e4 t=>obtain⟨_,e⟩:=X;exact eK e|C2 av=>obtain⟨_,⟨_,_,_,e,_⟩,_⟩:=X;exact eK e|rY a8 aB=>obtain⟨_,_,_,e⟩:=X;exact eK e|h4 b u=>obtain⟨e,_⟩:=X;exact eK e|mR pos c=>obtain⟨_,e,_⟩:=X;exact eK e|C3 w t=>exact eK (X)|ext d=>obtain⟨_,⟨_,e⟩,_⟩:=X;exact eK e |_=>obtain⟨_,_,_,_,C,_,_,e,_⟩:=X;exact eK e
theorem Paired.C4 {ay cQ:Type}{F ah:ay->cQ->Prop}:∀{a:List ay}{c:List cQ},Paired F a c->(∀S b,F S b->ah S b)->Paired ah a c
 |_,_,.nil,_=>.nil|_,_,.cons G n,w=>.cons (w _ _ G) (Paired.C4 n w)
theorem h5.t4 (X:h5 P r R Y S C)(D:∀b u,(b=S\/R b=E (.e4 S))->Y.get? b=E u->aE.get? b=E u)
  (h:∀b,R b=E (.e4 S)->aq b=E (.e4 S)) (i:∀b m,R b=E (.a_ m)->aq b=E (.a_ m)) (j:∀b a,R b=E (.h4 a (.e4 S))->aq b=E (.h4 a (.e4 S)):=by exact λ_ _ V=>V):h5 P r aq aE S C:=by
 induction C with
 |aG m=>obtain⟨I,f,z,G,e⟩:=X;exact⟨I,f,z,G,D _ _ (.inl rfl) e⟩|a_ m=>obtain⟨I,f,G,a,e,Q⟩:=X;exact⟨I,f,G,a,D _ _ (.inl rfl) e,Q⟩|ey ba=>obtain⟨I,t,c,G,a,aw,d,e,Q⟩:=X;exact⟨I,t,c,G,a,aw,d,D _ _ (.inl rfl) e,Q⟩|lF ba=>
  obtain⟨I,t,m,G,a,aw,d,e,Q⟩:=X;exact⟨I,t,m,Paired.C4 G λN V I=>⟨I.1,i _ _ I.2.1,I.2.2⟩,a,aw,d,D _ _ (.inl rfl) e,Q⟩
 |set A z=>obtain⟨a,aw,d,n,e,Q⟩:=X;exact⟨a,aw,d,n,D _ _ (.inl rfl) e,Q⟩|e1 aJ bH av=>
  obtain⟨y,I,ne,e,e5,⟨g,aw,d,az,Q⟩,G⟩:=X;exact⟨h _ y,I,ne,D _ _ (.inl rfl) e,e5,⟨g,aw,d,D _ _ (.inr y) az,Q⟩,G⟩
 |e4 t=>obtain⟨a,e⟩:=X;exact⟨a,D _ _ (.inl rfl) e⟩|C2 av=>obtain⟨e5,⟨g,aw,d,e,Q⟩,G⟩:=X;exact⟨e5,⟨g,aw,d,D _ _ (.inl rfl) e,Q⟩,G⟩|rY a8 aB=>obtain⟨n,u,v,e⟩:=X;exact⟨n,u,v,D _ _ (.inl rfl) e⟩|h4 a u l=>obtain⟨e,V⟩:=X;exact⟨D _ _ (.inl rfl) e,l V⟩|mR pos B=>
  obtain⟨aF,e,n,w⟩:=X;exact⟨aF,D S _ (.inl rfl) e,n,λo V=>let⟨Q,a,c,n,q,s,x⟩:=w o V;⟨Q,a,c,n,q,j _ _ s,x⟩⟩
 |C3 w t=>
  have e:Y.get? S=E (CK (.ref w) (.ref t)):=X;show aE.get? S=E (CK (.ref w) (.ref t))
  exact D S _ (.inl rfl) e
 |ext F=>obtain⟨N,⟨C,e⟩,aU⟩:=X;exact⟨aU _ _ N λC V=>D _ _ (.inl rfl) V,⟨C,D _ _ (.inl rfl) e⟩,aU⟩
theorem gh.h6 (X:gh P r R Y)(e:R S=E C):S<Y.objs.size:=(X S C e).h6
theorem gh.fm (X:gh P r R Y)(e:Y.objs.size<=S):R S=k:=by
 cases V:R S with
 |none=>rfl|some u=>exact absurd (hY (X.h6 V) e) (rM _)
theorem gh.iB (X:gh P r R Y)(D:∀b u,Y.get? b=E u->aE.get? b=E u):gh P r R aE:=λS C e=>
 (X S C e).t4 (λb u _ V=>D b u V) (λ_ V=>V) λ_ _ V=>V
theorem gh.gR (X:gh P r R Y)(D:∀b u,Y.get? b=E u->aE.get? b=E u)(d:Y.objs.size<=S)(f:h5 P r (b8 R S C) aE S C):gh P r (b8 R S C) aE:=λb u e=>by
 have a:=X.fm d;by_cases c:b=S
 ·subst c;rw[js]at e;cases e;exact f
 ·rw[fN c]at e
  exact(X b u e).t4 (λQ v _ V=>D Q v V) (λQ V=>by rw[fN (rZ V a)];exact V) (λQ m V=>by rw[fN (rZ V a)];exact V) λQ g V=>by rw[fN (rZ V a)];exact V
end
def dZ (R:aj)(S:aV)(u:fF):Prop:=R S=E u\/∃C,R S=E (.h4 C u)
theorem dZ.i {P:cW}{r:cF}{R:aj}{Y:Heap}{S:aV}{u:fF}(G:dZ R S u)(X:gh P r R Y):h5 P r R Y S u:=by
 rcases G with G |⟨C,G⟩
 ·exact X S u G
 ·obtain⟨_,V⟩:=X S _ G
  exact V
noncomputable def v3:Option fF->Prop
 |some (.aG _)=>True
 |some (.ey _)=>True
 |some (.lF _)=>True
 |some (.set _ _)=>True
 |some (.e1 _ _ _)=>True
 |some (.ext _)=>True
 |_=>False
section
variable {P:cW}{r:cF}{R:aj}{Y aE:Heap}{X e:aV}{bS:fF}
theorem gh.qz (i:gh P r R Y)(a:v3 (R X))(g:e=X\/R e=E (.e4 X))(D:∀b u,b≠e->Y.get? b=E u->aE.get? b=E u)(j:∃u,aE.get? e=E u)
  (l:h5 P r (b8 R X bS) aE X bS):gh P r (b8 R X bS) aE:=λb u V=>by
 have h:∀Q t,R Q=E (.e4 t)->Q≠X:=λQ t G I=>by subst I;rw[G]at a;exact a
 have n:∀Q m,R Q=E (.a_ m)->Q≠X:=λQ m G I=>by subst I;rw[G]at a;exact a
 by_cases c:b=X
 ·subst c;rw[js]at V;cases V;exact l
 ·rw[fN c]at V
  by_cases d:b=e
  ·have cL:R b=E (.e4 X):=by
    rcases g with I |I
    ·exact absurd (d.trans I) c
    ·rw[d];exact I
   rw[V]at cL;cases cL;obtain⟨v,o⟩:=j;exact⟨v,by rw[d];exact o⟩
  ·refine(i b u V).t4 (λQ v f G=>D Q v ?_ G) (λQ G=>by rw[fN (h Q b G)];exact G) (λQ m G=>by rw[fN (n Q m G)];exact G) λQ q G=>by rw[fN (λI=>by subst I;rw[G]at a;exact a)];exact G
   rcases f with rfl |f
   ·exact d
   ·rintro rfl
    rcases g with I |I
    ·exact h Q b f I
    ·rw[f]at I;cases I;exact c rfl
end
structure ip (av aW:jT)(R aq:aj)(Y aE:Heap):Prop where
 e6:∀b C,Y.get? b=E C->R b=k->b∉av->b∉aW->aE.get? b=E C
 mS:∀b C,Y.get? b=E C->R b=k->b∈av->b∉aW->∃a,aE.get? b=E {C with slots:=a}
 ck:∀b C,Y.get? b=E C->R b=k->b∉aW->aq b=k
 there:∀b C,Y.get? b=E C->b∉aW->∃bS,aE.get? b=E bS
 qA:∀b m,R b=E (.a_ m)->aq b=E (.a_ m)
 r0:∀b C u,R b=E (.h4 C u)->aq b=E (.h4 C u)
 qB:∀b N V,R b=E (.mR N V)->aq b=E (.mR N V)
section
variable {av aW:jT}{R ar:aj}{Y ab aE:Heap}{S X e:aV}{C:fF}
theorem ip.dy (u:ip av aW R ar Y ab){b:aV}{a:iU}(V:Y.get? b=E a)(z:R b=k)(c:b∉aW):∃e,ab.get? b=E {a with slots:=e}:=by
 by_cases d:b∈av
 ·exact u.mS b a V z d c
 exact⟨a.slots,u.e6 b a V z d c⟩
theorem ip.iB (D:∀b u,Y.get? b=E u->aE.get? b=E u):ip av aW R R Y aE:=
 ⟨λb a V _ _ _=>D b a V,λb a V _ _ _=>⟨a.slots,D b a V⟩,λ_ _ _ z _=>z,λb a V _=>⟨a,D b a V⟩,λ_ _ V=>V,λ_ _ _ V=>V,λ_ _ _ V=>V⟩
theorem ip.fc:ip av aW R R Y Y:=ip.iB λ_ _ V=>V
theorem ip.gR (D:∀b u,Y.get? b=E u->aE.get? b=E u)(c:Y.objs.size<=S)(a:R S=k):ip av aW R (b8 R S C) Y aE where
 e6:=λb u V _ _ _=>D b u V
 mS:=λb u V _ _ _=>⟨u.slots,D b u V⟩
 ck:=λb u V z _=>by rwa[fN (gg (hY (eK V) c))]
 there:=λb u V _=>⟨u,D b u V⟩
 qA:=λb m V=>by rwa[fN (rZ V a)]
 r0:=λb u m V=>by rwa[fN (rZ V a)]
 qB:=λb eW cL V=>by rwa[fN (rZ V a)]
theorem ip.qz (f:v3 (R X))(i:e=X\/R e=E (.e4 X))(D:∀b u,b≠e->Y.get? b=E u->aE.get? b=E u)(g:∃u,aE.get? e=E u):ip av aW R (b8 R X C) Y aE:=by
 have h:∀b,R b=k->b≠X:=λb z I=>by subst I;rwa[z]at f
 have c:∀b,R b=k->b≠e:=λb z I=>by simp_all
 have a:∀b u,R b=E u->¬v3 (E u)->b≠X:=λb u V cI I=>by simp_all
 refine⟨λb u V z _ _=>D b u (c b z) V,λb u V z _ _=>⟨u.slots,D b u (c b z) V⟩,λb u V z _=>by rwa[fN (h b z)],λb u V _=>?_,
  λb m V=>by rwa[fN (a b _ V λI=>I)],λb u m V=>by rwa[fN (a b _ V λI=>I)],λb eW cL V=>by rwa[fN (a b _ V λI=>I)]⟩
 by_cases d:b=e
 ·subst d;exact g
 exact⟨u,D b u d V⟩
end
def R4 (Y:Heap)(R:aj):List aV:=(fl Y.objs.size).filter λS=>(R S).isSome
def pn (Y:Heap)(R:aj):Heap:=W.hideAll Y (R4 Y R)
theorem R5 (Y:Heap)(R:aj):(pn Y R).objs.size=Y.objs.size:=W.hideAll_size _ _
theorem R6 {Y:Heap}{R:aj}{b:aV}{C:iU}(e:Y.get? b=E C)(z:R b=k):(pn Y R).get? b=E C:=
 W.hideAll_get _ e λa=>by
  have V  := (Im.mp a).2;rw[z]at V;simp at V
theorem R7 {Y:Heap}{R:aj}{b:aV}{C:iU}(e:(pn Y R).get? b=E C):Y.get? b=E C/\R b=k:=by
 have a  := W.of_hideAll _ e;refine⟨a,?_⟩;cases V:R b with
 |none=>rfl|some X=>
  have I:(pn Y R).get? b=k:=W.hideAll_none _ (Im.mpr ⟨lD.mpr (eK a),by simp[V]⟩)
  grind
def R8 (J:bD):Option hk:=match gu J fb "put_in_order" with
 |some (E (.ref w))=>(match J.lookup w with
  |some ⟨_,_,.func bG,_⟩=>E bG|_=>k)
 |_=>k
noncomputable def R9 (b:FuncBody):Option Pos:=match b with
 |.stmts [.Return (E (.Call _ _ [⟨_,.Lambda _ _ _ pos,_⟩] _)) _]=>E pos|_=>k
def pq (J:bD):Option (aV×Pos×Str):=(CO J "put_in_order").bind λn=>(R8 J).bind λbG=>(R9 bG.body).map λpos=>(n.2,pos,bG.qualname ++ ".<locals>." ++ "<lambda>")
def v5 (J:bD)(R:aj):Prop:=∀P pos V,pq J=E (P,pos,V)->R P=E (.mR pos V)
structure Mod (J:bD)(a7:eu)(bg:Heap):Prop where
 v7:J.In bg
 ps:bg.Ns fb a7
 t5:∃b,bg.Ns builtinsNs b/\∀X:Str,X ≠ "__name__" -> b X=oc X
 nolimit:bg.NoLimit
 fw:∃fw a,a7 "__builtins__"=E (.ref fw)/\fw≠builtinsNs/\bg.get? fw=E a/\a.cls=.type "module" /\ a.dict=E builtinsNs/\a.data=.plain
set_option genInjectivity false in
structure bQ where
 cb:cW
 r:cF
 J:bD
 a7:Str->qw
 bg:Heap
 p:dp
 bw:cx
 jt:aY
 t6:aj
 x:Env
 mc:lE
 hn:lE
 aW:jT
 ho:Str->Bool
 fo:Bool
 aA:di
 e7:aR->aY->Prop
noncomputable def md (s:lE):List aV:=s.filterMap (·.frame)
abbrev bQ.av (H:bQ):List aV:=md H.mc
def t7 (a:Scope)(X:Str):Prop:=a.names.lookup X=E .local\/a.names.lookup X=E .cell\/a.names.lookup X=E .free
def t8 (a:Scope)(X:Str):Prop:=a.names.lookup X=E .local\/a.names.lookup X=E .cell
def R_ (x:Env)(Y:Heap)(h:eu)(X:Str)(u:aR):Prop:=
 (x.kindOf X=E .local/\h X=E u)\/((x.kindOf X=E .cell\/x.kindOf X=E .free)/\∃Q,x.cells.lookup X=E Q/\Y.IsCell Q (E u))
structure bQ.dR (H:bQ):Prop where
 dU:Mod H.J H.a7 H.bg
 hp:H.x.scope.kind=.function
 ps:H.x.globals=fb
 t5:H.x.builtins=builtinsNs
 above:H.jt.heap.objs.size<=H.x.locals
 inj:∀X t Q,H.x.cells.lookup X=E Q->H.x.cells.lookup t=E Q->X=t
 y7:∀X,(H.x.kindOf X=E .cell\/H.x.kindOf X=E .free)->∃Q,H.x.cells.lookup X=E Q
 v8:∀X Q,H.ho X=ae->H.x.cells.lookup X=E Q->H.jt.heap.objs.size<=Q
 gi:H.fo=ae->H.p.handled=k
 frames:H.p.frames=E H.hn
 y8:H.hn=H.mc\/(H.hn=H.x::H.mc/\H.x.frame=E H.x.locals)
 C5:∀b∈H.aW,b≠H.x.locals/\∀X Q,H.x.cells.lookup X=E Q->Q≠b
 f6:∀b C,H.bg.get? b=E C->H.jt.heap.get? b=E C/\H.t6 b=k
 pv:H.bg.objs.size<=H.jt.heap.objs.size
 r1:∀b C,H.bg.get? b=E C->b∉H.aW
 y9:∀b∈H.aW,b∉H.av
 mT:H.jt.heap.FunFrames H.bg H.mc
 r2:∀b∈H.av,H.t6 b=k
 c5:v5 H.J H.t6
theorem C6 {a:Model}{b:yp}{N:Pos}{n:Sem Cr}{av:List Frame}{A bc:aY}{e:End}(Y:Runs a b N n av A e bc):A.toks<=bc.toks:=by
 induction Y<;>(try simp only[Shared.setGen]at *)<;>lia
theorem y_ {ay:Type}{b:Model}{c:yp}{z:Nat}{n:Sem ay}:∀{q:ay->Pos->aY->Prop}{l:aR->Pos->aY->Prop}{N:Pos}{A:aY},z<=A.toks->Sem.wp b c n (λS N bc=>z<=bc.toks->q S N bc) (λe N bc=>z<=bc.toks->l e N bc) N A->Sem.wp b c n q l N A:=by
 induction n with
 |pure S=>intro q l N A s Y;rw[Sem.wp]at Y ⊢;exact Y s
 |raise e=>intro q l N A s Y;rw[Sem.wp]at Y ⊢;exact Y s
 |fresh D a=>intro q l N A s Y;rw[Sem.wp]at Y ⊢;exact a _ (Nat.le_succ_of_le s) Y
 |call Q Y g v D a=>
  intro q l N A s Y;rw[Sem.wp]at Y ⊢;obtain⟨G,bc,ab,af⟩:=Y;exact⟨G,bc,ab,a _ (jP s (C6 ab)) af⟩
 |resume g G v D a=>
  intro q l N A s Y;rw[Sem.wp]at Y ⊢;obtain⟨G,bc,ab,af⟩:=Y;refine⟨G,bc,ab,a _ (jP s ?_) af⟩;unfold Wakes at ab;split at ab
  ·exact ab.elim
  ·split at ab
   ·obtain⟨_,_,br,_,_,rfl⟩:=ab;exact(C6 br:(A.setGen g .running).toks<=_)
   ·rw[ab.2];exact cM _
   ·rw[ab.2];exact cM _
  ·obtain⟨_,_,br,_,_,rfl⟩:=ab;exact(C6 br:(A.setGen g .running).toks<=_)
  ·rw[ab.2];exact cM _
  ·rw[ab.2];exact cM _
 |load S N D a=>intro q l N A s Y;rw[Sem.wp]at Y ⊢;obtain⟨C,e,Y⟩:=Y;exact⟨C,e,a _ s Y⟩
 |genState g D a=>intro q l N A s Y;rw[Sem.wp]at Y ⊢;obtain⟨C,e,Y⟩:=Y;exact⟨C,e,a _ s Y⟩
 |update S N w D a=>intro q l N A s Y;rw[Sem.wp]at Y ⊢;exact⟨Y.1,a _ s Y.2⟩
 |choose S z D a=>intro q l N A s Y;rw[Sem.wp]at Y ⊢;exact⟨Y.1,a _ s Y.2⟩
 |_=>intro q l N A s Y;rw[Sem.wp]at Y ⊢;first |exact Y |(rename_i a;exact a _ s Y)
theorem j_ {ay:Type}{a:Model}{p:dp}{n:Sem ay}{q:ay->aY->Prop}{l:aR->aY->Prop}{A:aY}(Y:bM a p n (λS bc=>A.toks<=bc.toks->q S bc) (λe bc=>A.toks<=bc.toks->l e bc) A):bM a p n q l A:=λb N c=>y_ (cM _) (Y b N c)
theorem C7 {ay:Type}{a:Model}{b:yp}{n:Sem ay}{q c:ay->Pos->aY->Prop}{l d:aR->Pos->aY->Prop}{N:Pos}{A:aY}(Y:Sem.wp a b n q l N A)(ab:∀S N A,q S N A->c S N A)(af:∀S N A,l S N A->d S N A):Sem.wp a b n c d N A:=Sem.wp_mono a b n ab af N A Y
def nB {ay:Type}(n:Sem ay):Prop:=∀(a:Model) (b:yp) (z:Nat) (q:ay->Pos->aY->Prop) (l:aR->Pos->aY->Prop) (N:Pos) (A:aY),z<=A.toks->Sem.wp a b n (λS N bc=>z<bc.toks->q S N bc) l N A->Sem.wp a b n q l N A
theorem v9 {ay cQ:Type}{n:Sem ay}{D:ay->Sem cQ}(Y:nB n):nB (n>>=D):=λa b z q l N A s r=>by
 rw[Sem.wp_bind']at r ⊢;refine Y a b z _ l N A s (Sem.wp_mono a b n (λS eW bc r c=>?_) (λ_ _ _ I=>I) N A r)
 exact y_  c (C7 r (λ_ _ _ I=>I) (λ_ _ _ I _=>I))
theorem C8 {ay cQ:Type}{n:Sem ay}{D:ay->Sem cQ}(Y:∀S,nB (D S)):nB (n>>=D):=λa b z q l N A s r=>by
 rw[Sem.wp_bind']at r ⊢;exact y_ s (C7 r (λS eW bc r c=>Y S a b z q l eW bc c r) (λ_ _ _ I _=>I))
theorem Sa:nB fresh:=λa b z q l N A s r=>r (Nat.lt_succ_of_le s)
theorem Sb {a:aV}{X:Str}{v:aR}:nB (nsSet a X v):=C8 λ_=>v9 (v9 Sa)
theorem Jt {g:Str×aR->Sem Unit}:∀{a:pk},(∃b∈a,nB (g b))->nB (forIn a PUnit.unit λb (_:PUnit)=>do g b;pure (ForInStep.yield PUnit.unit))
 |[],Y=>by simp_all
 |b::a,Y=>by
  rw[yE];obtain⟨Q,c,h⟩:=Y;rcases df.mp c with rfl |c
  ·exact v9 (v9 h)
  ·intro d e z q l N A s r
   rw[Sem.wp_bind',Sem.wp_bind']at r ⊢;exact y_ s (C7 r (λS eW bc r f=>Jt ⟨Q,c,h⟩ d e z q l eW bc f r) (λ_ _ _ I _=>I))
theorem Sd {scope:Scope}{globals:aV}{c:pk}{qual:Str}{func:gv}{code:aR}{builtins:aV}(d:scope.kind=.function)(a:∃b∈c,scope.names.lookup b.1=E .local):
  nB (newFunctionEnv scope globals [] c qual func code k builtins):=by
 refine C8 λL=>C8 λe=>v9 ?_
 obtain⟨b,f,a⟩:=a;refine Jt ⟨b,f,?_⟩;rw[(storeName_local (env:={scope:=scope,locals:=L,globals:=globals,cells:=e,qual:=qual,func:=func,code:=code,frame:=E L,builtins:=builtins})  a (by rw[d];rfl) _)]
 exact Sb
theorem Se {ay:Type}{a:Model}{p:dp}{n:Sem ay}{q:ay->aY->Prop}{l:aR->aY->Prop}{A:aY}(h:nB n)(Y:bM a p n (λS bc=>0<bc.toks->q S bc) l A):bM a p n q l A:=λb N c=>h a b 0 _ _ N A (jl _) (Y b N c)
structure a6 (H:bQ)(ag:di)(o:List h2)(R:aj)(A:aY):Prop where
 i:H.dR
 os:A.os=H.jt.os
 kZ:AllBare A.gens
 bg:ip H.av H.aW H.t6 R H.jt.heap A.heap
 ka:∃h,A.heap.Ns H.x.locals h/\∀(O:Nat) (X:Str) (v:aL),H.bw[O]?=E X->o[O]?=E (E v)->t7 H.x.scope X->∃u,cc v u/\R_ H.x A.heap h X u
 kI:∀X Q,H.x.cells.lookup X=E Q->∃v,A.heap.IsCell Q v
 ck:R H.x.locals=k
 oj:∀X Q,H.x.cells.lookup X=E Q->R Q=k
 eM:∀N∈H.aA++ag,A.heap.get? N.1=E N.2/\R N.1=k/\N.1≠H.x.locals/\N.1∉H.av/\∀v,N.2.data≠.cell v
 cA:gh H.cb H.r R A.heap
 b6:o.length=H.bw.length
 tk:0<A.toks
section
variable {H:bQ}{ag:di}{o:List h2}{R aq:aj}{A:aY}{aE:Heap}
theorem bQ.dR.Sf (a:H.dR){b:aV}{C:iU}(e:H.bg.get? b=E C):b∉H.av:=λc=>by
 have:=(a.mT.mem c).1;simp_all
theorem a6.f6 (a:a6 H ag o R A):∀b C,H.bg.get? b=E C->A.heap.get? b=E C/\R b=k:=λb C e=>
 ⟨a.bg.e6 b C (a.i.f6 b C e).1 (a.i.f6 b C e).2 (a.i.Sf e) (a.i.r1 b C e),a.bg.ck b C (a.i.f6 b C e).1 (a.i.f6 b C e).2 (a.i.r1 b C e)⟩
theorem a6.c5 (a:a6 H ag o R A):v5 H.J R:=λP N V e=>a.bg.qB _ _ _ (a.i.c5 P N V e)
theorem a6.gE (a:a6 H ag o R A):∀b C,H.bg.get? b=E C->A.heap.get? b=E C:=λb C e=>(a.f6 b C e).1
theorem a6.dU (a:a6 H ag o R A):Mod H.J H.a7 H.bg:=a.i.dU
theorem a6.gS (a:a6 H ag o R A):H.J.In A.heap:=a.i.dU.v7.keeps a.gE
theorem a6.h6 (a:a6 H ag o R A):H.x.locals<A.heap.objs.size:=let⟨_,b,_⟩:=a.ka;b.lt
theorem a6.za (a:a6 H ag o R A):H.jt.heap.objs.size<=A.heap.objs.size:=jP a.i.above (vP a.h6)
theorem a6.Sg (a:a6 H ag o R A){S:aV}(Y:A.heap.objs.size<=S):S∉H.av:=λb=>by
 obtain⟨_,C,c,_⟩:=a.i.mT.mem b;exact absurd (hY (eK c) (jP a.za Y)) (rM _)
theorem a6.C9 (a:a6 H ag o R A):∀X Q,H.x.cells.lookup X=E Q->Q≠H.x.locals:=λX Q e I=>by
 obtain⟨v,C,b,c⟩:=a.kI X Q e;obtain⟨h,⟨bS,aw,d,f,g,_⟩,_⟩:=a.ka;simp_all
theorem a6.mT (a:a6 H ag o R A):A.heap.FunFrames H.bg H.mc:=by
 have h:∀(s:lE),(∀b∈md s,b∈H.av)->H.jt.heap.FunFrames H.bg s->A.heap.FunFrames H.bg s:=by
  intro s;induction s with
  |nil=>intro _ _;trivial
  |cons x G i=>
   intro g j;obtain⟨l,⟨L,C,c,m,n,q⟩,r⟩:=j;have d  := g L (by unfold md;rw[vG,c];exact ek)
   obtain⟨t,e⟩:=a.bg.mS L C n (a.i.r2 L d) d λI=>a.i.y9 L I d
   exact⟨l,⟨L,_,c,m,e,q⟩,i (λb f=>g b (by unfold md;rw[vG,c];exact fM _ f)) r⟩
 exact h _ (λ_ f=>f) a.i.mT
theorem a6.hn (a:a6 H ag o R A):A.heap.FunFrames H.bg H.hn:=by
 rcases a.i.y8 with e |⟨e,b⟩
 ·rw[e];exact a.mT
 ·rw[e]
  obtain⟨h,c,_⟩:=a.ka;refine .cons (by rw[a.i.hp];decide) b c ?_ a.mT
  exact Heap.get?_none_of_le (jP a.i.pv a.i.above)
theorem a6.zb (c:a6 H ag o R A):∀b∈md H.hn,b∈H.x.locals::H.av:=λb a=>by
 rcases c.i.y8 with e |⟨e,d⟩
 ·rw[e]at a;exact fM _ a
 ·rw[e]at a
  unfold md at a;rwa[vG,d]at a
theorem a6.Ju (a:a6 H ag o R A):∀b∈md H.hn,R b=k:=λb c=>by
 rcases df.mp (a.zb b c)with e |c
 ·rw[e];exact a.ck
 ·obtain⟨_,C,d,_⟩:=a.i.mT.mem c
  exact a.bg.ck b C d (a.i.r2 b c) λI=>a.i.y9 b I c
theorem a6.step {w:Array GenState}{x:Nat}{dO:Drawn}{d:jT}(a:a6 H ag o R A)
  (i:∀b∈d,(b∈H.aW\/H.jt.heap.objs.size<=b)/\b≠H.x.locals/\(∀X Q,H.x.cells.lookup X=E Q->Q≠b)/\∀N∈H.aA++ag,N.1≠b)
  (q:∀b C,b≠H.x.locals->b∉H.av->b∉d->A.heap.get? b=E C->R b=k->aE.get? b=E C)
  (B:∀b C,b≠H.x.locals->b∈H.av->b∉d->A.heap.get? b=E C->R b=k->∃r,aE.get? b=E {C with slots:=r}) (l:∀b C,b∉d->A.heap.get? b=E C->R b=k->aq b=k)
  (P:∀b C,b∉d->A.heap.get? b=E C->∃bS,aE.get? b=E bS)
  (S:∀b m,R b=E (.a_ m)->aq b=E (.a_ m)) (T:∀b C u,R b=E (.h4 C u)->aq b=E (.h4 C u)) (U:∀b N V,R b=E (.mR N V)->aq b=E (.mR N V))
  (W:∀h,A.heap.Ns H.x.locals h->aE.Ns H.x.locals h) (Y:gh H.cb H.r aq aE) (Z:AllBare w) (aa:0<x):
  a6 H ag o aq {A with heap:=aE,gens:=w,drawn:=dO,toks:=x}:=by
 have F:∀b C,H.jt.heap.get? b=E C->b≠H.x.locals:=λb C e=>gg (hY (eK e) a.i.above)
 have n:∀b C,H.jt.heap.get? b=E C->b∉H.aW->b∉d:=λb C e c f=>by
  rcases(i b f).1 with I |I
  ·exact c I
  ·exact absurd (hY (eK e) I) (rM _)
 have J:∀X Q,H.x.cells.lookup X=E Q->∀v,A.heap.IsCell Q v->aE.IsCell Q v:=λX Q e v ⟨C,g,t⟩=>by
  have j:Q∉d:=λI=>(i Q I).2.2.1 X Q e rfl
  by_cases K:Q∈H.av
  ·obtain⟨r,V⟩:=B Q C (a.C9 X Q e) K j g (a.oj X Q e)
   exact⟨_,V,t⟩
  ·exact⟨C,q Q C (a.C9 X Q e) K j g (a.oj X Q e),t⟩
 refine⟨a.i,a.os,Z,⟨λb C e z f c=>?_,λb C e z f c=>?_,λb C e z c=>?_,λb C e c=>?_,λb m e=>S b m (a.bg.qA b m e),λb C m e=>T b C m (a.bg.r0 b C m e),λb N V e=>U b N V (a.bg.qB b N V e)⟩,?_,λX Q e=>?_,?_,λX Q e=>?_,λN L=>?_,Y,a.b6,aa⟩
 ·exact q b C (F b C e) f (n b C e c) (a.bg.e6 b C e z f c) (a.bg.ck b C e z c)
 ·obtain⟨r,aN⟩:=a.bg.mS b C e z f c
  obtain⟨ab,az⟩:=B b _ (F b C e) f (n b C e c) aN (a.bg.ck b C e z c);exact⟨ab,az⟩
 ·obtain⟨bS,aN⟩:=a.bg.there b C e c
  exact l b bS (n b C e c) aN (a.bg.ck b C e z c)
 ·obtain⟨bS,aN⟩:=a.bg.there b C e c
  exact P b bS (n b C e c) aN
 ·obtain⟨h,ac,af⟩:=a.ka
  refine⟨h,W h ac,λO X v aN az ah=>?_⟩
  obtain⟨u,G,s⟩:=af O X v aN az ah;refine⟨u,G,?_⟩;rcases s with s |⟨D,Q,e,I⟩
  ·exact .inl s
  ·exact .inr ⟨D,Q,e,J X Q e _ I⟩
 ·obtain⟨v,I⟩:=a.kI X Q e
  exact⟨v,J X Q e v I⟩
 ·obtain⟨h,⟨C,_,_,g,_⟩,_⟩:=a.ka
  exact l _ C (λI=>(i _ I).2.1 rfl) g a.ck
 ·obtain⟨v,C,g,t⟩:=a.kI X Q e
  exact l Q C (λI=>(i Q I).2.2.1 X Q e rfl) g (a.oj X Q e)
 ·obtain⟨e,z,ne,M,y⟩:=a.eM N L
  have j:N.1∉d:=λI=>(i N.1 I).2.2.2 N L rfl
  exact⟨q N.1 N.2 ne M j e z,l N.1 N.2 j e z,ne,M,y⟩
theorem a6.aH {d:Nat}(a:a6 H ag o R A)(u:ip H.av [] R aq A.heap aE)(i:gh H.cb H.r aq aE)(j:0<d:=by fail "0"):a6 H ag o aq {A with heap:=aE,toks:=d}:=by
 obtain⟨h,⟨C,aw,s,f,G⟩,_⟩:=id a.ka;obtain⟨t,l⟩:=u.dy f a.ck (by simp)
 exact a.step (w:=A.gens) (dO:=A.drawn) (d:=[]) (λ_ I=>nomatch I) (λb C _ c _ e z=>u.e6 b C e z c (by simp)) (λb C _ c _ e z=>u.mS b C e z c (by simp)) (λb C _ e z=>u.ck b C e z (by simp)) (λb C _ e=>u.there b C e (by simp)) u.qA u.r0 u.qB (λv m=>by
  obtain⟨bS,n,q,g,r⟩:=m;rw[f]at g;cases g;exact⟨_,n,q,l,r⟩) i a.kZ j
theorem a6.b7 {g:Array GenState}{i:Nat}{dO:Drawn}{d:jT}(c:a6 H ag o R A)(u:ip (md H.hn) d R aq A.heap aE)(n:gh H.cb H.r aq aE)(q:AllBare g)
  (j:∀b∈d,(b∈H.aW\/H.jt.heap.objs.size<=b)/\b≠H.x.locals/\(∀X Q,H.x.cells.lookup X=E Q->Q≠b)/\∀N∈H.aA++ag,N.1≠b) (r:0<i:=by fail "0"):
  a6 H ag o aq {A with heap:=aE,gens:=g,drawn:=dO,toks:=i}:=by
 obtain⟨h,⟨C,aw,y,l,G⟩,_⟩:=id c.ka;obtain⟨B,f⟩:=u.dy l c.ck λI=>(j _ I).2.1 rfl
 exact c.step (d:=d) j (λb C f s a e z=>u.e6 b C e z (λI=>(df.mp (c.zb b I)).elim f s) a) (λb C _ _ a e z=>u.dy e z a) (λb C a e z=>u.ck b C e z a) (λb C a e=>u.there b C e a) u.qA u.r0 u.qB (λD t=>by
  obtain⟨bS,v,w,m,x⟩:=t;rw[l]at m;cases m;exact⟨_,v,w,f,x⟩) n q r
theorem a6.nC {f:Nat}{a:aV}(d:a6 H ag o R A)(D:∀b C,b≠a->A.heap.get? b=E C->aE.get? b=E C)(j:R a=k)(g:a≠H.x.locals)
  (ab:a∈H.aW\/H.jt.heap.objs.size<=a) (af:∀X Q,H.x.cells.lookup X=E Q->Q≠a) (br:∀N∈H.aA++ag,N.1≠a) (l:0<f:=by fail "0"):a6 H ag o R {A with heap:=aE,toks:=f}:=by
 have i:∀b u,R b=E u->b≠a:=λb u e I=>by rw[I,j]at e;cases e
 refine d.step (w:=A.gens) (dO:=A.drawn) (d:=[a]) (λb m=>?_) (λb C _ _ c e _=>D b C (λI=>c (by simp[I])) e) (λb C _ _ c e _=>⟨C.slots,D b C (λI=>c (by simp[I])) e⟩) (λ_ _ _ _ z=>z)
  (λb C c e=>⟨C,D b C (λI=>c (by simp[I])) e⟩) (λ_ _ e=>e) (λ_ _ _ e=>e) (λ_ _ _ e=>e) (λh n=>?_) (λb u e=>?_) d.kZ l
 ·have e:b=a:=by simpa using m
  subst e;exact⟨ab,g,af,br⟩
 ·obtain⟨C,aw,q,r,G⟩:=n
  exact⟨C,aw,q,D _ C (oh g) r,G⟩
 ·refine(d.cA b u e).t4 (λQ v c V=>D Q v ?_ V) (λ_ V=>V) λ_ _ V=>V
  rcases c with I |I
  ·rw[I];exact i b u e
  ·exact i Q _ I
theorem a6.fX (a:a6 H ag o R A)(n:Nat)(b:0<n:=by fail "0"):a6 H ag o R {A with toks:=n}:=a.aH   ip.fc a.cA b
theorem a6.iB {a:Nat}(c:a6 H ag o R A)(D:∀b u,A.heap.get? b=E u->aE.get? b=E u)(d:0<a:=by fail "0"):a6 H ag o R {A with heap:=aE,toks:=a}:=c.aH (ip.iB D) (c.cA.iB D) d
theorem a6.gR {S:aV}{C:fF}{d:Nat}(a:a6 H ag o R A)(D:∀b u,A.heap.get? b=E u->aE.get? b=E u)(c:A.heap.objs.size<=S)(e:h5 H.cb H.r (b8 R S C) aE S C)(f:0<d:=by fail "0"):
  a6 H ag o (b8 R S C) {A with heap:=aE,toks:=d}:=a.aH (ip.gR D c (a.cA.fm c)) (a.cA.gR D c e) f
theorem a6.qz {X e:aV}{C:fF}{a:Nat}(c:a6 H ag o R A)(d:v3 (R X))(f:e=X\/R e=E (.e4 X))(D:∀b u,b≠e->A.heap.get? b=E u->aE.get? b=E u)(g:∃u,aE.get? e=E u)
  (h:h5 H.cb H.r (b8 R X C) aE X C) (i:0<a:=by fail "0"):a6 H ag o (b8 R X C) {A with heap:=aE,toks:=a}:=c.aH (ip.qz d f D g) (c.cA.qz d f D g h) i
theorem a6.C_ {b:di}(a:a6 H ag o R A)(Y:∀N∈b,A.heap.get? N.1=E N.2/\R N.1=k/\N.1≠H.x.locals/\N.1∉H.av/\∀v,N.2.data≠.cell v):a6 H b o R A:=
 ⟨a.i,a.os,a.kZ,a.bg,a.ka,a.kI,a.ck,a.oj,λN c=>(g0.mp c).elim (λI=>a.eM N (yw _ I)) (Y N),a.cA,a.b6,a.tk⟩
theorem Jv {bw:cx}(a:bw.Nodup){O j:Nat}{X:Str}(S:bw[O]?=E X)(b:bw[j]?=E X):O=j:=by
 obtain⟨ab,aN⟩:=hF.mp S;obtain⟨af,az⟩:=hF.mp b;exact(List.getElem_inj a).mp (aN.trans az.symm)
theorem Sh {ah:Model}{p:dp}{l:aR->aY->Prop}{O:Nat}{X:Str}{v:aL}{u:aR}{q:Unit->aY->Prop}(a:a6 H ag o R A)(P:H.bw.Nodup)(aB:H.bw[O]?=E X)(f:t8 H.x.scope X)(G:cc v u)
  (Y:∀bc,a6 H ag (o.set O (E v)) R bc->(∃S,rL S A.heap bc.heap/\(S=H.x.locals\/H.x.cells.lookup X=E S))->q () bc) (aj:H.ho X=ae\/H.x.scope.names.lookup X=E .local:=by fail "1"):bM ah p (storeName H.x X u) q l A:=by
 obtain⟨h,r,T⟩:=id a.ka;have ak:(H.x.scope.kind == .class ||(H.x.scope.kind == .module && H.x.locals != H.x.globals))=ax:=by rw[a.i.hp];rfl
 have U:O<o.length:=by rw[a.b6];exact(hF.mp aB).1
 have s:=a.C9;have W:∀{S:aV}{aE:Heap},(∃C,A.heap.get? S=E C/\R S=k)->rL S A.heap aE->gh H.cb H.r R aE:=λ{S aE} al c b am e=>by
  obtain⟨_,_,Z⟩:=al;refine(a.cA b am e).t4 (λQ n d V=>(c.2 Q ?_).trans V) (λ_ V=>V) λ_ _ V=>V
  rintro rfl;rcases d with rfl |d
  ·rw[Z]at e;cases e
  ·rw[Z]at d;cases d
 rcases f with g |g
 ·refine wpAny_storeName_local g r (λaE an c=>?_) ak
  obtain⟨ao,_,_,ap,_⟩:=id r;refine Y _ ⟨a.i,a.os,a.kZ,⟨λb C e z i f=>?_,λb C e z i f=>?_,a.bg.ck,λb C e f=>?_,a.bg.qA,a.bg.r0,a.bg.qB⟩,⟨_,an,λj t w aN az x=>?_⟩,λt Q e=>?_,a.ck,a.oj,λN B=>?_,W ⟨ao,ap,a.ck⟩ c,by simpa using a.b6,Co _⟩ ⟨_,c,.inl rfl⟩
  ·exact(c.2 b (gg (hY (eK e) a.i.above))).trans (a.bg.e6 b C e z i f)
  ·obtain⟨F,aN⟩:=a.bg.mS b C e z i f
   exact⟨F,(c.2 b (gg (hY (eK e) a.i.above))).trans aN⟩
  ·obtain⟨bS,aN⟩:=a.bg.there b C e f
   exact⟨bS,(c.2 b (gg (hY (eK e) a.i.above))).trans aN⟩
  ·by_cases m:j=O
   ·subst m
    rw[aB]at aN;cases aN;rw[tN U]at az;cases az;exact⟨u,G,.inl ⟨g,by simp⟩⟩
   ·rw[jO (oh m)]at az
    obtain⟨J,K,V⟩:=T j t w aN az x;refine⟨J,K,?_⟩;rcases V with⟨D,e⟩|⟨D,Q,e,I⟩
    ·refine .inl ⟨D,?_⟩
     have:t≠X:=λe=>m (Jv P aN (e ▸ aB))
     simp[this,e]
    ·exact .inr ⟨D,Q,e,I.sameBut c (s t Q e)⟩
  ·obtain⟨n,I⟩:=a.kI t Q e
   exact⟨n,I.sameBut c (s t Q e)⟩
  ·obtain⟨e,z,ne,L,y⟩:=a.eM N B
   exact⟨(c.2 N.1 ne).trans e,z,ne,L,y⟩
 ·have M:H.ho X=ae:=by
   rcases aj with I |I
   ·exact I
   ·rw[I]at g;cases g
  obtain⟨Q,d⟩:=a.i.y7 X (.inl g);obtain⟨n,I⟩:=a.kI X Q d;refine wpAny_storeName_cell a.i.hp g d I (λaE aa c=>?_)
  obtain⟨ab,ac,aq⟩:=id I;refine Y {A with heap:=aE} ⟨a.i,a.os,a.kZ,⟨λb C e z i f=>?_,λb C e z i f=>?_,a.bg.ck,λb C e f=>?_,a.bg.qA,a.bg.r0,a.bg.qB⟩,⟨h,r.sameBut c (oh (s X Q d)),λj t w aN az x=>?_⟩,λt cR e=>?_,a.ck,a.oj,λN B=>?_,W ⟨ab,ac,a.oj X Q d⟩ c,by simpa using a.b6,a.tk⟩ ⟨Q,c,.inr d⟩
  ·exact(c.2 b (gg (hY (eK e) (a.i.v8 X Q M d)))).trans (a.bg.e6 b C e z i f)
  ·obtain⟨F,aN⟩:=a.bg.mS b C e z i f
   exact⟨F,(c.2 b (gg (hY (eK e) (a.i.v8 X Q M d)))).trans aN⟩
  ·obtain⟨bS,aN⟩:=a.bg.there b C e f
   exact⟨bS,(c.2 b (gg (hY (eK e) (a.i.v8 X Q M d)))).trans aN⟩
  ·by_cases m:j=O
   ·subst m
    rw[aB]at aN;cases aN;rw[tN U]at az;cases az;exact⟨u,G,.inr ⟨.inl g,Q,d,aa⟩⟩
   ·rw[jO (oh m)]at az
    obtain⟨J,K,V⟩:=T j t w aN az x;refine⟨J,K,?_⟩;rcases V with V |⟨D,cR,e,ar⟩
    ·exact .inl V
    ·refine .inr ⟨D,cR,e,ar.sameBut c ?_⟩
     rintro rfl;exact m (Jv P aN (a.i.inj _ _ _ e d ▸ aB))
  ·by_cases af:cR=Q
   ·subst af;exact⟨_,aa⟩
   ·obtain⟨as,au⟩:=a.kI t cR e
    exact⟨as,au.sameBut c af⟩
  ·obtain⟨e,z,ne,L,y⟩:=a.eM N B
   refine⟨(c.2 N.1 ?_).trans e,z,ne,L,y⟩;intro V;rw[V,ac]at e;have cL:ab=N.2:=jQ e;exact y n (by rw[<- cL];exact aq)
theorem Jw {a:Model}{p:dp}{l:aR->aY->Prop}{O:Nat}{X:Str}{v:aL}{u:aR}{q:Unit->aY->Prop}(b:a6 H ag o R A)(c:H.bw.Nodup)(aB:H.bw[O]?=E X)(d:t8 H.x.scope X)(G:cc v u)
  (Y:∀bc,a6 H ag (o.set O (E v)) R bc->q () bc) (e:H.ho X=ae\/H.x.scope.names.lookup X=E .local:=by fail "1"):bM a p (storeName H.x X u) q l A:=
 Sh b c aB d G (λbc f _=>Y bc f) e
theorem a6.Si {bc:aY}{a:jT}(c:a6 H ag o R A)(d:bc.os=A.os)(u:ip (md H.hn) a R aq A.heap bc.heap)(f:gh H.cb H.r aq bc.heap)(g:AllBare bc.gens)
  (h:∀b∈a,(b∈H.aW\/H.jt.heap.objs.size<=b)/\b≠H.x.locals/\(∀X Q,H.x.cells.lookup X=E Q->Q≠b)/\∀N∈H.aA++ag,N.1≠b) (i:0<bc.toks:=by fail "0"):a6 H ag o aq bc:=by
 obtain⟨aE,j,dO,l,bS⟩:=bc;have e:bS=A.os:=d;subst e;exact c.b7 (g:=j) (i:=l) (dO:=dO) u f g h i
end
abbrev b4:=aR->gv->aj->Prop
noncomputable abbrev bU:=List h2
abbrev bX:=aL->aj->Prop
abbrev bN:=bU->aj->bX->Prop
abbrev f7:=bU->aj->(Bool->aj->Prop)->Prop
abbrev fg:=bU->aj->(List aL->aj->Prop)->Prop
structure r3 where
 de:bU->aj->Prop
 en:bX
 gE:bU->aj->Prop:=λ_ _=>False
 iC:bU->aj->Prop:=λ_ _=>False
abbrev fY:=r3->bU->aj->Prop
def kb (H:bQ)(ag:di)(o:bU)(q:bX)(u:aR)(bc:aY):Prop:=∃v aq,a6 H ag o aq bc/\cc v u/\q v aq
def Dc (H:bQ)(ag:di)(o:bU)(q:Bool->aj->Prop)(b:Bool)(bc:aY):Prop:=∃aq,a6 H ag o aq bc/\q b aq
def Sj (H:bQ)(ag:di)(o:bU)(q:a3->aj->Prop)(aa:cu)(bc:aY):Prop:=∃c aq,a6 H ag o aq bc/\b3 c aa/\q c aq
def r4 (H:bQ)(ag:di)(b:r3)(w:Flow)(bc:aY):Prop:=
 match w with
 |.next=>∃a aq,a6 H ag a aq bc/\b.de a aq|.brk=>∃a aq,a6 H ag a aq bc/\b.gE a aq|.cont=>∃a aq,a6 H ag a aq bc/\b.iC a aq|.ret u=>∃v a aq,a6 H ag a aq bc/\cc v u/\b.en v aq
def bt (H:bQ)(e:bI)(n:bN):Prop:=
 ∀(ag:di) (A:aY) (o:bU) (R:aj) (q:bX),a6 H ag o R A->n o R q->bM (model H.cb H.r) H.p (eval e H.x) (kb H ag o q) H.e7 A
def hq (H:bQ)(e:bI)(n:f7):Prop:=
 ∀(ag:di) (A:aY) (o:bU) (R:aj) (q:Bool->aj->Prop),a6 H ag o R A->n o R q->bM (model H.cb H.r) H.p (isTrue e H.x (eval e H.x)) (Dc H ag o q) H.e7 A
def om (H:bQ)(e:bI)(n:f7):Prop:=
 ∀(a:Sem aR) (ag:di) (A:aY) (o:bU) (R:aj) (q:Bool->aj->Prop),a6 H ag o R A->n o R q->bM (model H.cb H.r) H.p (isTrue e H.x a) (Dc H ag o q) H.e7 A
theorem om.kJ {H:bQ}{e:bI}{n:f7}(Y:om H e n):hq H e n:=Y _
def gF (H:bQ)(aw:ew)(n:fg):Prop:=
 ∀(pos:Pos) (ag:di) (A:aY) (o:bU) (R:aj) (q:a3->aj->Prop),a6 H ag o R A->n o R q->bM (model H.cb H.r) H.p (spliced (h1 pos (ej aw H.x))) (Sj H ag o q) H.e7 A
def ju (H:bQ)(aU:d4)(n:fY):Prop:=
 ∀(ag:di) (A:aY) (o:bU) (R:aj) (a:r3),a6 H ag o R A->n a o R->bM (model H.cb H.r) H.p (exec aU H.x) (r4 H ag a) H.e7 A
def me (H:bQ)(aU:jo)(n:fY):Prop:=
 ∀(ag:di) (A:aY) (o:bU) (R:aj) (a:r3),a6 H ag o R A->n a o R->bM (model H.cb H.r) H.p (execs aU H.x) (r4 H ag a) H.e7 A
theorem b9 {ay:Type}{n:Sem ay}{q a:ay->aY->Prop}{b:Model}{p:dp}{l:aR->aY->Prop}{A:aY}(Y:bM b p n q l A)(c:∀S A,q S A->a S A):bM b p n a l A:=kC Y c λ_ _ X=>X
section
variable {H:bQ}
def Sk (O:Nat):bN:=λo R q=>∃v,o[O]?=E (E v)/\q v R
def gG (v:aL):bN:=λ_ R q=>q v R
theorem Sl {O:Nat}{X:Str}{pos:Pos}(i:H.bw[O]?=E X)(j:t7 H.x.scope X)(c:(X==("__debug__":Str))=ax:=by decide)(l:(X==("__classdict__":Str))=ax:=by decide):bt H (.Name X pos) (Sk O):=by
 intro ag A o R q b Y;obtain⟨v,e,Y⟩:=Y;obtain⟨h,m,n⟩:=b.ka;obtain⟨u,G,s⟩:=n O X v i e j;have d:kb H ag o q u A:=⟨v,R,b,G,Y⟩;rcases s with⟨a,r⟩|⟨a,Q,f,g⟩
 ·exact wpAny_Name (wpAny_loadName_local b.i.hp a m r d) c
 ·rcases a with a |a
  ·exact wpAny_Name (wpAny_loadName_cell b.i.hp a f g d) c
  exact wpAny_Name (wpAny_loadName_free b.i.hp a f g d l) c
theorem Dd {O j pos}:bt H (.Constant (.int O) j pos) (gG (.d O)):=λ_ _ _ R _ a Y=>wpAny_Constant_int ⟨.d O,R,a.fX _,⟨_,rfl⟩,Y⟩
theorem Sm {b j pos}:bt H (.Constant (.bool b) j pos) (gG (.aM b)):=λ_ _ _ R _ a Y=>Constant_bool ⟨.aM b,R,a,rfl,Y⟩
theorem Sn {j pos}:bt H (.Constant .none j pos) (gG .a9):=λ_ _ _ R _ a Y=>Constant_none ⟨.a9,R,a,rfl,Y⟩
theorem So {X j pos}:bt H (.Constant (.str X) j pos) (gG (.f X)):=λ_ _ _ R _ a Y=>Calls.Constant_str ⟨.f X,R,a.fX _,⟨_,rfl⟩,Y⟩
def iD (H:bQ)(X:Str):Prop:=H.x.kindOf X=E .globalImplicit
theorem v_ {l:aR->aY->Prop}{ag:di}{A:aY}{o:bU}{R:aj}{X:Str}{u:aR}{pos:Pos}{q:aR->aY->Prop}(a:a6 H ag o R A)(b:iD H X)(c:H.a7 X=E u)(Y:q u A)
  (d:(X==("__debug__":Str))=ax:=by decide):bM (model H.cb H.r) H.p (eval (.Name X pos) H.x) q l A:=
 Calls.Name_function_global a.i.hp b (Calls.loadGlobal_global (by rw[a.i.ps];exact a.dU.ps.keeps a.gE) c Y) d
theorem r5 {l:aR->aY->Prop}{ag:di}{A:aY}{o:bU}{R:aj}{X:Str}{u:aR}{pos:Pos}{q:aR->aY->Prop}(a:a6 H ag o R A)(b:iD H X)(c:H.a7 X=k)(d:oc X=E u)(Y:q u A)
  (e:X ≠ "__name__":=by decide) (f:(X==("__debug__":Str))=ax:=by decide):bM (model H.cb H.r) H.p (eval (.Name X pos) H.x) q l A:=by
 obtain⟨g,ab,af⟩:=a.dU.t5;exact Calls.Name_function_global a.i.hp b (Calls.loadGlobal_builtin (by rw[a.i.ps];exact a.dU.ps.keeps a.gE) c (by rw[a.i.t5];exact ab.keeps a.gE) ((af X e).trans d) Y) f
theorem Sp {X:Str}{v:aL}{u:aR}{pos:Pos}(b:iD H X)(c:H.a7 X=E u)(G:cc v u)(d:(X==("__debug__":Str))=ax:=by decide):bt H (.Name X pos) (gG v):=
 λ_ _ _ R _ a Y=>v_ a b c ⟨v,R,a,G,Y⟩ d
theorem Sq {X:Str}{v:aL}{u:aR}{pos:Pos}(b:iD H X)(c:H.a7 X=k)(d:oc X=E u)(G:cc v u)(e:X ≠ "__name__":=by decide)(f:(X==("__debug__":Str))=ax:=by decide):bt H (.Name X pos) (gG v):=
 λ_ _ _ R _ a Y=>r5 a b c d ⟨v,R,a,G,Y⟩ e f
variable {S:bI}{pos:Pos}
variable {mf:f7}
def Sr (n:f7):f7:=λo R q=>n o R λQ ar=>q (!Q) ar
theorem Jx (a:hq H S mf):om H (.BoolOp .And [S] pos) mf:=by
 intro c ag A o R q b Y;refine isTrue_and (b9 (a ag A o R q b Y) λQ bh e=>?_)
 cases Q with
 |true=>exact isTrue_and_nil e|false=>exact e
theorem Ss (a:hq H S mf):om H (.BoolOp .Or [S] pos) mf:=by
 intro c ag A o R q b Y;refine isTrue_or (b9 (a ag A o R q b Y) λQ bh e=>?_)
 cases Q with
 |false=>exact isTrue_or_nil e|true=>exact e
theorem Su (a:hq H S mf):hq H (.UnaryOp .Not S pos) (Sr mf):=by
 intro ag A o R q b Y;exact isTrue_not (a ag A o R _ b Y)
theorem Jy {wa}{n:bN}(Y:bt H S n):bt H (.BoolOp wa [S] pos) n:=λag A o R q a hw=>BoolOp_one (Y ag A o R q a hw)
end
def dG (J:bD)(R:aj)(S:aV)(m:a3):Prop:=
 dZ R S (.aG m) \/
  ∃(C:iU) (a:g5) (z:Nat),J.lookup S=E C/\C.cls=.type "list" /\ C.dict=k/\C.data=.seq a z/\a.size<=cw/\b3 m a.toList
def fx (J:bD)(R:aj)(S:aV)(m:a3):Prop:=
 dZ R S (.a_ m) \/
  ∃(C:iU) (a:g5) (z:Nat),J.lookup S=E C/\C.cls=.type "tuple" /\ C.data=.seq a z/\a.size<=cw/\b3 m a.toList
noncomputable def Sv:aR->h2
 |.none=>E .a9|.bool b=>E (.aM b)|.int O _=>E (.d O)|.str X _=>E (.f X)|.bytes b _=>E (.Js b)|.float b _=>E (.vZ b)|.ref S=>E (.a0 S)|.type z=>E (.fW z)|_=>k
theorem cc.Jz {X:aL}{u:aR}(G:cc X u):Sv u=E X:=by
 cases X with
 |a9=>cases (G);rfl|aM _=>cases (G);rfl|a0 _=>cases (G);rfl|fW _=>cases (G);rfl |_=>obtain⟨n,rfl⟩:=G;rfl
theorem cc.inj {X t:aL}{u:aR}(G:cc X u)(V:cc t u):X=t:=jQ (G.Jz.symm.trans V.Jz)
theorem b3.inj:∀{m aS:a3}{aa:cu},b3 m aa->b3 aS aa->m=aS
 |_,_,_,.nil,.nil=>rfl|_,_,_,.cons G n,.cons a b=>by rw[G.inj a,b3.inj n b]
section
variable {H:bQ}{ag:di}{o:bU}{R:aj}{A:aY}{S:aV}{m aS:a3}
theorem dG.of {J:bD}(Y:R S=E (.aG m)):dG J R S m:=.inl (.inl Y)
theorem fx.of {J:bD}(Y:R S=E (.a_ m)):fx J R S m:=.inl (.inl Y)
theorem a6.dV (b:a6 H ag o R A)(Y:dG H.J R S m):∃a:cu,b3 m a/\PlainL A.heap S a.toArray/\m.length<=cw:=by
 rcases Y with Y |⟨C,a,z,c,d,f,g,h,G⟩
 ·obtain⟨I,a,z,G,e⟩:=Y.i b.cA
  exact⟨a,G,⟨_,z,e,rfl,rfl,rfl⟩,I⟩
 ·refine⟨a.toList,G,⟨C,z,b.gS S C c,d,f,by simpa using g⟩,?_⟩
  have e:=G.dB;simp_all
theorem a6.gj (b:a6 H ag o R A)(Y:fx H.J R S m):∃a:cu,b3 m a/\IsTup A.heap S a.toArray/\m.length<=cw:=by
 rcases Y with Y |⟨C,a,z,c,d,f,g,G⟩
 ·obtain⟨I,a,G,N⟩:=Y.i b.cA
  exact⟨a,G,N,I⟩
 ·refine⟨a.toList,G,⟨C,b.gS S C c,d,z,by simpa using f⟩,?_⟩
  have e:=G.dB;simp only[y1]at e;lia
theorem a6.r6 (a:a6 H ag o R A)(Y:dG H.J R S m)(aE:dG H.J R S aS):m=aS:=by
 obtain⟨f,G,⟨C,z,e,_,_,y⟩,_⟩:=a.dV Y;obtain⟨g,c,⟨bS,h,b,_,_,dO⟩,_⟩:=a.dV aE;rw[e]at b;cases b;rw[y]at dO;injection dO with d _;have  := by simpa using congrArg CT d
 subst this;exact G.inj c
theorem a6.De (a:a6 H ag o R A)(Y:fx H.J R S m)(aE:fx H.J R S aS):m=aS:=by
 obtain⟨f,G,⟨C,e,_,z,y⟩,_⟩:=a.gj Y;obtain⟨g,c,⟨bS,b,_,h,dO⟩,_⟩:=a.gj aE;rw[e]at b;cases b;rw[y]at dO;injection dO with d _;have  := by simpa using congrArg CT d
 subst this;exact G.inj c
end
noncomputable abbrev bQ.oo (H:bQ)(l:aR->aY->Prop):bQ:={H with e7:=l}
abbrev bQ.wb (H:bQ):bQ:=H.oo λ_ _=>False
theorem bQ.dR.oo {H:bQ}(a:H.dR)(l:aR->aY->Prop):(H.oo l).dR:=
 ⟨a.dU,a.hp,a.ps,a.t5,a.above,a.inj,a.y7,a.v8,a.gi,a.frames,a.y8,a.C5,a.f6,a.pv,a.r1,a.y9,a.mT,a.r2,a.c5⟩
theorem bQ.dR.t9 {H:bQ}{l:aR->aY->Prop}(a:(H.oo l).dR):H.dR:=
 ⟨a.dU,a.hp,a.ps,a.t5,a.above,a.inj,a.y7,a.v8,a.gi,a.frames,a.y8,a.C5,a.f6,a.pv,a.r1,a.y9,a.mT,a.r2,a.c5⟩
section
variable {H:bQ}{ag:di}{o:bU}{R:aj}{A:aY}{l:aR->aY->Prop}
theorem a6.oo (a:a6 H ag o R A)(l:aR->aY->Prop):a6 (H.oo l) ag o R A:=⟨a.i.oo l,a.os,a.kZ,a.bg,a.ka,a.kI,a.ck,a.oj,a.eM,a.cA,a.b6,a.tk⟩
theorem a6.t9 (a:a6 (H.oo l) ag o R A):a6 H ag o R A:=⟨a.i.t9,a.os,a.kZ,a.bg,a.ka,a.kI,a.ck,a.oj,a.eM,a.cA,a.b6,a.tk⟩
theorem r4.t9 {c:r3}{w:Flow}{bc:aY}(Y:r4 (H.oo l) ag c w bc):r4 H ag c w bc:=by
 cases w with
 |ret u=>obtain⟨v,a,aq,b,G,V⟩:=Y;exact⟨v,a,aq,b.t9,G,V⟩|_=>obtain⟨a,aq,b,V⟩:=Y;exact⟨a,aq,b.t9,V⟩
end
section
variable {H:bQ}{aU:d4}{dz:jo}{n u:fY}{e:bI}{dH:bN}{pos:Pos}
def t_:fY:=λa o R=>a.de o R
def r7 (n u:fY):fY:=λa o R=>n {a with de:=u a} o R
theorem Sw:me H [] t_:=λ_ _ o R _ a Y=>wpAny_execs_nil ⟨o,R,a,Y⟩
theorem Sx (ab:ju H aU n)(af:me H dz u):me H (aU::dz) (r7 n u):=by
 intro ag A o R a b Y;refine wpAny_execs_cons (b9 (ab ag A o R _ b Y) λw bh V=>?_)
 cases w with
 |next=>
  obtain⟨c,aq,d,V⟩:=V;exact af ag bh c aq a d V
 |_=>exact V
def Df:fY:=λa o R=>a.iC o R
theorem Sy:ju H (.Pass pos) t_:=λ_ _ o R _ a Y=>wpAny_Pass ⟨o,R,a,Y⟩
theorem Sz:ju H (.Continue pos) Df:=λ_ _ o R _ a Y=>wpAny_Continue ⟨o,R,a,Y⟩
theorem a6.JA {ag:di}{o:bU}{R:aj}{A:aY}(a:a6 H ag o R A):interactive H.x=ax:=by simp[interactive,a.i.hp]
theorem SA {X j pos r8}:ju H (.Expr (.Constant (.str X) j pos) r8) t_:=λ_ A o R _ a Y=>wpAny_Expr (Calls.Constant_str (show r4 H _ _ .next {A with toks:=A.toks+1}from⟨o,R,a.fX _,Y⟩)) a.JA
def Dg (dH:bN):fY:=λa o R=>dH o R λ_ ar=>a.de o ar
theorem SD (b:bt H e dH)(c:swapsWith e k pos.line H.x=pure ax:=by rfl):ju H (.Expr e pos) (Dg dH):=by
 intro ag A o R g a Y;exact wpAny_Expr_any (b9 (b ag A o R _ a Y) λv bh ⟨X,ar,d,bC,f⟩=>⟨o,ar,d,f⟩) a.JA c
def Dh (dH:bN):fY:=λa o R=>dH o R a.en
theorem SE (a:bt H e dH):ju H (.Return (E e) pos) (Dh dH):=by
 intro ag A o R f b Y;exact wpAny_Return_some (b9 (a ag A o R _ b Y) λv bh ⟨X,ar,c,bC,d⟩=>⟨X,o,ar,c,bC,d⟩)
def Di:fY:=λa _ R=>a.en .a9 R
theorem SF:ju H (.Return k pos) Di:=λ_ _ o R _ a Y=>wpAny_Return_none ⟨.a9,o,R,a,rfl,Y⟩
def JB:fY:=λ_ _ _=>False
theorem SG:ju H aU JB:=λ_ _ _ _ _ _ Y=>Y.elim
end
abbrev iE:=aL->bU->aj->(bU->aj->Prop)->Prop
abbrev jv:=a3->bU->aj->(bU->aj->Prop)->Prop
def jU (H:bQ)(b:bI)(n:iE):Prop:=
 ∀(ag:di) (A:aY) (o:bU) (R:aj) (v:aL) (u:aR) (q:bU->aj->Prop),a6 H ag o R A->cc v u->n v o R q ->
  bM (model H.cb H.r) H.p (assign b H.x u) (λ_ bc=>∃a aq,a6 H ag a aq bc/\q a aq) H.e7 A
def nD (H:bQ)(iF:ew)(n:jv):Prop:=
 ∀(ag:di) (A:aY) (o:bU) (R:aj) (c:a3) (aa:cu) (q:bU->aj->Prop),a6 H ag o R A->b3 c aa->n c o R q ->
  bM (model H.cb H.r) H.p (assignInOrder ((jN iF H.x).map (·.2)) aa) (λ_ bc=>∃a aq,a6 H ag a aq bc/\q a aq) H.e7 A
abbrev ua:=aL->aL->aL->aj->(aj->Prop)->Prop
def zc (H:bQ)(n:ua):Prop:=
 ∀(ag:di) (A:aY) (o:bU) (R:aj) (C O v:aL) (a b u:aR) (q:aj->Prop),a6 H ag o R A->cc C a->cc O b->cc v u->n C O v R q ->
  bM (model H.cb H.r) H.p (setItem a b u) (λ_ bc=>∃aq,a6 H ag o aq bc/\q aq) H.e7 A
section
variable {H:bQ}{pos:Pos}
def oq (O:Nat):iE:=λv o R q=>q (o.set O (E v)) R
theorem SH {O:Nat}{X:Str}(a:H.bw.Nodup)(aB:H.bw[O]?=E X)(b:t8 H.x.scope X)(c:H.ho X=ae\/H.x.scope.names.lookup X=E .local:=by fail "1"):jU H (.Name X pos) (oq O):=by
 intro ag A o R v u q d G Y;exact wpAny_assign_Name (Jw d a aB b G (λbc e=>⟨_,R,e,Y⟩) c)
def SI:jv:=λc o R q=>c=[]/\q o R
def SJ (n:iE)(u:jv):jv:=λc o R q=>∃v G,c=v::G/\n v o R λa aq=>u G a aq q
theorem SK:nD H [] SI:=by
 intro ag A o R c aa q a G Y;obtain⟨e,Y⟩:=Y;exact assignInOrder_nil ⟨o,R,a,Y⟩
theorem SM {e:bI}{aw:ew}{n:iE}{u:jv}(ab:jU H e n)(af:nD H aw u)
  (a:(jN (e::aw) H.x).map (·.2)=assign e H.x::(jN aw H.x).map (·.2):=by rfl):nD H (e::aw) (SJ n u):=by
 intro ag A o R c aa q b G Y;obtain⟨v,h,aN,Y⟩:=Y;subst aN;cases G with
 |cons G kc=>
  rw[a];exact assignInOrder_cons (b9 (ab ag A o R _ _ _ b G Y) λ_ bh ⟨d,ar,f,g⟩=>af ag bh d ar _ _ q f kc g)
def SN (J:bD)(z:Nat)(n:jv):iE:=λv o R q=>∃S m,v=.a0 S/\fx J R S m/\m.length=z/\n m o R q
theorem SO {aw:ew}{D:Nat}{n:jv}{z:Nat}(d:H.fo=ae)(Y:nD H aw n)
  (f:(jN aw H.x).length=z:=by rfl) (g:(jN aw H.x).findIdx? (·.1)=k:=by rfl):jU H (.Tuple aw D pos) (SN H.J z n):=by
 intro ag A o R v u q a G hw;obtain⟨S,m,aN,h,i,hw⟩:=hw;subst aN;cases G;obtain⟨r,c,j,s⟩:=a.gj h;exact assign_Tuple_tuple (a.i.gi d) j (by simp[f,<- i,c.dB]) g λaE l=>Y ag _ o R m _ q (a.iB  λb C e=>l b C (gg (eK e)) e) (by simpa using c) hw
def Dj (to eL:bN)(n:ua):iE:=λv o R q=>to o R λC ar=>eL o ar λO a5=>n C O v a5 λa=>q o a
theorem SP {C O:bI}{to eL:bN}{n:ua}(c:bt H C to)(aB:bt H O eL)(d:zc H n)
  (e:∀v,assign (.Subscript C O pos) H.x v=(do
   let a <- holding [v] (eval C H.x)
   let b <- holding [v,a] (eval O H.x)
   standAt pos
   holding [v,a,b] (setItem a b v)
   release [v,a,b] []):=by intro _;rfl):jU H (.Subscript C O pos) (Dj to eL n):=by
 intro ag A o R v u q f G Y;rw[e];exact bK (wpAny_holding (b9 (c ag A o R _ f Y) λa bh ⟨X,ar,g,bC,h⟩=>bK (wpAny_holding (b9 (aB ag bh o ar _ g h) λb bj ⟨t,a5,i,bR,j⟩=>bK (wpAny_standAt (bK (wpAny_holding (b9 (d ag bj o a5 X t v a b u _ i bC bR G j) λ_ s ⟨l,m,r⟩=>wpAny_release ⟨o,l,m,r⟩))))))))
def ot (dH:bN)(g:iE):fY:=λa o R=>dH o R λX ar=>g X o ar a.de
theorem JC {bV e:bI}{dH:bN}{g:iE}(a:bt H e dH)(b:jU H bV g)(c:swapsWithSole [bV] e pos.line H.x=pure ax:=by rfl)(hw:swappedStores [bV] e H.x=pure k:=by rfl)
  (ab:(jN [bV] H.x).map (·.2)=[assign bV H.x]:=by rfl):ju H (.Assign [bV] e pos) (ot dH g):=by
 intro ag A o R j d Y;refine wpAny_Assign_stores (b9 (a ag A o R _ d Y) λv bh f=>?_) c hw
 obtain⟨X,ar,h,bC,i⟩:=f;rw[ab];exact b9 (b ag bh o ar X v _ h bC i) λ_ bj V=>V
theorem JD {O:Nat}{X:Str}{e:bI}{dH:bN}{r8:Pos}(a:H.bw.Nodup)(aB:H.bw[O]?=E X)(b:t8 H.x.scope X)(c:bt H e dH)(d:swapsWith e (E (.Name X r8)) pos.line H.x=pure ax:=by rfl)(f:H.ho X=ae\/H.x.scope.names.lookup X=E .local:=by fail "1"):
  ju H (.Assign [.Name X r8] e pos) (ot dH (oq O)):=by
 intro ag A o R m g Y;refine wpAny_Assign_Name (b9 (c ag A o R _ g Y) λv bh h=>?_) d
 obtain⟨t,ar,i,bC,j⟩:=h;exact Jw i a aB b bC (λbj l=>⟨_,ar,l,j⟩) f
def Dk (Q:f7)(c5:fY):fY:=λa o R=>∃c:Nat->bU->aj->Prop,(∃h,c h o R)/\∀h o R,c h o R ->
 Q o R λb ar=>if b=ae then∃bw:bU->aj->Prop,(∀d aq,bw d aq->∃e,e<h/\c e d aq)/\c5 {a with de:=bw,iC:=bw,gE:=a.de} o ar else a.de o ar
theorem SQ {Q:bI}{body:jo}{iq:f7}{c5:fY}(e:PassesOwn (model H.cb H.r) H.p H.x H.e7)(j:hq H Q iq)(l:me H body c5):ju H (.While Q body [] pos) (Dk iq c5):=by
 intro ag A o R I m Y;obtain⟨n,⟨q,r⟩,s⟩:=Y;refine wpAny_While (codeAny_whileLoop (λz bc=>∃f aq,a6 H ag f aq bc/\n z f aq) ?_ q ⟨o,R,m,r⟩)
 rintro z bh ⟨a,ar,t,u⟩;refine rD e (b9 (j ag bh a ar _ t (s z a ar u)) λb bj x=>?_)
 obtain⟨a5,g,c⟩:=x;cases b with
 |true=>
  obtain⟨bw,y,c⟩:=c;refine rD e (b9 (l ag bj a a5 _ g c) λw J d=>?_)
  cases w with
  |brk=>exact d|ret v=>exact d |_=>
   obtain⟨h,i,B,C⟩:=d;obtain⟨D,F,G⟩:=y h i C;exact⟨D,F,h,i,B,G⟩
 |false=>
  exact wpAny_execs_nil ⟨a,a5,g,c⟩
end
structure i8 where
 eC:Nat->aj->Prop
 zd:Nat->aj->aL->aj->Prop
 pw:Nat->aj->Prop
def kd (H:bQ)(ag:di)(R:aj)(b:aV):Prop:=
 R b=k/\b≠H.x.locals/\b∉H.av/\(b∈H.aW\/H.jt.heap.objs.size<=b)/\(∀X Q,H.x.cells.lookup X=E Q->Q≠b)/\∀N∈H.aA++ag,N.1≠b
theorem a6.r9 {H:bQ}{ag:di}{o:bU}{R aq:aj}{A:aY}{b:aV}(a:a6 H ag o R A)(c:A.heap.objs.size<=b)(d:aq b=k):kd H ag aq b:=by
 refine⟨d,rN (hY a.h6 c),a.Sg c,.inr (jP a.za c),λX Q e I=>?_,λN f I=>?_⟩
 ·obtain⟨v,V⟩:=a.kI X Q e
  exact absurd (hY V.lt (by rwa[I])) (rM _)
 exact absurd (hY (eK (a.eM N f).1) (by rwa[I])) (rM _)
structure px (P:cW)(r:cF)(J:bD)(bV:bI)(e:i8)(c:jT)(d:aV)(a:Nat->Heap->Prop):Prop where
 mem:d∈c
 dI:∀O Y,a O Y->∀b∈c,∃C,Y.get? b=E C/\∀v,C.data≠.cell v
 e6:∀O Y aE,a O Y->(∀b∈c,∀C,Y.get? b=E C->aE.get? b=E C)->a O aE
 item:∀(H:bQ),H.cb=P->H.r=r->H.J=J->H.fo=ae->∀(O:Nat) (ag:di) (A:aY) (o:bU) (R:aj) (l:aR->aY->Prop),a6 H ag o R A->(∀b∈c,kd H ag R b)->a O A.heap->e.eC O R ->
  bM (model P r) H.p (pyNext (.ref d)) (λG bh=>∃u,G=E u /\
   bM (model P r) H.p (letOwnedTupleGo bV (.ref d) u) (λ_ bj=>∃X aq,a6 H ag o aq bj/\cc X u/\e.zd O R X aq/\a (O+1) bj.heap/\∀b∈c,aq b=k) l bh) l A
 done:∀(H:bQ),H.cb=P->H.r=r->H.J=J->H.fo=ae->∀(O:Nat) (ag:di) (A:aY) (o:bU) (R:aj) (l:aR->aY->Prop),a6 H ag o R A->(∀b∈c,kd H ag R b)->a O A.heap->e.pw O R ->
  bM (model P r) H.p (pyNext (.ref d)) (λG bh=>G=k/\a6 H ag o R bh) l A
 r_:∀(p:dp) (O:Nat) (A:aY) (q:aR->aY->Prop) (l:aR->aY->Prop),a O A.heap->q (.ref d) A->bM (model P r) p (pyIter (.ref d)) q l A
abbrev k0:=bU->aj->(i8->aj->Prop)->Prop
def JE (H:bQ)(ag:di)(o:bU)(bV:bI)(bp:i8->aj->Prop)(f:aR)(bj:aY):Prop:=
 ∃(a:aV) (c:jT) (d:Nat->Heap->Prop) (e:i8) (aq:aj),f=.ref a/\a6 H ag o aq bj/\px H.cb H.r H.J bV e c a d/\d 0 bj.heap/\(∀b∈c,kd H ag aq b)/\bp e aq
def ou (H:bQ)(bV iter:bI)(a:k0):Prop:=
 ∀(ag:di) (A:aY) (o:bU) (R:aj) (bp:i8->aj->Prop),a6 H ag o R A->a o R bp ->
  bM (model H.cb H.r) H.p (eval iter H.x) (λv bh=>bM (model H.cb H.r) H.p (pyIter v) (JE H ag o bV bp) H.e7 bh) H.e7 A
theorem ze {b:Model}{p:dp}{l:aR->aY->Prop}{A:aY}{bV:bI}{d:aV}{u:aR}{C:iU}{z:String}{c:g5}{q:Unit->aY->Prop}(e:A.heap.get? d=E C)(f:C.cls=.type z)(g:C.data=.fields c)
  (h:["enumerate", "zip", "dict_itemiterator", "dict_reverseitemiterator", "odict_iterator", "itertools.zip_longest", "itertools.pairwise"].contains z=ax) (a:q () A):bM b p (letOwnedTupleGo bV (.ref d) u) q l A:=by
 unfold letOwnedTupleGo
 cases bV<;>first
  |exact dx a
  | (cases u<;>first
    |exact dx a
    | (refine bK (wpAny_load e ?_)
       rw[f,g];show bM b p (if(["enumerate", "zip", "dict_itemiterator", "dict_reverseitemiterator", "odict_iterator", "itertools.zip_longest", "itertools.pairwise"].contains z && c[0]?==E (rawInt _))=ae then _ else _) q l A
       rw[if_neg (by intro Y;rw[h,H3]at Y;cases Y)]
       exact dx a))
def Dl (J:bD)(S:aV):i8:=
 ⟨λO R=>∃m X,dG J R S m/\m[O]?=E X,λO R X aq=>aq=R/\∀m,dG J R S m->m[O]?=E X,λO R=>∃m,dG J R S m/\m.length<=O⟩
def Dm (J:bD)(S:aV):i8:=
 ⟨λO R=>∃m X,fx J R S m/\m[O]?=E X,λO R X aq=>aq=R/\∀m,fx J R S m->m[O]?=E X,λO R=>∃m,fx J R S m/\m.length<=O⟩
noncomputable def ov (a8:Int)(z:Nat):i8:=⟨λO _=>O<z,λO R X aq=>aq=R/\X=.d (a8+O),λO _=>z<=O⟩
theorem SR {P:cW}{r:cF}{J:bD}{bV:bI}(S a:aV):px P r J bV (Dl J S) [a] a (λO Y=>Y.IsListIter a S O) where
 mem:=by simp
 dI:=λO Y aU b c=>by
  have e:b=a:=by simpa using c
  subst e;obtain⟨C,e,Q,y⟩:=aU;exact⟨C,e,λv I=>by rw[y]at I;cases I⟩
 e6:=λO Y aE aU D=>aU.at λC e=>D a (by simp) C e
 item:=by
  intro H h hw i G O ag A o R l d f aU j;subst h hw i;obtain⟨m,X,g,n⟩:=j;obtain⟨L,q,N,M⟩:=d.dV g;obtain⟨u,T,U⟩:=q.gQ n;obtain⟨t,w,V,z,B,F⟩:=f a (by simp)
  refine wpAny_pyNext_list_item aU N.isList (x:=u) (by simpa using T) λaE K W=>?_
  have Z:a6 H ag o R {A with heap:=aE}:=d.nC (f:=A.toks) (λb C c e=>(W.2 b c).trans e) t w z B F
  obtain⟨C,e,Q,y⟩:=id K;exact⟨u,rfl,ze (A:={A with heap:=aE}) e Q y (by decide) ⟨X,R,Z,U,⟨rfl,λaS aa=>by rw[d.r6 aa g];exact n⟩,K,λb c=>(f b c).1⟩⟩
 done:=by
  intro H h hw i G O ag A o R l d f aU j;subst h hw i;obtain⟨m,g,n⟩:=j;obtain⟨L,q,N,M⟩:=d.dV g;obtain⟨t,w,V,z,B,F⟩:=f a (by simp)
  have ac:=q.dB;exact wpAny_pyNext_list_end (d.i.gi G) aU N.isList (by simp;lia) λaE ab=>⟨rfl,d.nC (f:=A.toks) (λb C c e=>ab b C c e) t w z B F⟩
 r_:=λ_ _ _ _ _ aU Y=>wpAny_pyIter_listiter aU Y
theorem SS {P:cW}{r:cF}{J:bD}{bV:bI}(S a:aV):px P r J bV (Dm J S) [a] a (λO Y=>Y.IsTupleIter a S O) where
 mem:=by simp
 dI:=λO Y aU b c=>by
  have e:b=a:=by simpa using c
  subst e;obtain⟨C,e,Q,y⟩:=aU;exact⟨C,e,λv I=>by rw[y]at I;cases I⟩
 e6:=λO Y aE aU D=>aU.at λC e=>D a (by simp) C e
 item:=by
  intro H h hw i K O ag A o R l d f aU j;subst h hw i;obtain⟨m,X,g,n⟩:=j;obtain⟨q,t,N,M⟩:=d.gj g;obtain⟨u,T,U⟩:=t.gQ n;obtain⟨w,z,V,B,F,G⟩:=f a (by simp)
  refine wpAny_pyNext_tuple_item aU (show A.heap.IsTuple S q.toArray from N) (x:=u) (by simpa using T) λaE L W=>?_
  have Z:a6 H ag o R {A with heap:=aE}:=d.nC (f:=A.toks) (λb C c e=>(W.2 b c).trans e) w z B F G
  obtain⟨C,e,Q,y⟩:=id L;exact⟨u,rfl,ze (A:={A with heap:=aE}) e Q y (by decide) ⟨X,R,Z,U,⟨rfl,λaS aa=>by rw[d.De aa g];exact n⟩,L,λb c=>(f b c).1⟩⟩
 done:=by
  intro H h hw i K O ag A o R l d f aU j;subst h hw i;obtain⟨m,g,n⟩:=j;obtain⟨q,t,N,M⟩:=d.gj g;obtain⟨w,z,V,B,F,G⟩:=f a (by simp)
  have ac:=t.dB;exact wpAny_pyNext_tuple_end (d.i.gi K) aU (show A.heap.IsTuple S q.toArray from N) (by simp;lia) λaE ab=>⟨rfl,d.nC (f:=A.toks) (λb C c e=>ab b C c e) w z B F G⟩
 r_:=λ_ _ _ _ _ aU Y=>wpAny_pyIter_tupleiter aU Y
theorem SU {P:cW}{r:cF}{J:bD}{bV:bI}(a:aV)(a8:Int)(z:Nat):px P r J bV (ov a8 z) [a] a (λO Y=>IsRangeIter Y a (a8+(O:Nat)*1) ((z:Int)-(O:Nat)) 1) where
 mem:=by simp
 dI:=λO Y aU b d=>by simp_all
 e6:=λO Y aE aU D=>D a (by simp) _ aU
 item:=by
  intro H g hw h i O ag A o R l c f aU j;subst g hw h;obtain⟨m,q,B,t,u,x⟩:=f a (by simp)
  have F:=Walks.range (prog:=H.cb) (w:=H.r) (c.i.gi i) a a8 1 z;refine j_ (F.item O A _ _ j aU λv aE G I y hs K=>?_)
  obtain⟨n,rfl⟩:=I;refine⟨_,rfl,ze (A:={A with heap:=aE,toks:=G}) (z:="range_iterator") y rfl rfl (by decide) ⟨.d (a8+O),R,(c.nC (λb C d e=>hs b C (by simpa using d) e) m q t u x (hY c.tk K)),⟨n,?_⟩,⟨rfl,rfl⟩,y,λb d=>(f b d).1⟩⟩
  rw[Int.mul_one]
 done:=by
  intro H g hw h i O ag A o R l c f aU j;subst g hw h;obtain⟨m,q,B,t,u,x⟩:=f a (by simp)
  exact wpAny_pyNext_range_end (c.i.gi i) aU (by have:z<=O:=j;lia) λaE L=>⟨rfl,c.nC (f:=A.toks) (L) m q t u x⟩
 r_:=λ_ _ _ _ _ aU Y=>wpAny_pyIter_rangeiter aU Y
section
variable {H:bQ}{bV:bI}
theorem JF {ag:di}{o:bU}{R:aj}{A:aY}{bp:i8->aj->Prop}{l:aR->aY->Prop}{a8 aB:Int}{n u v:Tok}{a:Nat}(d:a6 H ag o R A)(ab : -(2 ^ 62)<=a8)(af:a8<2 ^ 62)(br : -(2 ^ 62)<=aB)(f:aB<2 ^ 62)
  (V:bp (ov a8 (aB-a8).toNat) R) (g:0<a:=by fail "0"):bM (model H.cb H.r) H.p (pyIter (.ref A.heap.objs.size)) (JE H ag o bV bp) l {A with heap:=A.heap.push {cls:=.type "range",data:=.fields #[.int a8 n,.int aB u,.int 1 v]},toks:=a}:=by
 refine wpAny_pyIter_range (IsRange.new ..) (small_one ab af br f) ?_;have c:a6 H ag o R {A with heap:=A.heap.push {cls:=.type "range",data:=.fields #[.int a8 n,.int aB u,.int 1 v]},toks:=a}:=d.iB (λb C e=>el _ e) g
 refine⟨(A.heap.push {cls:=.type "range",data:=.fields #[.int a8 n,.int aB u,.int 1 v]}).objs.size,[(A.heap.push {cls:=.type "range",data:=.fields #[.int a8 n,.int aB u,.int 1 v]}).objs.size],_,_,R,rfl,
  c.iB (a:=a) λb C e=>el _ e,SU _ a8 (aB-a8).toNat,?_,λb h=>?_,V⟩
 ·have aN:a8+((0:Nat):Int)*1=a8:=by simp
  have az:(((aB-a8).toNat:Nat):Int)-((0:Nat):Int)=Jl a8 aB 1:=by rw[rangeSize_one];split<;>omega
  show IsRangeIter _ _ (a8+((0:Nat):Int)*1) ((((aB-a8).toNat:Nat):Int)-((0:Nat):Int)) 1
  rw[aN,az];exact gf _ rfl
 ·have e:b=(A.heap.push {cls:=.type "range",data:=.fields #[.int a8 n,.int aB u,.int 1 v]}).objs.size:=by simpa using h
  subst e;exact c.r9 (cM _) (c.cA.fm (cM _))
def Dn (f:k0)(g:iE)(c5:fY):fY:=λa o R=>f o R λb ar=>∃c:Nat->Nat->bU->aj->Prop,(∃h,c 0 h o ar)/\∀O h o R,c O h o R ->
 (b.pw O R/\a.de o R)\/(b.eC O R/\∃bw:bU->aj->Prop,(∀d aq,bw d aq->∃e,e<h/\c (O+1) e d aq)/\∀X aq,b.zd O R X aq->g X o aq λi a5=>c5 {a with de:=bw,iC:=bw,gE:=a.de} i a5)
def wc (a:jT)(Y:Heap):di:=a.filterMap λb=>(Y.get? b).map λC=>(b,C)
theorem zf {a:jT}{Y:Heap}{b:aV}{C:iU}(c:b∈a)(e:Y.get? b=E C):(b,C)∈wc a Y:=Ie.mpr ⟨b,c,by rw[e];rfl⟩
theorem SV {a:jT}{Y:Heap}{N:aV×iU}(c:N∈wc a Y):N.1∈a/\Y.get? N.1=E N.2:=by
 obtain⟨b,f,e⟩:=Ie.mp c;cases V:Y.get? b with
 |none=>simp_all|some C=>
  rw[V]at e;have d  := jQ e;subst d;trivial
theorem a6.JG {ag:di}{o:bU}{R:aj}{A:aY}{a:jT}(c:a6 H ag o R A)(f:∀b∈a,kd H ag R b)(g:∀b∈a,∃C,A.heap.get? b=E C/\∀v,C.data≠.cell v):a6 H (ag++wc a A.heap) o R A:=
 c.C_ λN h=>(g0.mp h).elim (λI=>c.eM N (j6 _ I)) λI=>by
  obtain⟨d,e⟩:=SV I;obtain⟨i,j,l,_⟩:=f _ d;obtain⟨C,m,y⟩:=g _ d;simp_all
theorem a6.ub {ag b:di}{o:bU}{R:aj}{A:aY}(a:a6 H (ag++b) o R A):a6 H ag o R A:=a.C_ λN c=>a.eM N (j6 _ (yw _ c))
theorem SW {iter:bI}{body:jo}{F:k0}{g:iE}{c5:fY}{pos:Pos}(l:PassesOwn (model H.cb H.r) H.p H.x H.e7)(I:H.fo=ae)(aB:ou H bV iter F)(W:jU H bV g)(a:me H body c5)
  (Z:∀X,foldedSetIterable iter H.x X=pure X:=by intro _;rfl):ju H (.For bV iter body [] pos) (Dn F g c5):=by
 intro ag A o R aR aa Y;refine wpAny_For (b9 (aB ag A o R _ aa Y) λv bh ab=>b9 ab λaS bj af=>?_) Z
 obtain⟨aT,m,J,aU,a5,e,ac,T,ah,K,L,⟨ak,al⟩,am⟩:=af;subst e;have t:∀{aq:aj},(∀b∈m,aq b=k)->∀b∈m,kd H ag aq b:=λan b a=>⟨an b a,(K b a).2⟩
 refine codeAny_forLoop_any (λz bc=>∃O n aq,a6 H ag n aq bc/\J O bc.heap/\(∀b∈m,aq b=k)/\L O z n aq) ?_ ak ⟨0,o,a5,ac,ah,λb a=>(K b a).1,al⟩
 rintro z M ⟨O,q,s,N,P,Q,ao⟩;rcases am O z q s ao with⟨ap,ar⟩|⟨as,bw,au,av⟩
 ·refine rD l (b9 (T.done H rfl rfl rfl I O ag M q s H.e7 N (t Q) P ap) λG aw j=>?_)
  obtain⟨x,ay⟩:=j;subst x;exact wpAny_execs_nil ⟨q,s,ay,ar⟩
 ·refine rD l (b9 (T.item H rfl rfl rfl I O ag M q s H.e7 N (t Q) P as) λG aw j=>?_)
  obtain⟨u,x,az⟩:=j;subst x;refine rD l (b9 az λ_ S j=>?_)
  obtain⟨X,U,aA,aC,aD,B,aE⟩:=j;have aF:=aA.JG (t aE) (T.dI _ _ B);refine rD l (b9 (W _ S q U X u _ aF aC (av X U aD)) λ_ aG j=>?_)
  obtain⟨aH,aI,aJ,aK⟩:=j;refine rD l (b9 (a _ aG aH aI _ aJ aK) λw D i=>?_)
  have V:∀{c:bU}{d:aj},a6 H (ag++wc m S.heap) c d D->bw c d->∃h,h<z/\∃O n aq,a6 H ag n aq D/\J O D.heap/\(∀b∈m,aq b=k)/\L O h n aq:=λ{c d} f r=>by
   obtain⟨aM,aN,aP⟩:=au c d r;refine⟨aM,aN,O+1,c,d,f.ub,T.e6 _ _ _ B λb a C e=>(f.eM (b,C) (j6 _ (j6 _ (zf a e)))).1,λb a=>?_,aP⟩
   obtain⟨C,e,y⟩:=T.dI _ _ B b a;exact(f.eM (b,C) (j6 _ (j6 _ (zf a e)))).2.1
  cases w with
  |next=>obtain⟨c,d,f,r⟩:=i;exact V f r|cont=>obtain⟨c,d,f,r⟩:=i;exact V f r|brk=>obtain⟨c,d,f,i⟩:=i;exact⟨c,d,f.ub,i⟩|ret v=>obtain⟨x7,c,d,f,aQ,i⟩:=i;exact⟨x7,c,d,f.ub,aQ,i⟩
end
abbrev d0:=aL->aL->aj->bX->Prop
def dj (H:bQ)(w:rX)(G:d0):Prop:=
 ∀(ag:di) (A:aY) (o:bU) (R:aj) (X t:aL) (v u:aR) (q:bX),a6 H ag o R A->cc X v->cc t u->G X t R q ->
  bM (model H.cb H.r) H.p (w v u) (kb H ag o q) H.e7 A
def JH (H:bQ)(w:aR->Sem aR)(G:aL->aj->bX->Prop):Prop:=
 ∀(ag:di) (A:aY) (o:bU) (R:aj) (X:aL) (v:aR) (q:bX),a6 H ag o R A->cc X v->G X R q ->
  bM (model H.cb H.r) H.p (w v) (kb H ag o q) H.e7 A
def iG (H:bQ)(w:aR)(G:a3->aj->bX->Prop):Prop:=
 ∀(ag:di) (A:aY) (o:bU) (R:aj) (m:a3) (aa:cu) (q:bX),a6 H ag o R A->b3 m aa->G m R q ->
  bM (model H.cb H.r) H.p (call w aa) (kb H ag o q) H.e7 A
def nE (G:d0)(bE c5:bN):bN:=λo R q=>bE o R λX ar=>c5 o ar λt a5=>G X t a5 q
def Dp (aJ:Int->Int->Prop)(g:qy):d0:=λX t R q=>∃O j,X=.d O/\t=.d j/\aJ O j/\q (g O j) R
def pz (g:qy):d0:=λX t R q=>∃O j,X=.d O/\t=.d j/\q (g O j) R
def JI (g:Int->aL):aL->aj->bX->Prop:=λX R q=>∃O,X=.d O/\q (g O) R
section
variable {H:bQ}{S b:bI}{bE c5:bN}{pos:Pos}
theorem zg (a:bt H S bE)(c:bt H b c5){ag:di}{A:aY}{o:bU}{R:aj}{bp:aL->aL->aj->Prop}(d:a6 H ag o R A)
  (Y:bE o R λX ar=>c5 o ar λt a5=>bp X t a5) {q:aR->aY->Prop}{w:rX}
  (e:∀v u bj X t a5,a6 H ag o a5 bj->cc X v->cc t u->bp X t a5->bM (model H.cb H.r) H.p (w v u) q H.e7 bj):
  bM (model H.cb H.r) H.p (eval S H.x) (λv f=>bM (model H.cb H.r) H.p (eval b H.x) (λu g=>bM (model H.cb H.r) H.p (w v u) q H.e7 g) H.e7 f) H.e7 A:=b9 (a ag A o R _ d Y) λv bh ⟨X,ar,h,bC,i⟩=>b9 (c ag bh o ar _ h i) λu bj ⟨t,a5,j,bR,l⟩=>e v u bj X t a5 j bC bR l
theorem JJ {a:Operator}{G:d0}(c:dj H (j4 a) G)(d:bt H S bE)(e:bt H b c5):bt H (.BinOp S a b pos) (nE G bE c5):=by
 intro ag A o R q f Y;exact wpAny_BinOp (zg d e f Y λv u bj X t a5 g h i V=>c ag bj o a5 X t v u q g h i V)
theorem Dq {w:rX}{aJ:Int->Int->Prop}{g:Int->Int->Int}
  (a:∀(O j:Int) (n u:Tok) (A:aY) (q:aR->aY->Prop) (l:aR->aY->Prop),aJ O j->q (.int (g O j) A.toks) {A with toks:=A.toks+1}->bM (model H.cb H.r) H.p (w (.int O n) (.int j u)) q l A):
  dj H w (Dp aJ λO j=>.d (g O j)):=by
 intro ag A o R X t v u q b c d Y;obtain⟨O,j,rfl,rfl,e,V⟩:=Y;obtain⟨n,rfl⟩:=c;obtain⟨f,rfl⟩:=d;exact a O j n f A _ _ e ⟨.d _,R,b.fX _,⟨_,rfl⟩,V⟩
theorem JK {w:rX}{g:Int->Int->Int}
  (a:∀(O j:Int) (n u:Tok) (A:aY) (q:aR->aY->Prop) (l:aR->aY->Prop),q (.int (g O j) A.toks) {A with toks:=A.toks+1}->bM (model H.cb H.r) H.p (w (.int O n) (.int j u)) q l A):
  dj H w (pz λO j=>.d (g O j)):=by
 intro ag A o R X t v u q b c d Y;obtain⟨O,j,rfl,rfl,V⟩:=Y;obtain⟨n,rfl⟩:=c;obtain⟨e,rfl⟩:=d;exact a O j n e A _ _ ⟨.d _,R,b.fX _,⟨_,rfl⟩,V⟩
theorem zh {w:rX}{g:Int->Int->Bool}
  (a:∀(O j:Int) (n u:Tok) (A:aY) (q:aR->aY->Prop) (l:aR->aY->Prop),q (.bool (g O j)) A->bM (model H.cb H.r) H.p (w (.int O n) (.int j u)) q l A):
  dj H w (pz λO j=>.aM (g O j)):=by
 intro ag A o R X t v u q b c d Y;obtain⟨O,j,rfl,rfl,V⟩:=Y;obtain⟨n,rfl⟩:=c;obtain⟨e,rfl⟩:=d;exact a O j n e A _ _ ⟨.aM _,R,b,rfl,V⟩
def SX (O j:Int):Prop:=0<j/\j<1073741824
def SY (O j:Int):Prop:=0<=j/\j<=1000000/\O.natAbs<2 ^ 64
def zi (O j:Int):Prop:=(-(2 ^ 64)<O/\O<2 ^ 64)\/(-(2 ^ 64)<j/\j<2 ^ 64)
theorem zi.i {O j:Int}(Y:zi O j):IntMulOk O j:=by
 rcases Y with⟨ab,af⟩|⟨ab,af⟩
 ·exact .of_left (intBits_le_64 ab af)
 exact .of_right (intBits_le_64 ab af)
theorem S0:dj H (j4 .Add) (pz λO j=>.d (O+j)):=JK λ_ _ _ _ _ _ _ V=>add_int V
theorem S1:dj H (j4 .Sub) (pz λO j=>.d (O-j)):=JK λ_ _ _ _ _ _ _ V=>sub_int V
theorem S2:dj H (j4 .Mod) (Dp (λ_ j=>0<j) λO j=>.d (O % j)):=Dq λO j _ _ _ _ _ a V=>by
 have ab:(0:Int)<j:=a;exact mod_int' (by lia) (by rw[Int.fmod_eq_emod_of_nonneg O (by lia)];exact V)
theorem S3 {w:aR->Sem aR}{g:Int->Int}
  (a:∀(O:Int) (n:Tok) (A:aY) (q:aR->aY->Prop) (l:aR->aY->Prop),q (.int (g O) A.toks) {A with toks:=A.toks+1}->bM (model H.cb H.r) H.p (w (.int O n)) q l A):
  JH H w (JI λO=>.d (g O)):=by
 intro ag A o R X v q b c Y;obtain⟨O,rfl,V⟩:=Y;obtain⟨n,rfl⟩:=c;exact a O n A _ _ ⟨.d _,R,b.fX _,⟨_,rfl⟩,V⟩
theorem S4:JH H (unaryOp .USub) (JI λO=>.d (-O)):=S3 λ_ _ _ _ _ V=>neg_int V
theorem zj {ag:di}{o:bU}{R:aj}{A:aY}{q:bX}{D a:Bool}(b:a6 H ag o R A)(V:q (.aM D) R)(e:D=a):kb H ag o q (.bool a) A:=by
 subst e;exact⟨.aM D,R,b,rfl,V⟩
theorem S5:dj H (eJ .Lt) (pz λO j=>.aM (decide (O<j))):=zh λ_ _ _ _ _ _ _ V=>lt_int V
theorem S6:dj H (eJ .LtE) (pz λO j=>.aM (decide (O<=j))):=zh λ_ _ _ _ _ _ _ V=>le_int V
theorem S7:dj H (eJ .Gt) (pz λO j=>.aM (decide (j<O))):=zh λ_ _ _ _ _ _ _ V=>gt_int V
theorem S8:dj H (eJ .GtE) (pz λO j=>.aM (decide (j<=O))):=zh λ_ _ _ _ _ _ _ V=>ge_int V
theorem S9:dj H (eJ .In) (λX t R q=>∃O j,X=.f O/\t=.f j/\q (.aM (!(tU j O 0 j.length 1).isEmpty)) R):=by
 intro ag A o R X t v u q a b c Y;obtain⟨O,j,rfl,rfl,V⟩:=Y;obtain⟨n,rfl⟩:=b;obtain⟨d,rfl⟩:=c;exact in_str (zj a V rfl)
theorem S_:dj H (eJ .Is) (λX t R q=>t=.a9/\q (.aM (decide (X=.a9))) R):=by
 intro ag A o R X t v u q b a c Y;obtain⟨rfl,V⟩:=Y;cases c;refine is_none_gen (zj b V ?_)
 cases X<;>first
  |(cases (a);rfl)
  |(obtain⟨n,rfl⟩:=a;rfl)
theorem Ta:dj H (eJ .IsNot) (λX t R q=>t=.a9/\q (.aM (!decide (X=.a9))) R):=by
 intro ag A o R X t v u q a b c Y;obtain⟨rfl,V⟩:=Y;cases c;refine isnot_none_gen (zj a V ?_);cases X<;>(obtain⟨n,rfl⟩:=b;rfl)
theorem Tb:dj H (eJ .NotIn) (λX t R q=>∃O j,X=.f O/\t=.f j/\q (.aM (!(!(tU j O 0 j.length 1).isEmpty))) R):=by
 intro ag A o R X t v u q a b c Y;obtain⟨O,j,rfl,rfl,V⟩:=Y;obtain⟨n,rfl⟩:=b;obtain⟨d,rfl⟩:=c;exact notIn_str (zj a V rfl)
theorem Tc {a:CmpOp}{G:d0}(c:dj H (eJ a) G)(d:bt H S bE)(e:bt H b c5)(f:behindInMarks a b=ax):bt H (.Compare S [a] [b] pos) (nE G bE c5):=by
 intro ag A o R q g Y;exact wpAny_Compare1 (zg d e g Y λv u bj X t a5 h i j V=>c ag bj o a5 X t v u q h i j V) f
theorem uc:(cw:Nat)<2 ^ 63:=by decide
theorem Td:dj H (j4 .Add) (λX t R q=>∃O j,X=.f O/\t=.f j/\O.length+j.length<=cw/\q (.f (O++j)) R):=by
 intro ag A o R X t v u q a b c Y;obtain⟨O,j,rfl,rfl,d,V⟩:=Y;obtain⟨n,rfl⟩:=b;obtain⟨e,rfl⟩:=c;exact j_ (add_str (λe g f=>⟨.f _,R,a.fX _ (hY a.tk f),⟨_,rfl⟩,V⟩) d)
theorem mg {X:aL}{aa:cu}(G:b3 [X] aa):∃u,aa=[u]/\cc X u:=by
 cases G with
 |cons bC bR=>cases bR;exact⟨_,rfl,bC⟩
theorem zk {X t:aL}{aa:cu}(G:b3 [X,t] aa):∃u a,aa=[u,a]/\cc X u/\cc t a:=by
 cases G with
 |cons bC bR=>
  cases bR with
  |cons b c=>cases c;exact⟨_,_,rfl,bC,b⟩
theorem Te (c:H.fo=ae):iG H (.builtin "min") (λm R q=>∃O j,m=[.d O,.d j]/\q (.d (if j<O then j else O)) R):=by
 intro ag A o R m aa q b G Y;obtain⟨O,j,rfl,V⟩:=Y;obtain⟨u,e,rfl,⟨n,rfl⟩,⟨f,rfl⟩⟩:=zk G;refine j_ (min_two_ints (b.i.gi c) λaE g D d=>⟨_,R,b.iB D (hY b.tk d),?_,V⟩)
 by_cases a:j<O
 ·rw[if_pos a,if_pos a];exact⟨_,rfl⟩
 rw[if_neg a,if_neg a];exact⟨_,rfl⟩
theorem Tf:iG H (.type "str") (λm R q=>∃O,m=[.d O]/\O.natAbs.log2<1920/\q (.f (toString O)) R):=by
 intro ag A o R m aa q a G Y;obtain⟨O,rfl,b,V⟩:=Y;obtain⟨u,rfl,n,rfl⟩:=mg G;exact PySem.P.str_of_int b ⟨.f _,R,a.fX _,⟨_,rfl⟩,V⟩
end
structure sa (Y:Heap)(X bH aJ:aV)(e5:eu):Prop where
 dI:Y.get? X=E (qs aJ bH)
 ns:Y.Ns1 bH e5
 ne:bH≠X
theorem Tg {Y:Heap}{bH:aV}{e5:eu}(z:Y.Ns1 bH e5):∃a,Y.get? bH=E a/\∀name,yO name a=E (e5 name):=by
 obtain⟨C,aw,i,b,c,d,_,f⟩:=z;refine⟨C,b,λname=>?_⟩
 have e:=f name;unfold nsFind findBy at e;rw[<- Array.find?_toList]at e;unfold yO;rw[c];dsimp only;split
 ·rename_i t V
  rw[V]at e;exact congrArg E e
 ·rename_i V
  rw[V]at e;have S:aw.toList.any (·.refKey)=ax:=by
   rw[List.any_eq_false];intro t g;obtain⟨I,n,h⟩:=d t (Array.mem_toList_iff.mp g);simp[DictEntry.refKey,h]
  rw[if_neg (by rw[S];exact pb)]
  exact congrArg E e
theorem sa.zl {Y:Heap}{X bH aJ:aV}{e5:eu}(b:sa Y X bH aJ e5):∃a,W.InstAt Y X (qs aJ bH) aJ (E a)/\∀name,yO name a=E (e5 name):=
 let⟨a,c,d⟩:=Tg b.ns
 ⟨a,⟨b.dI,rfl,rfl,c⟩,d⟩
section
variable {prog:cW}{r:cF}{p:dp}{l:aR->aY->Prop}{A:aY}{J:bD}{X bH aJ w:aV}{e5:eu}{name:Str}{v:aR}
theorem Th {a:Bool}{q:aR->aY->Prop}(H:J.In A.heap)(b:sa A.heap X bH aJ e5)(c:tT J aJ name=ae)(d:tS J aJ=ae)
  (e:i6 J (.ref aJ) name=E k) (f:e5 name=E v) (g:W.handedIn v=ae) (Y:q v {A with toks:=A.toks+1}):
  bM (model prog r) p (getAttr (.ref X) name a) q l A:=by
 obtain⟨j,h,i⟩:=b.zl;exact W.get_value H h (CH c).1 (W.findObj_own d e rfl (by rw[i,f])) g Y
theorem Ti {b:Sem Bool}{q:aR×cu->aY->Prop}(H:J.In A.heap)(c:sa A.heap X bH aJ e5)(a:tT J aJ name=ae)
  (d:i6 J (.ref aJ) name=E (E (.ref w))) (e:rQ J (.ref w)=ae) (f:e5 name=k) (Y:q (.ref w,[.ref X]) A):
  bM (model prog r) p (getMethod (.ref X) name b) q l A:=by
 obtain⟨g,h,i⟩:=c.zl;exact W.method_fn H h (CH a).1 (CH a).2 d (beq_iff_eq.mp e) (by show(yO name g).map _=E ax;rw[i,f];rfl) Y
theorem Tj {d:cx}{q:Unit->aY->Prop}(H:J.In A.heap)(c:sa A.heap X bH aJ e5)
  (h:i6 J (.ref aJ) "__setattr__"=E (E (.builtin "object.__setattr__"))) (i:yL J aJ=ae) (j:CL J aJ name=E k) (m:tS J aJ=ae)
  (hw:yo e5 d) (x:d.length<=cw)
  (Y:∀aE,sa aE X bH aJ (λt=>if t=name then E v else e5 t)->rL bH A.heap aE->q () {A with heap:=aE,toks:=A.toks+2}):
  bM (model prog r) p (setAttr (.ref X) name v) q l A:=by
 obtain⟨y,e,z⟩:=c.zl;refine W.set_plain H e h (W.osa_open  (r:=k) H e i j λb=>?_)
 obtain⟨B,n,o⟩:=W.any_some m;refine bK (dx (bK (bK (wpAny_loadPart c.dI (bK (W.Looks.here  (W.looks_clsIn H n) ?_))))));rw[o];refine dx (a:=E bH) (bK (dx (bK ?_)));refine wpAny_nsSet1  c.ns λaE f g=>?_
 obtain⟨C,D,F,s,u,w⟩:=f.count (RS name v hw);refine bK (wpAny_lookBehind s (by rw[u];exact pastItsLine_dict (jP w (by rw[ee];lia))) ?_)
 exact dx (Y _ ⟨(g.2 _ (oh c.ne)).trans c.dI,f,c.ne⟩ g)
theorem Tn {bp:Result->aY->Prop}{c:cu}{a:pk}(H:J.In A.heap)(b:yN J aJ=ae)
  (aB:i6 J (.ref aJ) "__init__"=E (E (.ref w))) (d:CN J (.ref w)=E (.type "function"))
  (Y:codeAny (model prog r) (p.under (.builtin "type.__call__" ⟨.ref aJ::c,a⟩)) (.call (.ref w) ⟨.ref (A.heap.objs.size+1)::c,a⟩) (W.InitBack (A.heap.objs.size+1) bp)
   {A with heap:=(A.heap.push pg).push (qs aJ A.heap.objs.size)}):
  codeAny (model prog r) p (.call (.ref aJ) ⟨c,a⟩) bp A:=by
 obtain⟨f,g,y,n,h⟩:=A;exact W.make_core (W.makes_of H b) (W.looks_findIn H aB) (λe=>W.bind_fn H e d) (.inl rfl) Y
end
noncomputable def ir (w:Str)(v:aL):List (Str×aL)->nA
 |[]=>[(w,v)]|(g,X)::G=>if g=w then(g,v)::G else(g,X)::ir w v G
theorem JL (w g:Str)(v:aL):∀av:nA,(ir w v av).lookup g=if g=w then E v else av.lookup g
 |[]=>by
  show rK g [(w,v)]=_
  by_cases Y:g=w
  ·have a  := beq_iff_eq.mpr Y
   simp only[rK,a,if_pos Y]
  ·have a  := beq_eq_false_iff_ne.mpr Y
   simp only[rK,a,if_neg Y]
 |(D,X)::G=>by
  have c:=JL w g v G;rw[show ir w v _=(if D=w then(D,v)::G else(D,X)::ir w v G)from rfl]
  by_cases b:D=w
  ·rw[if_pos b]
   by_cases Y:g=D
   ·have a  := beq_iff_eq.mpr Y
    simp only[rK,a,if_pos (Y.trans b)]
   ·have a  := beq_eq_false_iff_ne.mpr Y
    simp only[rK,a,if_neg (λe:g=w=>Y (e.trans b.symm))]
  ·rw[if_neg b]
   by_cases Y:g=D
   ·have a  := beq_iff_eq.mpr Y
    simp only[rK,a,if_neg (λe:g=w=>b (Y.symm.trans e))]
   ·have a  := beq_eq_false_iff_ne.mpr Y
    simp only[rK,a];exact c
theorem Dr (w:Str)(v:aL):∀av:nA,w∈(ir w v av).map (·.1)/\∀g,g∈av.map (·.1)->g∈(ir w v av).map (·.1)
 |[]=>⟨by simp[ir],λg Y=>by simp at Y⟩|(D,X)::G=>by
  obtain⟨a,b⟩:=Dr w v G;rw[show ir w v _=(if D=w then(D,v)::G else(D,X)::ir w v G)from rfl]
  grind
theorem JM (w:Str)(v:aL):∀av:nA,(ir w v av).length<=av.length+1
 |[]=>by simp[ir]
 |(D,X)::G=>by
  have a:=JM w v G;rw[show ir w v _=(if D=w then(D,v)::G else(D,X)::ir w v G)from rfl]
  grind
theorem kH.Ds {v:aL}{C:qw}(G:kH (E v) C):∃u,C=E u/\cc v u:=by
 cases C with
 |none=>trivial|some u=>exact⟨u,rfl,G⟩
theorem kH.To {C:qw}(G:kH k C):C=k:=by
 cases C with
 |none=>rfl|some u=>trivial
theorem Tp {v:aL}{u:aR}(G:cc v u):W.handedIn u=ae:=by
 cases v with
 |a9=>cases(G);rfl|aM b=>cases(G);rfl|a0 S=>cases(G);rfl|fW z=>cases(G);rfl |_=>obtain⟨n,e⟩:=(G);cases (e);rfl
section
variable {P:cW}{r:cF}{R:aj}{Y:Heap}{S aJ bH:aV}{av:nA}
theorem zm (a:gh P r R Y)(e:R S=E (.e1 aJ bH av)):∃e5,sa Y S bH aJ e5/\(∀w,kH (av.lookup w) (e5 w))/\yo e5 (av.map (·.1))/\av.length<=1000/\R bH=E (.e4 S):=by
 obtain⟨y,I,ne,b,e5,z,G,V⟩:=(a S _ e);exact⟨e5,⟨b,z,ne⟩,G,V,I,y⟩
end
structure lG (J:bD)(aJ:aV):Prop where
 Tq:tT J aJ CQ=ae
 gi:tS J aJ=ae
 Tr:yL J aJ=ae
 Ts:i6 J (.ref aJ) "__setattr__"=E (E (.builtin "object.__setattr__"))
theorem lG.gQ {J:bD}{aJ:aV}(Q:lG J aJ)(w:Str):tT J aJ w=ae:=Q.Tq
def pA (J:bD)(aJ:aV)(w:Str):Prop:=i6 J (.ref aJ) w=E k
theorem pA.Tt {J:bD}{aJ:aV}{w:Str}(z:pA J aJ w):CL J aJ w=E k:=by
 unfold CL;rw[z];rfl
structure zo (J:bD)(aJ:aV)(h:Str)(w:aV):Prop where
 ow:i6 J (.ref aJ) h=E (E (.ref w))
 ho:rQ J (.ref w)=ae
 lH:kE J (.ref w)=ae
section
variable {H:bQ}{ag:di}{o:bU}{R:aj}{A:aY}{S aJ bH:aV}{av:nA}{w:Str}{v:aL}{p:dp}{l:aR->aY->Prop}
theorem Tu {b:Bool}{q:aR->aY->Prop}(a:a6 H ag o R A)(e:R S=E (.e1 aJ bH av))(Q:lG H.J aJ)(z:pA H.J aJ w)(s:av.lookup w=E v)
  (Y:∀u bc,a6 H ag o R bc->cc v u->q u bc):bM (model H.cb H.r) p (getAttr (.ref S) w b) q l A:=by
 obtain⟨e5,bl,G,_,_,_⟩:=zm a.cA e;obtain⟨u,d,c⟩:=kH.Ds   (by rw[<- s];exact G w)
 exact Th a.gS bl (Q.gQ w) Q.gi z d (Tp c) (Y u _ (a.fX _) c)
theorem JN {h:Str}{g:aV}{b:Sem Bool}{q:aR×cu->aY->Prop}(a:a6 H ag o R A)(e:R S=E (.e1 aJ bH av))(Q:lG H.J aJ)(D:zo H.J aJ h g)(s:av.lookup h=k)
  (Y:q (.ref g,[.ref S]) A):bM (model H.cb H.r) p (getMethod (.ref S) h b) q l A:=by
 obtain⟨e5,bl,G,_,_,_⟩:=zm a.cA e;exact Ti a.gS bl (Q.gQ h) D.ow D.ho (kH.To (by rw[<- s];exact G h)) Y
theorem Tv {t:aL}{u:aR}{q:Unit->aY->Prop}(a:a6 H ag o R A)(e:R S=E (.e1 aJ bH av))(Q:lG H.J aJ)(z:pA H.J aJ w)(s:av.length<1000)(h:cc t u)
  (Y:∀bc,a6 H ag o (b8 R S (.e1 aJ bH (ir w t av))) bc->q () bc):bM (model H.cb H.r) p (setAttr (.ref S) w u) q l A:=by
 obtain⟨e5,bl,G,d,_,f⟩:=zm a.cA e;have i:(av.map (·.1)).length<=cw:=by rw[ct,sizeLine_eq];lia
 refine Tj a.gS bl Q.Ts Q.Tr z.Tt Q.gi d i λaE c j=>Y _ ?_
 refine a.qz (X:=S) (e:=bH) (by rw[e];exact mb) (.inr f) (λb V m I=>(j.2 b m).trans I) (let⟨C,_,_,n,_⟩:=c.ns;⟨C,n⟩) ?_
 refine⟨by rw[fN bl.ne];exact f,?_,bl.ne,c.dI,_,c.ns,λg=>?_,λg r=>?_⟩
 ·have:=JM w t av;lia
 ·rw[JL]
  by_cases V:g=w
  ·rw[if_pos V,if_pos V];exact h
  ·rw[if_neg V,if_neg V];exact G g
 ·by_cases V:g=w
  ·rw[V];exact(Dr w t av).1
  ·refine(Dr w t av).2 g (d g λI=>r ?_)
   show(if g=w then E u else e5 g)=k
   rw[if_neg V];exact I
theorem a6.Tw (c:a6 H ag o R A):a6 H ag o (b8 (b8 R A.heap.objs.size (.e4 (A.heap.objs.size+1))) (A.heap.objs.size+1) (.e1 aJ A.heap.objs.size []))
  {A with heap:=(A.heap.push pg).push (qs aJ A.heap.objs.size)}:=by
 have aN:(A.heap.push pg).get? A.heap.objs.size=E pg:=gf A.heap rfl;have az:((A.heap.push pg).push (qs aJ A.heap.objs.size)).get? (A.heap.objs.size+1)=E (qs aJ A.heap.objs.size):=by
  have:=gf (A.heap.push pg) (o:=qs aJ A.heap.objs.size) rfl;rwa[qq]at this
 have d:(A.heap.push pg).Ns A.heap.objs.size (λ_=>k):=⟨pg,#[],_,aN,rfl,(λe f=>absurd f (by simp)),λ_=>rfl⟩
 have g:=c.gR (S:=A.heap.objs.size) (C:=.e4 (A.heap.objs.size+1)) (aE:=A.heap.push pg) (d:=A.toks) (λb u V=>el _ V) (cM _) ⟨_,aN⟩
 refine g.gR (S:=A.heap.objs.size+1) (C:=.e1 aJ A.heap.objs.size []) (d:=A.toks) (λb u V=>el _ V) (tR (qq _ _)) ?_
 have ne:A.heap.objs.size≠A.heap.objs.size+1:=gg (vO _);refine⟨by rw[fN ne,js],jl _,ne,az,λ_=>k,(Heap.Ns1.of_empty d).at λC V=>el _ V,λ_=>mb,λt h=>absurd rfl h⟩
theorem Tx {prog:cW}{r:cF}{x:Env}{e:bI}{w:Str}{pos:Pos}{A:aY}{q:aR->aY->Prop}(a:attributeBase e w x (eval e x)=eval e x)
  (Y:bM (model prog r) p (eval e x) (λC b=>bM (model prog r) p (getAttr C w ae) q l b) l A):bM (model prog r) p (eval (.Attribute e w pos) x) q l A:=
 Attribute_any_ Y (by rw[arm_eval_Attribute,a])
end
section
variable {H:bQ}{ag:di}{o:bU}{R:aj}{A:aY}{p:dp}{l q:aR->aY->Prop}{Q:aR}{b:Bool}
inductive mh (J:bD) (R:aj):aL->aR->Prop where
 |a9:mh J R .a9 (.type "NoneType")
 |aM (X:Bool):mh J R (.aM X) (.type "bool")
 |d (O:Int):mh J R (.d O) (.type "int")
 |f (X:Str):mh J R (.f X) (.type "str")
 |vZ (X:UInt64):mh J R (.vZ X) (.type "float")
 |aG {S:aV}{m:List aL}(e:R S=E (.aG m)):mh J R (.a0 S) (.type "list")
 |h4 {S:aV}{C:iU}{m:List aL}(e:R S=E (.h4 C (.aG m))):mh J R (.a0 S) (.type "list")
 |a_ {S:aV}{m:List aL}(e:R S=E (.a_ m)):mh J R (.a0 S) (.type "tuple")
 |ey {S:aV}{ba:List (d9×aL)}(e:R S=E (.ey ba)):mh J R (.a0 S) (.type "dict")
 |lF {S:aV}{ba:List (List d9×aL)}(e:R S=E (.lF ba)):mh J R (.a0 S) (.type "dict")
 | e1 {S aJ bH:aV}{av:List (Str×aL)}(e:R S=E (.e1 aJ bH av)) (bZ:lG J aJ) (a:i6 J (.ref aJ) "__class__"=E (E (.builtin "object.__class__")))
   (b:yM J (.builtin "object.__class__") "__get__"=E (E (.builtin "getset_descriptor.__get__"))) (c:W.takesIn J (.builtin "object.__class__")=E ae)
   (g:rP J aJ (.type "object")=E ae):mh J R (.a0 S) (.ref aJ)
theorem Tz {X:aL}{u n:aR}(a:a6 H ag o R A)(g:cc X u)(fW:mh H.J R X n)(e:yP H.J n Q=E b)(Y:∀i,q (.bool b) {A with toks:=i}):
  bM (model H.cb H.r) p (call (.builtin "isinstance") [u,Q]) q l A:=by
 cases fW with
 |a9=>cases(show u=kF from g);exact nz W.kitx_none a.gS mb e (λI=>nomatch I) Y|aM t=>cases(show u=rS t from g);exact nz W.kitx_bool a.gS mb e (λI=>nomatch I) Y|d O=>obtain⟨n,V⟩:=(show∃n,u=yU O n from g);cases V;exact nz W.kitx_int a.gS mb e (λI=>nomatch I) Y|f t=>obtain⟨n,V⟩:=(show∃n,u=vR t n from g);cases V;exact nz W.kitx_str a.gS mb e (λI=>nomatch I) Y|vZ t=>obtain⟨n,V⟩:=(show∃n,u=IX t n from g);cases V;exact nz W.kitx_float a.gS mb e (λI=>nomatch I) Y| @aG S m h=>
  cases(show u=jR S from g)
  obtain⟨_,_,z,_,ab⟩:=(show h5 H.cb H.r R A.heap S (.aG m)from a.cA S _ h)
  exact nz W.kitx_list a.gS ⟨_,ab,rfl⟩ e (λI=>nomatch I) Y
 | @h4 S j m h=>
  cases(show u=jR S from g)
  obtain⟨_,_,_,z,_,ab⟩:=(show h5 H.cb H.r R A.heap S (.h4 j (.aG m))from a.cA S _ h)
  exact nz W.kitx_list a.gS ⟨_,ab,rfl⟩ e (λI=>nomatch I) Y
 | @a_ S m h=>
  cases(show u=jR S from g)
  obtain⟨_,_,_,N⟩:=(show h5 H.cb H.r R A.heap S (.a_ m)from a.cA S _ h)
  obtain⟨C,ab,af,_⟩:=N;exact nz W.kitx_tuple a.gS ⟨C,ab,af⟩ e (λI=>nomatch I) Y
 | @ey S ba h=>
  cases(show u=jR S from g)
  obtain⟨_,_,c,_,N⟩:=(show h5 H.cb H.r R A.heap S (.ey ba)from a.cA S _ h)
  obtain⟨C,aw,r,ab,af,_⟩:=N;exact nz W.kitx_dict a.gS ⟨C,ab,af.1⟩ e (λI=>nomatch I) Y
 | @lF S ba h=>
  cases(show u=jR S from g)
  obtain⟨_,_,m,_,C,aw,r,ab,af,_⟩:=(show h5 H.cb H.r R A.heap S (.lF ba)from a.cA S _ h)
  exact nz W.kitx_dict a.gS ⟨C,ab,af.1⟩ e (λI=>nomatch I) Y
 | @e1 S aJ bH av h bZ s v w x=>
  cases(show u=jR S from g)
  obtain⟨e5,bl,_⟩:=zm a.cA h;obtain⟨B,y,_⟩:=bl.zl;exact nz (W.kitx_own (bZ.gQ _) bZ.gi s v w x) a.gS y e (λI=>nomatch I) Y
end
structure gk (D:Nat)(p:dp):Prop where
 gi:p.handled=k
 wd:p.depth+3*D+5<recursionLimit
 aH:p.units+16*D+200<cLine
theorem gk.bJ {j D:Nat}{p:dp}(G:gk D p)(Y:j<=D):gk j p:=⟨G.gi,by have:=G.wd;lia,by have:=G.aH;lia⟩
theorem gk.deeper {D:Nat}{p:dp}(G:gk (D+1) p)(x:Env):gk D (p.deeper x):=
 ⟨G.gi,by have:=G.wd;show p.depth+1+3*D+5<_;lia,by have:=G.aH;show p.units+3+16*D+200<_;lia⟩
theorem TA {p:dp}{aJ:aV}{aa:cu}{a:pk}:(p.under (.builtin "type.__call__" ⟨.ref aJ::aa,a⟩)).depth=p.depth+1:=by
 first |rfl |simp[Around.under,Code.weight,Code.isCreation,Code.isGuard,Code.isCaller,Code.frames,Code.isFrame,guardIds]
theorem TB {p:dp}{aJ:aV}{aa:cu}{a:pk}:(p.under (.builtin "type.__call__" ⟨.ref aJ::aa,a⟩)).units=p.units+1:=by
 first |rfl |simp[Around.under,Code.cUnits,Code.frames,Code.isFrame]
theorem gk.i9 {D:Nat}{p:dp}(G:gk (D+1) p)(aJ:aV)(aa:cu)(a:pk):gk D (p.under (.builtin "type.__call__" ⟨.ref aJ::aa,a⟩)):=
 ⟨G.gi,by have:=G.wd;rw[TA];lia,by have:=G.aH;rw[TB];lia⟩
theorem gk.depth {D:Nat}{p:dp}(G:gk D p):p.depth<recursionLimit:=by have:=G.wd;lia
def hG:fg:=λ_ R q=>q [] R
def gT (bE:bN)(a:fg):fg:=λo R q=>bE o R λX ar=>a o ar λm a5=>q (X::m) a5
section
variable {H:bQ}{e:bI}{aw:ew}{dH:bN}{n:fg}{pos:Pos}
theorem we:gF H [] hG:=λ_ _ _ _ R q a Y=>Calls.spliced_nil ⟨[],R,a,.nil,Y⟩
theorem pB (a:bt H e dH)(b:gF H aw n)(c:ej (e::aw) H.x=(ax,eval e H.x)::ej aw H.x:=by rfl):gF H (e::aw) (gT dH n):=by
 intro pos ag A o R q d Y;rw[c];show bM _ _ (spliced ((ax,eval e _)::h1 pos _)) _ _ A
 exact Calls.spliced_cons (b9 (a ag A o R _ d Y) λu bh ⟨X,ar,f,bC,g⟩=>b9 (b pos ag bh o ar _ f g) λaa bj ⟨m,a5,h,bR,i⟩=>⟨X::m,a5,h,.cons bC bR,i⟩)
def wg (n:fg):bN:=λo R q=>n o R λm ar=>m.length<=cw/\∀N,ar N=k->q (.a0 N) (b8 ar N (.a_ m))
def Dt (n:fg):bN:=λo R q=>n o R λm ar=>m.length<=cw/\∀N,ar N=k->q (.a0 N) (b8 ar N (.aG m))
theorem JO {x1}(Y:gF H aw n):bt H (.Tuple aw x1 pos) (wg n):=by
 intro ag A o R q c d;refine wpAny_Tuple_spliced (b9 (Y pos ag A o R _ c d) λaa bh ⟨m,ar,a,G,I,V⟩=>⟨by rwa[<- G.dB],?_⟩)
 refine⟨.a0 _,b8 ar _ _,a.gR  (λb u e=>el _ e) (cM _) ?_,rfl,V _ (a.cA.fm (cM _))⟩
 exact⟨I,aa,G,⟨_,gf _ rfl,rfl,_,rfl⟩⟩
theorem TC (Y:gF H aw n):bt H (.List aw pos) (Dt n):=by
 intro ag A o R q c d;refine wpAny_List_spliced (b9 (Y pos ag A o R _ c d) λaa bh ⟨m,ar,a,G,I,V⟩=>⟨by rwa[<- G.dB],?_⟩)
 refine⟨.a0 _,b8 ar _ _,a.gR  (λb u e=>el _ e) (cM _) ?_,rfl,V _ (a.cA.fm (cM _))⟩
 exact⟨I,aa,0,G,gf _ rfl⟩
end
theorem TF {ay:Type}{N:Prop}{a:Model}{p:dp}{n:Sem ay}{q:ay->aY->Prop}{l:aR->aY->Prop}{A:aY}(Y:0<A.toks\/N)(h:N->nB n)(V:bM a p n (λS bc=>0<bc.toks->q S bc) l A):bM a p n q l A:=
 Y.elim (λI=>j_ (kC V (λ_ _ D s=>D (hY I s)) λ_ _ D _=>D)) λI=>Se (h I) V
abbrev gH:=a3->aj->bX->b4->Prop
abbrev i_:=lE->aj->aY->b4->aR->aY->Prop
structure qC (P:cW)(r:cF)(J:bD)(a7:eu)(bg:Heap)(p:dp)(a:lE)(A:aY)(R:aj):Prop where
 frames:p.frames=E a
 dU:Mod J a7 bg
 f6:∀b C,bg.get? b=E C->A.heap.get? b=E C/\R b=k
 pv:bg.objs.size<=A.heap.objs.size
 mT:A.heap.FunFrames bg a
 r2:∀b∈md a,R b=k
 cA:gh P r R A.heap
 kZ:AllBare A.gens
 c5:v5 J R
def e2 (a:lE)(P:cW)(r:cF)(R:aj)(A:aY)(q:bX)(u:aR)(bc:aY):Prop:=
 ∃v aq,bc.os=A.os/\AllBare bc.gens/\ip (md a) [] R aq A.heap bc.heap/\gh P r aq bc.heap/\0<bc.toks/\cc v u/\q v aq
def JP (dk:i_)(a:lE)(P:cW)(r:cF)(R:aj)(A:aY)(q:bX)(l:b4)(G:Result)(bc:aY):Prop:=
 match G with
 |.ok (.ret u)=>e2 a P r R A q u bc|.ok _=>False|.error e=>dk a R A l e bc
abbrev ud:cx:=["_law_script"]
structure gI (P:cW)(r:cF)(J:bD)(a7:eu)(bg:Heap)(dk:i_)(D:Nat)(w:aV)(bG:hk)(aF:cx)(cf:gH):Prop where
 b6:∀c R q l,cf c R q l->c.length=aF.length
 gm:∀(p:dp) (a:lE) (A:aY) (R:aj) (b:Args) (aa:cu) (c:a3) (q:bX) (l:b4),gk D p->qC P r J a7 bg p a A R->0<A.toks\/aF=ud->BindsTo A bG b (aF.zip aa)->b3 c aa->cf c R q l ->
  codeAny (model P r) p (.call (.ref w) b) (JP dk a P r R A q l) A
theorem qC.i9 {P:cW}{r:cF}{J:bD}{a7:eu}{bg:Heap}{p:dp}{a:lE}{A:aY}{R:aj}(e:qC P r J a7 bg p a A R)(aJ:aV)(aa:cu)(b:pk):
  qC P r J a7 bg (p.under (.builtin "type.__call__" ⟨.ref aJ::aa,b⟩)) a A R:=⟨e.frames,e.dU,e.f6,e.pv,e.mT,e.r2,e.cA,e.kZ,e.c5⟩
section
variable {H:bQ}{ag:di}{o:bU}{R:aj}{A bc:aY}
theorem a6.JQ (a:a6 H ag o R A):qC H.cb H.r H.J H.a7 H.bg H.p H.hn A R:=
 ⟨a.i.frames,a.i.dU,a.f6,jP a.i.pv a.za,a.hn,a.Ju,a.cA,a.kZ,a.c5⟩
theorem a6.JR {q:bX}{u:aR}(a:a6 H ag o R A)(Y:e2 H.hn H.cb H.r R A q u bc):kb H ag o q u bc:=by
 obtain⟨v,aq,c,d,e,f,h,G,V⟩:=Y;obtain⟨i,g,y,n,j⟩:=bc;obtain rfl:j=A.os:=c;exact⟨v,aq,a.b7 (aE:=i) (g:=g) (dO:=y) (i:=n) (d:=[]) e f d (λb I=>absurd I (by simp)) h,G,V⟩
end
def qD (cf:gH)(fh:a3)(l:b4)(n:fg):bN:=λo R q=>n o R λc ar=>cf (c++fh) ar q l
def zp (aJ:aV)(h:Str)(cf:gH)(fh:a3)(l:b4)(bE:bN)(n:fg):bN:=λo R q=>bE o R λX ar=>∃S bH av,X=.a0 S/\ar S=E (.e1 aJ bH av)/\av.lookup h=k /\
 n o ar λc a5=>cf (X::(c++fh)) a5 q l
def ue (aJ:aV)(cf:gH)(fh:a3)(l:b4)(n:fg):bN:=λo R q=>n o R λc ar=>∀X bH,ar X=k->ar bH=k->bH≠X ->
 cf (.a0 X::(c++fh)) (b8 (b8 ar bH (.e4 X)) X (.e1 aJ bH [])) (λv a5=>v=.a9/\q (.a0 X) a5) l
def h7 (J:bD)(bG:hk)(aF:cx)(a:cu):Prop:=
 ∀(A:aY) (aa:cu),J.In A.heap->(aa++a).length=aF.length->BindsTo A bG ⟨aa,[]⟩ (aF.zip (aa++a))
theorem h7.all {J:bD}{bG:hk}{aF:cx}(Y:∀aa:cu,aa.length=aF.length->bindArgs bG ⟨aa,[]⟩=pure (aF.zip aa)):h7 J bG aF []:=λA aa _ a=>by
 rw[lC]at a ⊢;exact .of_eq (Y aa a)
def lI (dk:i_)(H:bQ)(l:b4):Prop:=∀(ag:di) (o:bU) (R:aj) (A:aY) (e:aR) (bc:aY),a6 H ag o R A->dk H.hn R A l e bc->H.e7 e bc
section
variable {H:bQ}{dk:i_}{D:Nat}{w aJ:aV}{bG:hk}{aF:cx}{cf:gH}{fh:a3}{a:cu}{l:b4}{X h:Str}{N pos fp:Pos}{e C:bI}{aw:ew}{bE:bN}{n:fg}
theorem zq {ag:di}{o:bU}{R:aj}{A:aY}{q:bX}{aa:cu}{c:a3}(F:gI H.cb H.r H.J H.a7 H.bg dk D w bG aF cf)(f:gk D H.p)(g:h7 H.J bG aF a)(h:b3 fh a)(i:lI dk H l)
  (b:a6 H ag o R A) (G:b3 c aa) (Y:cf (c++fh) R q l):bM (model H.cb H.r) H.p (call (.ref w) aa) (kb H ag o q) H.e7 A:=by
 have bR:b3 (c++fh) (aa++a):=G.dY h;have j:(aa++a).length=aF.length:=by rw[<- bR.dB];exact F.b6 _ _ _ _ Y
 refine wpAny_call (codeAny_mono (F.gm H.p H.hn A R ⟨aa,[]⟩ (aa++a) (c++fh) q l f b.JQ (.inl b.tk) (g A aa b.gS j) bR Y) λG bc d=>?_)
 cases G with
 |error e=>exact i ag o R A e bc b d|ok m=>
  cases m with
  |ret u=>exact b.JR d|next=>exact fG d|brk=>exact fG d|cont=>exact fG d
theorem TG (F:gI H.cb H.r H.J H.a7 H.bg dk D w bG aF cf)(f:gk D H.p)(g:iD H X)(h:H.a7 X=E (.ref w))(i:kE H.J (.ref w)=ae)(j:h7 H.J bG aF a)(m:b3 fh a)(r:lI dk H l)
  (s:gF H (e::aw) n) (t:(X==("__debug__":Str))=ax:=by decide) (u:ej (e::aw) H.x=(ax,eval e H.x)::ej aw H.x:=by rfl) (v:(h1 pos (ej aw H.x)).any (·.1)=ax:=by rfl):
  bt H (.Call (.Name X N) (e::aw) [] pos) (qD cf fh l n):=by
 intro ag A o R q b Y;exact tJ (v_ b g h (CJ  b.i.dU.v7 i (b9 (s pos ag A o R _ b Y) λaa bh ⟨c,ar,d,G,V⟩=>⟨d.gS,zq F f j m r d G V⟩) u v) t)
theorem TH (F:gI H.cb H.r H.J H.a7 H.bg dk D w bG aF cf)(c:gk D H.p)(d:iD H X)(e:H.a7 X=E (.ref w))(f:kE H.J (.ref w)=ae)(g:h7 H.J bG aF a)(h:b3 fh a)(i:lI dk H l)
  (j:(X==("__debug__":Str))=ax:=by decide):bt H (.Call (.Name X N) [] [] pos) (qD cf fh l hG):=by
 intro ag A o R q b Y;exact tJ (v_ b d e (CI b.gS f (zq (aa:=[]) F c g h i b .nil Y)) j)
theorem TJ {b:Sem Bool}(m:bt H C bE)(Q:lG H.J aJ)(d:zo H.J aJ h w)(F:gI H.cb H.r H.J H.a7 H.bg dk D w bG aF cf)(r:gk D H.p)(t:h7 H.J bG aF a)(v:b3 fh a)(x:lI dk H l)(y:gF H (e::aw) n)
  (z:ej (e::aw) H.x=(ax,eval e H.x)::ej aw H.x:=by rfl) (B:(h1 pos (ej aw H.x)).any (·.1)=ax:=by rfl)
  (I:eval (.Call (.Attribute C h fp) (e::aw) [] pos) H.x=(do
   let f <- eval C H.x
   standAt fp.atName
   let(w,first) <- holding [f] (getMethod f h b)
   callWith pos w first (h1 pos (ej (e::aw) H.x)) (pa pos (o_ [] H.x))):=by rfl):
  bt H (.Call (.Attribute C h fp) (e::aw) [] pos) (zp aJ h cf fh l bE n):=by
 intro ag A o R q g Y;refine IT (pl:=b) (b9 (m ag A o R _ g Y) λu bh J=>?_) I
 obtain⟨X,ar,i,K,S,bH,av,aW,L,s,V⟩:=J;subst aW;obtain rfl:u=jR S:=K;refine JN i L Q d s ?_;refine CJ (first:=[.ref S]) (h₀:=H.bg) g.i.dU.v7 d.lH (b9 (y pos ag bh o ar _ i V) λaa bj ⟨c,a5,j,G,M⟩=>⟨j.gS,?_⟩) z B
 exact zq (aa:=.ref S::aa) (c:=.a0 S::c) F r t v x j (.cons rfl G) M
theorem TK {c:Sem Bool}(f:bt H C bE)(Q:lG H.J aJ)(d:zo H.J aJ h w)(F:gI H.cb H.r H.J H.a7 H.bg dk D w bG aF cf)(g:gk D H.p)(i:h7 H.J bG aF a)(j:b3 fh a)(m:lI dk H l)
  (n:eval (.Call (.Attribute C h fp) [] [] pos) H.x=(do
   let e <- eval C H.x
   standAt fp.atName
   let(w,first) <- holding [e] (getMethod e h c)
   callWith pos w first (h1 pos (ej [] H.x)) (pa pos (o_ [] H.x))):=by rfl):
  bt H (.Call (.Attribute C h fp) [] [] pos) (zp aJ h cf fh l bE hG):=by
 intro ag A o R q r Y;refine IT (pl:=c) (b9 (f ag A o R _ r Y) λu bh t=>?_) n
 obtain⟨X,ar,b,v,S,bH,av,aW,x,s,V⟩:=t;subst aW;obtain rfl:u=jR S:=v;refine JN b x Q d s ?_;exact CI (first:=[.ref S]) b.gS d.lH (zq (aa:=[.ref S]) (c:=[.a0 S]) F g i j m b (.cons rfl .nil) V)
structure wh (J:bD)(aJ w:aV):Prop where
 TL:yN J aJ=ae
 TM:i6 J (.ref aJ) "__init__"=E (E (.ref w))
 ho:rQ J (.ref w)=ae
 lH:kE J (.ref aJ)=ae
theorem JS {ag:di}{o:bU}{R:aj}{A:aY}{q:bX}{aa:cu}{c:a3}(f:wh H.J aJ w)(F:gI H.cb H.r H.J H.a7 H.bg dk D w bG aF cf)(i:gk (D+1) H.p)(j:h7 H.J bG aF a)(m:b3 fh a)
  (n:lI dk H l) (d:a6 H ag o R A) (G:b3 c aa)
  (Y:∀X bH,R X=k->R bH=k->bH≠X->cf (.a0 X::(c++fh)) (b8 (b8 R bH (.e4 X)) X (.e1 aJ bH [])) (λv a5=>v=.a9/\q (.a0 X) a5) l):
  bM (model H.cb H.r) H.p (call (.ref aJ) aa) (kb H ag o q) H.e7 A:=by
 have h:=Y (A.heap.objs.size+1) _ (d.cA.fm (oe _)) (d.cA.fm (cM _)) (gg (vO _));have b:=a6.Tw (aJ:=aJ) d;have bR:b3 (aL.a0 (A.heap.objs.size+1)::(c++fh)) _:=.cons rfl (G.dY m);have r  := by
  have e:=bR.dB;rw[F.b6 _ _ _ _ h]at e;exact e.symm
 refine wpAny_call (Tn  d.gS f.TL f.TM (beq_iff_eq.mp f.ho) (codeAny_mono (F.gm _ _ _ _ _ _ _ _ l (i.i9 aJ aa [])
  (b.JQ.i9 aJ aa []) (.inl b.tk) (j _ _ b.gS r) bR h) λG bc g=>?_))
 cases G with
 |error e=>exact n ag o _ _ e bc b g|ok s=>
  cases s with
  |ret u=>
   obtain⟨v,aq,t,x,y,z⟩:=b.JR g;subst y;exact⟨x,⟨aL.a0 _,aq,t,rfl,z⟩⟩
  |_=>exact fG g
theorem TN (d:wh H.J aJ w)(F:gI H.cb H.r H.J H.a7 H.bg dk D w bG aF cf)(g:gk (D+1) H.p)(h:iD H X)(i:H.a7 X=E (.ref aJ))(j:h7 H.J bG aF a)(m:b3 fh a)(r:lI dk H l)
  (s:gF H (e::aw) n) (t:(X==("__debug__":Str))=ax:=by decide) (u:ej (e::aw) H.x=(ax,eval e H.x)::ej aw H.x:=by rfl) (v:(h1 pos (ej aw H.x)).any (·.1)=ax:=by rfl):
  bt H (.Call (.Name X N) (e::aw) [] pos) (ue aJ cf fh l n):=by
 intro ag A o R q b Y;exact tJ (v_ b h i (CJ  b.i.dU.v7 d.lH (b9 (s pos ag A o R _ b Y) λaa bh ⟨c,ar,f,G,V⟩=>⟨f.gS,JS d F g j m r f G V⟩) u v) t)
theorem TO (c:wh H.J aJ w)(F:gI H.cb H.r H.J H.a7 H.bg dk D w bG aF cf)(d:gk (D+1) H.p)(e:iD H X)(f:H.a7 X=E (.ref aJ))(g:h7 H.J bG aF a)(h:b3 fh a)(i:lI dk H l)
  (j:(X==("__debug__":Str))=ax:=by decide):bt H (.Call (.Name X N) [] [] pos) (ue aJ cf fh l hG):=by
 intro ag A o R q b Y;exact tJ (v_ b e f (CI b.gS c.lH (JS (aa:=[]) c F d g h i b .nil Y)) j)
end
structure ox (bw P:cx)(a:Scope):Prop where
 hp:a.kind=.function
 TP:a.isCoroutine=ax
 TQ:a.isGenerator=ax
 au:bw.Nodup
 pre:bw.take P.length=P
 JT:∀X∈P,a.names.lookup X=E .local\/a.names.lookup X=E .cell
 JU:∀t∈a.names,t.2≠.free
 ka:(!(P == ud)||P.any (λX=>a.names.lookup X == E .local))=ae
theorem ox.zip {bw P:cx}{a:Scope}{aa:cu}(c:ox bw P a)(d:P=ud)(Y:aa.length=P.length):∃b∈P.zip aa,a.names.lookup b.1=E .local:=by
 have I:=c.ka;rw[beq_iff_eq.mpr d]at I;obtain⟨X,f,e⟩:=yA.mp (I);obtain⟨O,aB,rfl⟩:=Ct f;exact⟨_,rH  (n:=O) (by rw[qn];lia),by rw[List.getElem_zip];exact eq_of_beq e⟩
theorem JV {b:Str->Option nx}{X:Str}:∀{a:pk}{h:eu},(∀v,(X,v)∉a)->bindL b a h X=h X
 |[],_,_=>rfl|(z,v)::G,h,Y=>by
  unfold bindL;rw[JV λr hw=>Y r (fM _ hw)]
  split
  ·have:X≠z:=by rintro rfl;exact Y v ek
   simp[this]
  rfl
theorem JW {b:Str->Option nx}{X:Str}:∀{a:pk}{h:eu},(∀v,(X,v)∉a)->bindC b a h X=h X
 |[],_,_=>rfl|(z,v)::G,h,Y=>by
  unfold bindC;rw[JW λr hw=>Y r (fM _ hw)]
  split
  ·rfl
  ·have:X≠z:=by rintro rfl;exact Y v ek
   simp[this]
theorem JX {a:Str->Option nx}{X:Str}{v:aR}:∀{P:cx}{c:cu}{O:Nat}{h:eu},P.Nodup->P[O]?=E X->c[O]?=E v->a X=E .local ->
  bindL a (P.zip c) h X=E v
 |[],_,_,_,_,Y,_,_=>by simp at Y
 |_::_,[],_,_,_,_,Y,_=>by simp at Y
 |N::P,r::c,0,h,b,ab,af,d=>by
  simp at ab af;subst ab af;show bindL a ((N,r)::P.zip c) h N=_
  unfold bindL;rw[JV λv e=>(qo.mp b).1 (rI e).1,if_pos d]
  simp
 |N::P,r::c,O+1,h,b,ab,af,d=>by
  unfold bindL;exact JX  (qo.mp b).2 (by simpa using ab) (by simpa using af) d
theorem JY {a:Str->Option nx}{X:Str}{v:aR}:∀{P:cx}{c:cu}{O:Nat}{h:eu},P.Nodup->P[O]?=E X->c[O]?=E v->a X≠E .local ->
  bindC a (P.zip c) h X=E v
 |[],_,_,_,_,Y,_,_=>by simp at Y
 |_::_,[],_,_,_,_,Y,_=>by simp at Y
 |N::P,r::c,0,h,b,ab,af,d=>by
  simp at ab af;subst ab af;show bindC a ((N,r)::P.zip c) h N=_
  unfold bindC;rw[JW λv e=>(qo.mp b).1 (rI e).1,if_neg d]
  simp
 |N::P,r::c,O+1,h,b,ab,af,d=>by
  unfold bindC;exact JY  (qo.mp b).2 (by simpa using ab) (by simpa using af) d
def mU (bw:cx)(c:a3):bU:=c.map E++fV (bw.length-c.length) k
def qE (dk:i_)(P:cW)(r:cF)(J:bD)(a7:eu)(bg:Heap)(bw:cx)(a:Str)(scope:Scope)(w:aV)(b:aR)(p:dp)(mc:lE)(A:aY)(R:aj)(l:b4):bQ where
 cb:=P
 r:=r
 J:=J
 a7:=a7
 bg:=bg
 p:=p.deeper (envOfC a scope A.heap.objs.size w b)
 bw:=bw
 jt:=A
 t6:=R
 x:=envOfC a scope A.heap.objs.size w b
 mc:=mc
 hn:=envOfC a scope A.heap.objs.size w b::mc
 aW:=[]
 fo:=ae
 ho:=λ_=>ae
 aA:=[]
 e7:=λe bc=>bM (model P r) (p.deeper (envOfC a scope A.heap.objs.size w b)) (leaving (envOfC a scope A.heap.objs.size w b) e) (λ_ c=>dk mc R A l e c) (λd c=>dk mc R A l d c) bc
theorem Du {a:Scope}{z:Nat}{X:Str}(Y:a.names.lookup X=E .cell):∃Q,(cellsFrom z a.names []).lookup X=E Q:=vQ.mp (IS _ z [] (.inl Y))
theorem TR {dk:i_}{P:cW}{r:cF}{J:bD}{a7:eu}{bg:Heap}{bw aF:cx}{h:Str}{scope:Scope}{w:aV}{i:aR}{p:dp}{j:lE}{A bh:aY}{R:aj}{l:b4}{aa:cu}{c:a3}
  (d:ox bw aF scope) (x:p.handled=k) (a:qC P r J a7 bg p j A R) (C:c.length=aF.length) (G:b3 c aa)
  (X:InCallC A A.heap.objs.size (bindL (envOfC h scope A.heap.objs.size w i).kindOf (aF.zip aa) λ_=>k) (cellsFrom (A.heap.objs.size+1) scope.names []) (bindC (envOfC h scope A.heap.objs.size w i).kindOf (aF.zip aa) λ_=>k) bh) (y:0<bh.toks):
  a6 (qE dk P r J a7 bg bw h scope w i p j A R l) [] (mU bw c) R bh:=by
 have F:aF.length<=bw.length:=by have:=congrArg ma d.pre;rw[lB]at this;lia
 obtain⟨ab,K,rfl,o⟩:=X.done;have m:∀b:aV,b∉(qE dk P r J a7 bg bw h scope w i p j A R l).aW:=λb I=>absurd (show b∈([]:List aV)from I) (by simp)
 refine⟨⟨a.dU,d.hp,rfl,rfl,cM _,λt I Q ab af=>?_,λt f=>?_,λt Q _ Y=>?_,λ_=>x,Around.frames_deeper a.frames,.inr ⟨rfl,rfl⟩,λb I=>absurd I (m b),a.f6,a.pv,λb _ _=>m b,λb I=>absurd I (m b),a.mT,a.r2,a.c5⟩,
  rfl,a.kZ,ip.iB o,⟨_,X.toInCall.ns,λO t v ab af br=>?_⟩,λt Q Y=>⟨_,X.cell t Q Y⟩,a.cA.fm (cM _),λt Q Y=>?_,λN g=>absurd (show N∈([]:di)from g) (by simp),a.cA.iB o,?_,y⟩
 ·exact name_of_addr X.apart (rC ab) (rC af)
 ·have f:scope.names.lookup t=E .cell\/scope.names.lookup t=E .free:=f
  rcases f with f |f
  ·exact Du f
  ·exact absurd rfl (d.JU _ (rC f))
 ·exact vP (X.above t Q (rC Y))
 ·have aB:O<c.length:=by
   unfold mU at af;by_cases aB:O<c.length
   ·exact aB
   ·rw[pe (by simpa using aB)]at af
    rw[List.getElem?_replicate]at af;split at af<;>cases af
  have z:c[O]?=E v:=by
   unfold mU at af;rw[tM (by simpa using aB),gC]at af
   cases e:c[O]? with
   |none=>rw[e]at af;cases af|some S=>rw[e]at af;cases (af);rfl
  obtain⟨u,q,B⟩:=G.gQ z;have g:aF[O]?=E t:=by
   rw[<- d.pre,ys (by lia)];exact ab
  have s:aF.Nodup:=by rw[<- d.pre];exact d.au.sublist (List.take_sublist _ _)
  refine⟨u,B,?_⟩;rcases d.JT t (qh g)with D |D
  ·exact .inl ⟨D,JX s g q D⟩
  ·obtain⟨Q,e⟩:=Du (z:=A.heap.objs.size+1) D
   refine .inr ⟨.inl D,Q,e,?_⟩;have V:=X.cell t Q e;rw[JY s g q (by show scope.names.lookup t≠_;rw[D];decide)]at V
   exact V
 ·exact a.cA.fm (vP (X.above t Q (rC Y)))
 ·unfold mU
  show _=bw.length
  rw[dq,ct,List.length_replicate];lia
theorem JZ {dk:i_}{P:cW}{r:cF}{J:bD}{a7:eu}{bg:Heap}{D:Nat}{w:aV}{name d:Str}{y:Arguments}{body:jo}{scope:Scope}{B F I K f L U:aR}{M Y:gv}
  {Z:mP}{bw aF:cx}{cf:gH}(lk:J.lookup w=E ⟨U,Y,.func (W.fnOf name d y body scope B F I K M f L),Z⟩) (ab:ph J f d=ae) (g:ox bw aF scope)
  (N:∀c R q l,cf c R q l->c.length=aF.length)
  (ac:∀(p:dp) (h:lE) (A:aY) (R:aj) (c:a3) (q:bX) (l:b4),gk D (p.deeper (envOfC d scope A.heap.objs.size w f))->cf c R q l ->
   ∃n,me (qE dk P r J a7 bg bw d scope w f p h A R l) body n/\n {de:=λ_ aq=>q .a9 aq,en:=q} (mU bw c) R):
  gI P r J a7 bg dk (D+1) w (W.fnOf name d y body scope B F I K M f L) aF cf:=by
 refine⟨N,λp h A R av aa c q l o j af ag G O=>?_⟩
 have Q:=N _ _ _ _ O;have S:J.In A.heap:=j.dU.v7.keeps λb C e=>(j.f6 b C e).1
 have ah:A.heap.NoLimit:=j.dU.nolimit.keeps λb C e=>(j.f6 b C e).1
 have ak:∀t∈aF.zip aa,scope.names.lookup t.1=E .local\/(scope.names.lookup t.1=E .cell/\((cellsFrom (A.heap.objs.size+1) scope.names []).lookup t.1).isSome=ae):=λ⟨z,v⟩ al=>by
  rcases g.JT z (rI al).1 with V |V
  ·exact .inl V
  ·exact .inr ⟨V,IS _ _ _ (.inl V)⟩
 refine codeAny_call_function o.depth (S _ _ lk) rfl g.TP g.TQ rfl (W.codeRec_of S ab) (ag _ _ _ _ ?_);refine TF af (λam=>Sd g.hp (g.zip am (G.dB.symm.trans Q))) (wpAny_newFunctionEnv_cells g.hp ak λx an bh X ao=>?_)
 subst an;refine⟨ah.keeps X.toInCall.keep,codeAny_func ?_⟩;obtain⟨n,ap,ar⟩:=ac p h A R c q l (o.deeper _) O;have as:a6 (qE dk P r J a7 bg bw d scope w f p h A R l) [] (mU bw c) R bh:=TR g o.gi j Q G X ao;refine kC (ap [] bh (mU bw c) R _ as ar) (λau bc i=>?_) λe bc i=>i
 have T:∀{m:bU}{aq:aj}{v:aL}{u:aR},a6 (qE dk P r J a7 bg bw d scope w f p h A R l) [] m aq bc->cc v u->q v aq->e2 h P r R A q u bc:=
  λ{m aq v u} a s V=>⟨v,aq,a.os,a.kZ,a.bg,a.cA,a.tk,s,V⟩
 cases au with
 |ret u=>
  obtain⟨v,m,aq,a,s,V⟩:=i;exact T a s V
 |next=>
  obtain⟨m,aq,a,V⟩:=i;exact T (v:=aL.a9) (u:=kF) a rfl V
 |brk=>
  obtain⟨_,_,_,V⟩:=i;exact fG V
 |cont=>
  obtain⟨_,_,_,V⟩:=i;exact fG V
section
variable {H:bQ}{X:Str}{N pos:Pos}{e:bI}{aw:ew}{n:fg}{id T:String}{G:a3->aj->bX->Prop}
def k1 (G:a3->aj->bX->Prop)(n:fg):bN:=λo R q=>n o R λc ar=>G c ar q
theorem TS (b:iG H (.builtin id) G)(d:iD H X)(f:H.a7 X=k)(g:oc X=E (.builtin id))(h:gF H (e::aw) n)(i:X ≠ "__name__":=by decide)(j:(X==("__debug__":Str))=ax:=by decide)
  (l:ej (e::aw) H.x=(ax,eval e H.x)::ej aw H.x:=by rfl) (m:(h1 pos (ej aw H.x)).any (·.1)=ax:=by rfl):bt H (.Call (.Name X N) (e::aw) [] pos) (k1 G n):=by
 intro ag A o R q a Y;refine tJ (r5 a d f g ?_ i j);exact Q7 (b9 (h pos ag A o R _ a Y) λaa bh ⟨c,ar,r,bC,s⟩=>b ag bh o ar c aa q r bC s) l m
theorem TU (b:iG H (.type T) G)(d:iD H X)(f:H.a7 X=k)(g:oc X=E (.type T))(h:gF H (e::aw) n)(i:X ≠ "__name__":=by decide)(j:(X==("__debug__":Str))=ax:=by decide)
  (l:ej (e::aw) H.x=(ax,eval e H.x)::ej aw H.x:=by rfl) (m:(h1 pos (ej aw H.x)).any (·.1)=ax:=by rfl):bt H (.Call (.Name X N) (e::aw) [] pos) (k1 G n):=by
 intro ag A o R q a Y;refine tJ (r5 a d f g ?_ i j);exact vV (b9 (h pos ag A o R _ a Y) λaa bh ⟨c,ar,r,bC,s⟩=>b ag bh o ar c aa q r bC s) l m
end
end L2
namespace HT
open PySem PyProof.Rows
section
open PySem.SeqAt
open PySem.AutoSeq1 (wpAny_loadPart')
open PySem.MeetsSeq PySem.MeetsSeq2 PySem.MeetsSeq3
end
section
variable {prog:cW}{r:cF}{p:dp}{l:aR->aY->Prop}{A:aY}
theorem TV {n b:aV}{c aD:cu}{q:aR->aY->Prop}(t:IsTup A.heap n c.toArray)(u:IsTup A.heap b aD.toArray)(f:c≠[])
  (ab:aD=[]->q (.ref n) A) (af:aD≠[]->q (.ref A.heap.objs.size) {A with heap:=A.heap.push {cls:=.type "tuple",data:=.seq (c++aD).toArray}})
  (v:c.length+aD.length<=cw):bM (model prog r) p (j4 .Add (.ref n) (.ref b)) q l A:=by
 obtain⟨⟨cls,c_,data,g⟩,a,h,z,i⟩:=id t;obtain⟨⟨w,j,x,m⟩,d,o,dC,s⟩:=id u;simp only at h i o s;subst h i o s;have e:c.toArray++aD.toArray=(c++aD).toArray:=by simp
 by_cases hw:aD=[]
 ·exact concat_meets ⟨_,a,rfl⟩ ⟨_,d,rfl⟩ noFill_tuple_add seq_tuple_add Jf Jd (Jc _ _)
   (tuple_addW1 n b c.toArray aD.toArray z dC c_ j g m (by simpa using f) (by simp[hw])) ⟨a,d,ab hw⟩
 ·refine concat_meets ⟨_,a,rfl⟩ ⟨_,d,rfl⟩ noFill_tuple_add seq_tuple_add Jf Jd (Jc _ _)
   (tuple_addW2 n b c.toArray aD.toArray z dC c_ j g m (by simpa using f) (by simpa using hw) (by rw[eQ,eQ];exact v)) ⟨a,d,?_⟩
  rw[e];exact af hw
noncomputable def dJ (z y:Nat):Option Int->Nat
 |none=>y|some v=>if v<0 then(v+(z:Int)).toNat else min v.toNat z
theorem Dv (z y:Nat)(a:y<=z)(C:ea):dJ z y C<=z:=by
 cases C with
 |none=>exact a|some v=>
  show(if v<0 then(v+z).toNat else min _ z)<=z
  by_cases b:v<0
  ·grind
  rw[if_neg b];exact IG _ _
theorem J0 (v:Int)(z y:Nat):(if v<0 then max (v+(z:Int)) 0 else min v (z:Int))=((dJ z y (E v):Nat):Int):=by
 show(if v<0 then max _ 0 else min v _)=(if v<0 then(v+z).toNat else min _ z)
 lia
theorem TX (a8 aB:ea)(z:Nat):I5 a8 aB 1 (z:Int)=(((dJ z 0 a8:Nat):Int),((dJ z z aB:Nat):Int)):=by
 refine C1 ?_ ?_
 ·cases a8 with
  |none=>rfl|some v=>exact J0 v z 0
 cases aB with
|none=>rfl
|some v=>exact J0 v z z
theorem TY (O j:Nat):CS (O:Int) (j:Int) 1=j-O:=by
 unfold CS;grind
theorem J1 {v:aR}{C:ea}{q:ea->aY->Prop}(N:IsPart v C)(Y:q C A):bM (model prog r) p (Rb v) q l A:=by
 cases N with
 |none=>exact slicePart_none Y|int O n=>exact slicePart_int Y
theorem TZ {e:aV}{a b:aR}{a8 aB:ea}{z:Nat}{q:Int×Int×Nat->aY->Prop}(f:A.heap.IsSliceOf e a b .none)(g:IsPart a a8)(h:IsPart b aB)
  (Y:q (((dJ z 0 a8:Nat):Int),1,dJ z z aB-dJ z 0 a8) A):bM (model prog r) p (Rc (.ref e) (pure (z:Int))) q l A:=by
 obtain⟨i,c,j,d⟩:=id f;refine bK (bK (nv c d (x:=a) rfl (bK (nv c d (x:=b) rfl (bK (nv c d (x:=.none) rfl (dx ?_)))))));refine bK (slicePart_none ?_);refine bK (J1 g (bK (J1 h (bK (dx ?_)))));show bM _ _ (match I5 a8 aB 1 _ with |(a8,aB)=>pure (a8,(1:Int),CS a8 aB 1)) _ _ A
 rw[TX a8 aB z];show bM _ _ (pure _) _ _ A
 rw[TY];exact dx Y
theorem T1 (m:g5)(O D:Nat):((fl D).filterMap λ(h:Nat)=>m[((O:Int)+(h:Int)*1).toNat]?).toArray=((m.toList.drop O).take D).toArray:=by
 have e:(λ(h:Nat)=>m[(O+(h:Int)*1).toNat]?)=λh=>m[O+h]?:=by
  funext h;have:((O:Int)+h*1).toNat=O+h:=by lia
  rw[this]
 rw[e];have:=pick_run m O D;rw[rG,(show((λX=>m[X]?)∘λX=>O+X)=λh=>m[O+h]? from rfl)]at this
 rw[this]
theorem T2 {n c:aV}{a:g5}{d e:aR}{a8 aB:ea}{q:aR->aY->Prop}(b:IsTup A.heap n a)(f:A.heap.IsSliceOf c d e .none)(g:IsPart d a8)(h:IsPart e aB)
  (hw:¬(dJ a.size 0 a8=0/\dJ a.size a.size aB=a.size))
  (Y:q (.ref A.heap.objs.size) {A with heap:=A.heap.push {cls:=.type "tuple",data:=.seq ((a.toList.drop (dJ a.size 0 a8)).take (dJ a.size a.size aB-dJ a.size 0 a8)).toArray}})
  (i:a.size<=cw):bM (model prog r) p (getItem (.ref n) (.ref c)) q l A:=by
 have j:sizeOk (.seq ((a.toList.drop (dJ a.size 0 a8)).take (dJ a.size a.size aB-dJ a.size 0 a8)).toArray):=by
  show((a.toList.drop (dJ a.size 0 a8)).take (dJ a.size a.size aB-dJ a.size 0 a8)).toArray.size<=cw
  rw[eQ,lB,qm,y1];exact jP (IG _ _) (jP (Nat.sub_le _ _) i)
 have w:dJ a.size a.size aB<=a.size:=Dv _ _ (cM _) aB;obtain⟨o,s,t,x⟩:=id f;have u:A.TypeIs (.ref c) "slice":=⟨o,s,t⟩;unfold getItem
 try with_reducible refine wpAny_holding ?_
 first |refine bK (dx ?_)|skip
 refine bK (wpAny_sequenceKey b.typeIs (by decide) ?_)
 refine bK (wpAny_callSpecial?_slot (name:=rU "__getitem__") b.typeIs CP
  (wpAny_call_entry CP b.typeIs entry_tuple_getitem ?_ (args_tuple_getitem _ _)))
 show bM _ _ (Rg (.ref n)>>=_) _ _ A
 refine bK (tupleItemsOf_ b ?_);refine bK (wpAny_typeOf u ?_);rw[if_pos (by decide)]
 refine bK (TZ f g h ?_);have v:¬((((dJ a.size 0 a8:Nat):Int) == 0 && (1:Int) == 1 && (dJ a.size a.size aB-dJ a.size 0 a8) == a.size)=ae):=by simp_all
 show bM _ _ (if(((dJ a.size 0 a8:Nat):Int) == 0 && (1:Int) == 1 && (dJ a.size a.size aB-dJ a.size 0 a8) == a.size)=ae then _ else _) _ _ A
 rw[if_neg v,T1];exact bK (m:=Rh _) (wpAny_newObj_type (dx ⟨_,rfl,dx Y⟩) j)
end
end HT
namespace L2
open PySem PySem.Spec PyProof.Rows
abbrev mV:=bU->aj->(ea->aj->Prop)->Prop
def qF (H:bQ)(e:pl)(n:mV):Prop:=
 ∀(ag:di) (A:aY) (o:bU) (R:aj) (q:ea->aj->Prop),a6 H ag o R A->n o R q ->
  bM (model H.cb H.r) H.p (evalPart e H.x) (λu bc=>∃C aq,a6 H ag o aq bc/\IsPart u C/\q C aq) H.e7 A
def zr:mV:=λ_ R q=>q k R
section
variable {H:bQ}{e:bI}{dH:bN}{a8 aB:pl}{hH sb:mV}{pos c7:Pos}
theorem T3:qF H k zr:=by
 intro ag A o R q a Y;exact dx ⟨k,R,a,.none,Y⟩
def nF (H:bQ)(G:aL->ea->ea->aj->bX->Prop):Prop:=
 ∀(ag:di) (A:aY) (o:bU) (R:aj) (X:aL) (v a b:aR) (a8 aB:ea) (c:aV) (q:bX),a6 H ag o R A->cc X v->A.heap.IsSliceOf c a b .none->IsPart a a8->IsPart b aB->G X a8 aB R q ->
  ∃T id,typeLookup (.type T) "__getitem__"=pure (E (.builtin id))/\A.TypeIs v T/\bM (model H.cb H.r) H.p (getItem v (.ref c)) (kb H ag o q) H.e7 A
theorem nF.or {G a:aL->ea->ea->aj->bX->Prop}(Y:nF H G)(aE:nF H a):nF H (λX a8 aB R q=>G X a8 aB R q\/a X a8 aB R q):=by
 intro ag A o R X v b c a8 aB d q e f g h i V;rcases V with V |V
 ·exact Y ag A o R X v b c a8 aB d q e f g h i V
 exact aE ag A o R X v b c a8 aB d q e f g h i V
def Dw (G:aL->ea->ea->aj->bX->Prop)(dH:bN)(hH sb:mV):bN:=λo R q=>dH o R λX ar=>hH o ar λs a5=>sb o a5 λu a=>G X s u a q
theorem T4 {G:aL->ea->ea->aj->bX->Prop}(h:nF H G)(i:bt H e dH)(j:qF H a8 hH)(l:qF H aB sb):bt H (.Subscript e (.Slice a8 aB k c7) pos) (Dw G dH hH sb):=by
 intro ag A o R q m Y;refine Subscript_ (b9 (i ag A o R _ m Y) λv bh f=>?_)
 obtain⟨X,ar,n,bC,r⟩:=f;refine wpAny_Slice (b9 (j ag bh o ar _ n r) λc bj ⟨s,a5,t,w,x⟩=>b9 (l ag bj o a5 _ t x) λd a f=>?_)
 obtain⟨u,g,y,z,B⟩:=f;rw[evalPart_none];refine dx ?_;have C:a6 H ag o g {a with heap:=a.heap.push {cls:=.type "slice",data:=.fields #[c,d,.none]}}:=y.iB (a:=a.toks) λb J V=>el _ V
 obtain⟨T,id,D,F,I⟩:=h ag {a with heap:=a.heap.push {cls:=.type "slice",data:=.fields #[c,d,.none]}} o g X v c d s u a.heap.objs.size q C bC (Jp ..) w z B;show bM (model H.cb H.r) H.p (subscriptTail e (.Slice a8 aB k c7) v (.ref a.heap.objs.size)) (kb H ag o q) H.e7 {a with heap:=a.heap.push {cls:=.type "slice",data:=.fields #[c,d,.none]}}
 exact tail_any (ops:=[.ref a.heap.objs.size,v]) F D I (by with_unfolding_all rfl)
def qG (m:a3)(a8 aB:ea):List aL:=(m.drop (HT.dJ m.length 0 a8)).take (HT.dJ m.length m.length aB-HT.dJ m.length 0 a8)
theorem J2 (m:a3)(a8 aB:ea):(qG m a8 aB).length<=m.length:=by
 unfold qG;rw[lB,qm];lia
def J3 (J:bD):aL->ea->ea->aj->bX->Prop:=λX a8 aB R q=>∃S m,X=.a0 S/\fx J R S m /\
 ¬(HT.dJ m.length 0 a8=0/\HT.dJ m.length m.length aB=m.length)/\∀N,R N=k->q (.a0 N) (b8 R N (.a_ (qG m a8 aB)))
theorem T5:nF H (J3 H.J):=by
 intro ag A o R X v n r a8 aB s q a e f g h Y;obtain⟨S,m,rfl,i,hw,V⟩:=Y;cases e;obtain⟨j,G,d,l⟩:=a.gj i;have c:j.toArray.size=m.length:=G.dB.symm;refine⟨"tuple",_,CP.lookup,d.typeIs,?_⟩;refine HT.T2 d f g h (by rwa[c]) ?_ (by rwa[c])
 rw[c];refine⟨.a0 _,_,a.gR   (λb t V=>el _ V) (cM _) ?_,rfl,V _ (a.cA.fm (cM _))⟩
 exact⟨jP (J2 m a8 aB) l,_,(G.drop _).take _,IsTup.new _ _⟩
def J4 (J:bD):d0:=λX t R q=>∃S b m aS,X=.a0 S/\t=.a0 b/\fx J R S m/\fx J R b aS/\m≠[]/\m.length+aS.length<=cw /\
 (aS=[]->q (.a0 S) R)/\(aS≠[]->∀N,R N=k->q (.a0 N) (b8 R N (.a_ (m++aS))))
theorem b3.Dx {m:a3}{aa:cu}(G:b3 m aa):aa=[]↔m=[]:=by
 cases G with
 |_=>simp
theorem T6:dj H (j4 .Add) (J4 H.J):=by
 intro ag A o R X t v u q a c d Y;obtain⟨S,b,m,aS,rfl,rfl,e,f,g,l,h,i⟩:=Y;cases c;cases d;obtain⟨n,bC,j,_⟩:=a.gj e;obtain⟨s,bR,c7,_⟩:=a.gj f;refine HT.TV j c7 (λI=>g (bC.Dx.mp I)) (λI=>⟨.a0 S,R,a,rfl,h (bR.Dx.mp I)⟩) (λI=>?_) (by rwa[<- bC.dB,<- bR.dB])
 refine⟨.a0 _,_,a.gR   (λb w V=>el _ V) (cM _) ?_,rfl,i (λr=>I (bR.Dx.mpr r)) _ (a.cA.fm (cM _))⟩
 exact⟨by rwa[dq],_,bC.dY bR,IsTup.new _ _⟩
end
noncomputable def h8 (z:Nat)(O:Int):Option Nat:=if 0<=O then(if O<z then E O.toNat else k)else if -(z:Int)<=O then E (O+z).toNat else k
def eb {ay:Type}(m:List ay)(O:Int):Option ay:=(h8 m.length O).bind λj=>m[j]?
theorem zt {z:Nat}{O:Int}{j:Nat}(Y:h8 z O=E j):seqIndex? O z=E j/\j<z /\ -(z:Int)<=O/\O<z:=by
 unfold h8 at Y;by_cases a:0<=O
 ·rw[if_pos a]at Y
  by_cases ab:O<z
  ·rw[if_pos ab]at Y
   have e  := jQ Y;exact⟨by rw[seqIndex_of a ab,e],by lia,by lia,ab⟩
  simp_all
 ·rw[if_neg a]at Y
  by_cases ab : -z<=O
  ·rw[if_pos ab]at Y
   have e  := jQ Y;exact⟨by rw[seqIndex_neg (by lia) ab,e],by lia,ab,by lia⟩
  simp_all
theorem Dy {ay:Type}{m:List ay}{O:Int}{v:ay}(Y:eb m O=E v):∃j,seqIndex? O m.length=E j/\m[j]?=E v/\j<m.length /\ -(m.length:Int)<=O/\O<m.length:=by
 unfold eb at Y;cases e:h8 m.length O with
 |none=>simp_all|some j=>
  rw[e]at Y;obtain⟨ab,af,br,a⟩:=zt e;exact⟨j,ab,Y,af,br,a⟩
def J5 (b:bI):Prop:=∀C O,subscripted b ax C O=operate [C,O] (getItem C O)
def sd (H:bQ)(G:d0):Prop:=
 ∀(ke a:bI) (ag:di) (A:aY) (o:bU) (R:aj) (X t:aL) (v u:aR) (q:bX),a6 H ag o R A->cc X v->cc t u->G X t R q ->
  subscripted a ax v u=operate [v,u] (getItem v u)->bM (model H.cb H.r) H.p (subscriptTail ke a v u) (kb H ag o q) H.e7 A
def oy (H:bQ)(id:String)(G:aL->a3->aj->bX->Prop):Prop:=
 ∀(ag:di) (A:aY) (o:bU) (R:aj) (X:aL) (m:a3) (v:aR) (aa:cu) (q:bX),a6 H ag o R A->cc X v->b3 m aa->G X m R q ->
  bM (model H.cb H.r) H.p (call (.builtin id) (v::aa)) (kb H ag o q) H.e7 A
section
variable {H:bQ}{S b:bI}{bE c5:bN}{pos:Pos}
theorem J6 {G:d0}(a:sd H G)(c:bt H S bE)(d:bt H b c5)(e:J5 b):bt H (.Subscript S b pos) (nE G bE c5):=by
 intro ag A o R q f Y;exact Subscript_ (zg c d f Y λv u bj X t a5 g h i V=>a S b ag bj o a5 X t v u q g h i V (e _ _))
def T7 (J:bD):d0:=λX t R q=>∃N m O v,X=.a0 N/\t=.d O/\dG J R N m/\eb m O=E v/\q v R
def T8 (J:bD):d0:=λX t R q=>∃N m O v,X=.a0 N/\t=.d O/\fx J R N m/\eb m O=E v/\q v R
def T9:d0:=λX t R q=>∃I O Q,X=.f I/\t=.d O/\I.length<=cw/\eb I.cps.toList O=E Q/\q (.f ⟨#[Q]⟩) R
theorem T_:sd H (T7 H.J):=by
 intro ke D ag A o R X t v u q c h i Y d;obtain⟨N,m,O,I,rfl,rfl,l,s,V⟩:=Y;cases h;obtain⟨n,rfl⟩:=i;obtain⟨w,G,a,F⟩:=c.dV l;obtain⟨j,ab,af,br,y,z⟩:=Dy s;obtain⟨r,e,B⟩:=G.gQ af;have C:=G.dB;have J:=uc;have f:kb H ag o q r A:=⟨I,R,c,B,V⟩;by_cases g:0<=O
 ·have b:O.toNat=j:=by
   rw[seqIndex_of g z]at ab;exact jQ ab
  exact item_listR a.isList g (by lia) (by rw[b];simpa using e) f d
 ·have b:(O+(w.toArray.size:Int)).toNat=j:=by
   rw[seqIndex_neg (by lia) y]at ab
   rw[eQ,<- C];exact jQ ab
  exact subscriptTail_builtinR (x:=r) a.isList.typeIs slot_list_getitem.lookup
   (wpAny_getItem_list_neg  a.isList (by lia) (by rw[eQ]<;>lia) (by lia) (by rw[b];simpa using e) ⟨rfl,f⟩) d
theorem Ua:sd H (T8 H.J):=by
 intro ke l ag A o R X t v u q a c d Y e;obtain⟨N,m,O,I,rfl,rfl,f,g,V⟩:=Y;cases c;obtain⟨n,rfl⟩:=d;obtain⟨s,G,b,w⟩:=a.gj f;obtain⟨j,ab,af,br,x,y⟩:=Dy g;obtain⟨r,h,i⟩:=G.gQ af;have z:=uc
 exact subscriptTail_builtinR  b.typeIs slot_tuple_getitem.lookup
  (getItem_tuple   b (by lia) (by lia) (by rwa[eQ,<- G.dB]) (by simpa using h) ⟨rfl,⟨I,R,a,i,V⟩⟩) e
theorem Ub:sd H T9:=by
 intro ke h ag A o R X t v u q a b c Y d;obtain⟨I,O,Q,rfl,rfl,i,e,V⟩:=Y;obtain⟨n,rfl⟩:=b;obtain⟨l,rfl⟩:=c;obtain⟨j,ab,af,br,f,g⟩:=Dy e;rw[(show I.cps.toList.length=I.length from rfl)]at ab f g
 have m:=uc;exact tail_any (typeIs_str A I n) slot_str_getitem.lookup (getItem_str  (by grind) (by rw[ab];simpa using af) ⟨.f _,R,a.fX _,⟨_,rfl⟩,V⟩) d
theorem Uc (a:cu)(z j:Nat)(u:aR):j9 (·.setIfInBounds j u) {cls:=.type "list",data:=.seq a.toArray z}={cls:=.type "list",data:=.seq (a.set j u).toArray z}:=by
 simp[j9]
theorem a6.aG {ag:di}{o:bU}{R:aj}{A:aY}{N:aV}{m:a3}(b:a6 H ag o R A)(Y:R N=E (.aG m)):
  ∃(a:cu) (z:Nat),b3 m a/\A.heap.get? N=E {cls:=.type "list",data:=.seq a.toArray z}/\m.length<=cw:=by
 obtain⟨I,a,z,G,e⟩:=b.cA N _ Y;exact⟨a,z,G,e,I⟩
theorem a6.Ud {ag:di}{o:bU}{R:aj}{A:aY}{N:aV}{m aS:a3}{d a:cu}{z c:Nat}{w:iU->iU}(g:a6 H ag o R A)(Y:R N=E (.aG m))
  (h:A.heap.get? N=E {cls:=.type "list",data:=.seq d.toArray z}) (f:w {cls:=.type "list",data:=.seq d.toArray z}={cls:=.type "list",data:=.seq a.toArray c}) (G:b3 aS a) (i:aS.length<=cw) (n:Nat) (j:0<n:=by fail "0"):
  a6 H ag o (b8 R N (.aG aS)) {A with heap:=A.heap.update N w,toks:=n}:=by
 have e:(A.heap.update N w).get? N=E {cls:=.type "list",data:=.seq a.toArray c}:=by
  rw[Heap.get?_update_self w h (by rw[f]<;>rfl),f]
 refine g.qz (X:=N) (e:=N) (by rw[Y];trivial) (.inl rfl) (λb u l V=>(IA _ _ (oh l)).trans V) ⟨_,e⟩ ?_ j
 exact⟨i,a,c,G,e⟩
def Ue:aL->aL->aL->aj->(aj->Prop)->Prop:=λC O v R q=>∃N m D j,C=.a0 N/\O=.d D/\R N=E (.aG m)/\h8 m.length D=E j/\q (b8 R N (.aG (m.set j v)))
theorem Ug:zc H Ue:=by
 intro ag A o R C O v x y u q d l r s Y;obtain⟨N,m,D,j,rfl,rfl,e,t,V⟩:=Y;cases l;obtain⟨n,rfl⟩:=r;obtain⟨f,z,G,a,w⟩:=d.aG e;obtain⟨ab,af,br,g⟩:=zt t;have b:=G.dB;have B:=uc;have h:=
  d.Ud e a (Uc f z j u) (G.set s j) (by rw[vF];exact w) A.toks
 by_cases i:0<=D
 ·have c:D.toNat=j:=by
   rw[seqIndex_of i g]at ab;exact jQ ab
  exact W.ki_setAt a i (by lia) (by rw[eQ,<- b];exact g) (by rw[c];exact⟨_,h,V⟩)
 ·have c:(D+(f.toArray.size:Int)).toNat=j:=by
   rw[seqIndex_neg (by lia) br]at ab
   rw[eQ,<- b];exact jQ ab
  exact W.ki_setBack a (by lia) (by rw[eQ,<- b];exact br) (by lia) (by rw[c];exact⟨_,h,V⟩)
theorem Uh (a8 aB:ea)(z:Nat):(sliceBounds a8 aB k z).1=((HT.dJ z 0 a8:Nat):Int)/\(sliceBounds a8 aB k z).2.1=((HT.dJ z z aB:Nat):Int)/\(sliceBounds a8 aB k z).2.2=1:=by
 refine⟨?_,?_,rfl⟩
 ·cases a8 with
  |none=>simp[sliceBounds,HT.dJ]|some O=>
   simp only[sliceBounds,HT.dJ,IM,show(1:Int) > 0 by decide,if_true]
   by_cases Y:O<0
   ·simp only[Y,if_true]<;>lia
   ·simp only[Y,if_false]<;>lia
 ·cases aB with
  |none=>simp[sliceBounds,HT.dJ]|some O=>
   simp only[sliceBounds,HT.dJ,IM,show(1:Int) > 0 by decide,if_true]
   by_cases Y:O<0
   ·simp only[Y,if_true]<;>lia
   ·simp only[Y,if_false]<;>lia
theorem Ui (a:cu)(a8 aB:ea):slicePick a.toArray a8 aB k=((a.drop (HT.dJ a.length 0 a8)).take (HT.dJ a.length a.length aB-HT.dJ a.length 0 a8)).toArray:=by
 obtain⟨ab,af,br⟩:=Uh a8 aB _;unfold slicePick;rw[ab,af,br];simp only[sliceRange_one,pick_run,eQ]<;>rfl
def Uj (J:bD):aL->ea->ea->aj->bX->Prop:=λX a8 aB R q=>∃S m,X=.a0 S/\dG J R S m/\∀N,R N=k->q (.a0 N) (b8 R N (.aG (qG m a8 aB)))
theorem Uk:nF H (Uj H.J):=by
 intro ag A o R X v l n a8 aB r q a d e f g Y;obtain⟨S,m,rfl,h,V⟩:=Y;cases d;obtain⟨s,G,c,i⟩:=a.dV h;have j:=G.dB;refine⟨"list",_,slot_list_getitem.lookup,c.isList.typeIs,?_⟩;refine wpAny_getItem_list_slice c.isList e f g .none (by simp) ?_ (by grind)
 rw[Ui,<- j];refine⟨.a0 _,_,a.gR   (λb t V=>el _ V) (cM _) ?_,rfl,V _ (a.cA.fm (cM _))⟩
 exact⟨jP (J2 m a8 aB) i,_,0,(G.drop _).take _,gf _ rfl⟩
noncomputable def gw:aL->Bool
 |.a9=>ae|.aM _=>ae|.d _=>ae|.f _=>ae|_=>ax
noncomputable def ja:aL->aL->Bool
 |.a9,.a9=>ae|.aM S,.aM b=>S == b|.aM S,.d b=>(if S then 1 else 0) == b|.d S,.aM b=>S == (if b then 1 else 0)|.d S,.d b=>S == b|.f S,.f b=>S == b|_,_=>ax
theorem J7 {p:dp}{A:aY}{t X:aL}{u v:aR}(e:cc t u)(a:cc X v)(h:gw t=ae)(g:gw X=ae):CR p A u v (ja t X):=by
 cases t with
 |a9=>
  cases e;cases X with
  |a9=>cases a;exact C0 _|aM b=>cases a;exact SeqAt.EqAt.none_bool b|d b=>obtain⟨n,rfl⟩:=a;exact SeqAt.EqAt.none_int b n|f b=>obtain⟨n,rfl⟩:=a;exact SeqAt.EqAt.none_str b n|_=>exact absurd (show ax=ae from g) pb
 |aM S=>
  cases e;cases X with
  |a9=>cases a;exact SeqAt.EqAt.bool_none S|aM b=>cases a;exact SeqAt.EqAt.bool_bool S b|d b=>obtain⟨n,rfl⟩:=a;exact SeqAt.EqAt.bool_int S b n|f b=>obtain⟨n,rfl⟩:=a;exact SeqAt.EqAt.bool_str S b n|_=>exact absurd (show ax=ae from g) pb
 |d S=>
  obtain⟨c,rfl⟩:=e;cases X with
  |a9=>cases a;exact SeqAt.EqAt.int_none S c|aM b=>cases a;exact SeqAt.EqAt.int_bool S c b|d b=>obtain⟨n,rfl⟩:=a;exact SeqAt.EqAt.int_int S c b n|f b=>obtain⟨n,rfl⟩:=a;exact Jm S c b n|_=>exact absurd (show ax=ae from g) pb
 |f S=>
  obtain⟨c,rfl⟩:=e;cases X with
  |a9=>cases a;exact SeqAt.EqAt.str_none S c|aM b=>cases a;exact SeqAt.EqAt.str_bool S c b|d b=>obtain⟨n,rfl⟩:=a;exact Jn S c b n|f b=>obtain⟨n,rfl⟩:=a;exact SeqAt.EqAt.str_str S c b n|_=>exact absurd (show ax=ae from g) pb
 |_=>exact absurd (show ax=ae from h) pb
def nG (X:aL)(u:aR):Bool:=match u with
 |.none=>ja .a9 X|.bool b=>ja (.aM b) X|.int O _=>ja (.d O) X|.str I _=>ja (.f I) X|_=>ax
theorem J8 {X t:aL}{u:aR}(G:cc t u)(w:gw t=ae):nG X u=ja t X:=by
 cases t with
 |a9=>cases (G);rfl|aM b=>cases (G);rfl|d O=>obtain⟨n,rfl⟩:=G;rfl|f I=>obtain⟨n,rfl⟩:=G;rfl|_=>trivial
theorem wi {X:aL}:∀{m:a3}{aa:cu},b3 m aa->m.all gw=ae->aa.any (nG X)=m.any λt=>ja t X
 |_,_,.nil,_=>rfl|t::m,u::aa,.cons G n,w=>by
  rw[kD,cC]at w;rw[yG,yG,J8 G w.1,wi n w.2]
theorem wj {p:dp}{A:aY}{X:aL}{v:aR}(b:cc X v)(c:gw X=ae):∀{m:a3}{aa:cu},b3 m aa->m.all gw=ae->∀u∈aa,CR p A u v (nG X u)
 |_,_,.nil,_=>λu a=>by cases a
 |t::m,u::aa,.cons G n,w=>λd a=>by
  rw[kD,cC]at w;rcases df.mp a with rfl |a
  ·rw[J8 G w.1];exact J7 G b w.1 c
  exact wj b c n w.2 d a
def mi (X:aL)(m:a3):Bool:=m.any λt=>ja t X
def J9 (J:bD)(cB:Bool):d0:=λX t R q=>∃N m,t=.a0 N/\(dG J R N m\/fx J R N m)/\gw X=ae/\m.all gw=ae/\q (.aM (if cB then !mi X m else mi X m)) R
theorem Ul:dj H (eJ .In) (J9 H.J ax):=by
 intro ag A o R X t v u q c e g Y;obtain⟨N,m,rfl,a,f,av,V⟩:=Y;cases g;rcases a with a |a
 ·obtain⟨b,G,d,h⟩:=c.dV a
  refine SeqAt.in_listAt _ d.isList (λr hw=>wj e f G av r (by simpa using hw)) ⟨.aM _,R,c,rfl,?_⟩
  rwa[show b.toArray.any (nG X)=b.any (nG X) by simp,wi G av]
 ·obtain⟨b,G,d,h⟩:=c.gj a
  refine SeqAt.in_tupleAt _ d (λr hw=>wj e f G av r (by simpa using hw)) ⟨.aM _,R,c,rfl,?_⟩
  rwa[show b.toArray.any (nG X)=b.any (nG X) by simp,wi G av]
theorem Um:dj H (eJ .NotIn) (J9 H.J ae):=by
 intro ag A o R X t v u q c e g Y;obtain⟨N,m,rfl,a,f,av,V⟩:=Y;cases g;rcases a with a |a
 ·obtain⟨b,G,d,h⟩:=c.dV a
  refine SeqAt.notIn_listAt _ d.isList (λr hw=>wj e f G av r (by simpa using hw)) ⟨.aM _,R,c,rfl,?_⟩
  rwa[show b.toArray.any (nG X)=b.any (nG X) by simp,wi G av]
 ·obtain⟨b,G,d,h⟩:=c.gj a
  refine SeqAt.notIn_tupleAt _ d (λr hw=>wj e f G av r (by simpa using hw)) ⟨.aM _,R,c,rfl,?_⟩
  rwa[show b.toArray.any (nG X)=b.any (nG X) by simp,wi G av]
theorem Un:iG H (.builtin "len") (λm R q=>∃N aS,m=[.a0 N]/\(dG H.J R N aS\/fx H.J R N aS)/\q (.d aS.length) R):=by
 intro ag A o R m aa q b G Y;obtain⟨N,aS,rfl,a,V⟩:=Y;obtain⟨u,rfl,f⟩:=mg G;cases f;have i:=uc;rcases a with a |a
 ·obtain⟨g,c,d,h⟩:=b.dV a
  have e:=c.dB;exact Calls.call_len_list d.isList (by simp only[eQ]<;>lia) ⟨.d _,R,b.fX _,⟨A.toks+1,by rw[eQ,e]⟩,V⟩
 ·obtain⟨g,c,d,h⟩:=b.gj a
  have e:=c.dB;exact len_tuple d (by simp only[eQ]<;>lia) ⟨.d _,R,b.fX _,⟨A.toks+1,by rw[eQ,e]⟩,V⟩
theorem Uo:iG H (.builtin "len") (λm R q=>∃I,m=[.f I]/\I.length<=cw/\q (.d I.length) R):=by
 intro ag A o R m aa q a G Y;obtain⟨I,rfl,b,V⟩:=Y;obtain⟨u,rfl,n,rfl⟩:=mg G;have c:=uc;exact len_str (by lia) ⟨.d _,R,a.fX _,⟨_,rfl⟩,V⟩
theorem Up:iG H (.type "list") (λm R q=>∃N aS,m=[.a0 N]/\(dG H.J R N aS\/fx H.J R N aS)/\∀s,R s=k->q (.a0 s) (b8 R s (.aG aS))):=by
 intro ag A o R m aa q g G Y;obtain⟨N,aS,rfl,d,V⟩:=Y;obtain⟨u,rfl,r⟩:=mg G;cases r
 have n:∀(a:cu),b3 aS a->aS.length<=cw->∀(aE:Heap) (cR:Nat),(∀b bS,A.heap.get? b=E bS->aE.get? b=E bS) ->
   aE.get? _=E _->kb H ag o q _ _:=λa c f aE cR t e=>
  ⟨.a0 _,_,g.gR  t (cM _) (show h5 _ _ _ aE _ (.aG aS)from⟨f,a,cR,c,e⟩),rfl,V _ (g.cA.fm (cM _))⟩
 rcases d with d |d
 ·obtain⟨a,c,h,f⟩:=g.dV d
  have v:=c.dB;obtain⟨C,i,j,z,l⟩:=h.isList;exact call_list_seq N (.inl rfl) i j l (n a c f) (by simp only[eQ]<;>lia)
 ·obtain⟨a,c,h,f⟩:=g.gj d
  have v:=c.dB;obtain⟨C,i,j,z,l⟩:=h;exact call_list_seq N (.inr rfl) i j l (n a c f) (by simp only[eQ]<;>lia)
def zu (J:bD)(T:String)(X:aL)(R:aj):Prop:=match X with
 |.f _=>T="str"|.d _=>T="int"| .a0 N=>(T="list" /\ ∃m,dG J R N m)\/(T="tuple" /\ ∃C,J.lookup N=E C/\C.cls=.type "tuple" /\ C.dict=k) \/
   (T="dict" /\ ((∃ba,R N=E (.ey ba))\/∃ba,R N=E (.lF ba)))\/(T="set" /\ ∃a z,R N=E (.set a z))
 |_=>False
theorem J_ {ag:di}{o:bU}{R:aj}{A:aY}{T:String}{X:aL}{v:aR}(b:a6 H ag o R A)(G:cc X v)(fW:zu H.J T X R):
  A.TypeIs v T/\∀S,v=.ref S->∃g,A.heap.get? S=E g/\g.dict=k:=by
 cases X with
 |f I=>
  obtain⟨n,rfl⟩:=G;cases(show T="str" from fW)
  exact⟨typeIs_str A I n,λ_ e=>nomatch e⟩
 |d O=>
  obtain⟨n,rfl⟩:=G;cases(show T="int" from fW)
  exact⟨typeIs_int A O n,λ_ e=>nomatch e⟩
 |a0 N=>
  cases G;rcases fW with⟨rfl,m,i⟩|⟨rfl,C,a,j,c⟩|⟨rfl,a⟩|⟨rfl,l,z,a⟩
  ·obtain⟨q,_,h,_⟩:=b.dV i
   refine⟨h.isList.typeIs,λS e=>?_⟩
   cases e;obtain⟨C,z,e,Q,c,_⟩:=h;exact⟨C,e,c⟩
  ·refine⟨⟨C,b.gS N C a,j⟩,λS e=>?_⟩
   cases e;exact⟨C,b.gS _ C a,c⟩
  ·have I:∃C,A.heap.get? N=E C/\C.ExactDict:=by
    rcases a with⟨ba,a⟩|⟨ba,a⟩
    ·obtain⟨_,_,_,_,C,_,_,e,aW,_⟩:=b.cA N _ a
     exact⟨C,e,aW⟩
    ·obtain⟨_,_,_,_,C,_,_,e,aW,_⟩:=b.cA N _ a
     exact⟨C,e,aW⟩
   obtain⟨C,e,aW⟩:=I;refine⟨⟨C,e,aW.1⟩,λS az=>?_⟩
   cases az;exact⟨C,e,aW.2.1⟩
  ·obtain⟨C,_,_,_,e,aW,_⟩:=b.cA N _ a
   refine⟨⟨C,e,aW.1⟩,λS az=>?_⟩
   cases az;exact⟨C,e,aW.2.1⟩
 |_=>exact fG fW
def zv (J:bD)(T:String)(G:aL->a3->aj->bX->Prop)(to:bN):bN:=λo R q=>to o R λX ar=>zu J T X ar/\G X [] ar q
def pC (J:bD)(T:String)(G:aL->a3->aj->bX->Prop)(to:bN)(n:fg):bN:=λo R q=>to o R λX ar=>zu J T X ar/\n o ar λm a5=>G X m a5 q
variable {C e:bI}{aw:ew}{to:bN}{n:fg}{name:Str}{fp hI:Pos}{T id:String}{G:aL->a3->aj->bX->Prop}
theorem Dz (b:PlainAttrs T)(c:Slot T name id)(d:typeOf (.builtin id)=pure (.type "method_descriptor"))(e:oy H id G)(f:bt H C to)
  (g:attributeBase C name H.x (eval C H.x)=eval C H.x:=by rfl) (h:(fp.endLine == hI.line)=ae:=by rfl):bt H (.Call (.Attribute C name fp) [] [] hI) (zv H.J T G to):=by
 intro ag A o R q i Y;refine wpAny_Call_method0_late g h (b9 (f ag A o R _ i Y) λv bh j=>?_)
 obtain⟨X,ar,a,bC,fW,l⟩:=j;obtain⟨ab,af⟩:=J_ a bC fW;exact⟨T,id,b,c,d,ab,af,Calls.callWith_builtin rfl (PySem.evalArgs_none (e ag bh o ar X [] v [] q a bC .nil l))⟩
theorem zw (d:PlainAttrs T)(f:Slot T name id)(g:typeOf (.builtin id)=pure (.type "method_descriptor"))(h:oy H id G)(i:bt H C to)(j:gF H (e::aw) n)
  (l:attributeBase C name H.x (eval C H.x)=eval C H.x:=by rfl)
  (m:((h1 hI (ej (e::aw) H.x)).all (λX=>!X.1) && (pa hI (o_ [] H.x)).all (λX=>X.1.isSome)
   && decide ((e::aw).length+([]:List Keyword).length+(if([]:List Keyword).isEmpty then 0 else 1)<30))=ae:=by rfl)
  (r:(fp.endLine == hI.line)=ae:=by rfl) (s:ej (e::aw) H.x=(ax,eval e H.x)::ej aw H.x:=by rfl) (z:(h1 hI (ej aw H.x)).any (·.1)=ax:=by rfl):
  bt H (.Call (.Attribute C name fp) (e::aw) [] hI) (pC H.J T G to n):=by
 intro ag A o R q t Y;refine wpAny_Call_method_late l m r rfl (b9 (i ag A o R _ t Y) λv bh u=>?_)
 obtain⟨X,ar,a,bC,fW,w⟩:=u;obtain⟨ab,af⟩:=J_ a bC fW;refine⟨T,id,d,f,g,ab,af,?_⟩;have b:=j hI ag bh o ar _ a w;rw[s]at b ⊢;exact Calls.callWith_builtin (by assumption) (Calls.evalArgs_plain (b9 b λaa bj ⟨c,a5,x,bR,y⟩=>h ag bj o a5 X c v aa q x bC bR y))
end
def DA (H:bQ)(id:String)(G:aL->a3->aj->bX->Prop):Prop:=
 ∀(ag:di) (A:aY) (o:bU) (R:aj) (X:aL) (m:a3) (v:aR) (aa:cu) (q:bX),a6 H ag o R A->cc X v->b3 m aa->G X m R q ->
  bM (model H.cb H.r) H.p (call (.builtin id) (v::aa)) (kb H ag o q) H.e7 A
theorem b3.cN:∀{X:aL}{aa:cu},b3 [X] aa->∃u,aa=[u]/\cc X u
 |_,_,.cons G .nil=>⟨_,rfl,G⟩
theorem b3.eraseIdx:∀{m:a3}{aa:cu}(O:Nat),b3 m aa->b3 (m.eraseIdx O) (aa.eraseIdx O)
 |_,_,_,.nil=>.nil|_,_,0,.cons _ n=>n|_,_,O+1,.cons G n=>.cons G (b3.eraseIdx O n)
theorem b3.zx {m:a3}{aa:cu}(Y:b3 m aa):∀D:Nat,b3 (fV D m).flatten (fV D aa).flatten
 |0=>.nil|D+1=>b3.dY Y (b3.zx Y D)
theorem Ka {ay:Type}:∀(s:List ay) (O:Nat),(s.eraseIdx O).length<=s.length
 |[],_=>cM _|_::_,0=>oe _|_::G,O+1=>Nat.succ_le_succ (Ka G O)
theorem Kb (a:cu):∀(D:Nat) (b:cu),
  yH (λx1 x2=>x1++x2) b.toArray (fV D a.toArray)=(b++(fV D a).flatten).toArray
 |0,b=>by simp
 |D+1,b=>by
  have az:(b++a)++(fV D a).flatten=b++(fV (D+1) a).flatten:=by
   rw[Cu,List.flatten_cons,od]
  rw[<- az,<- Kb a D _,<- (show b.toArray++a.toArray=(b++a).toArray by simp),Cu,List.foldl_cons]
section
variable {H:bQ}{ag:di}{o:bU}{R:aj}{A:aY}{s:aV}{m aS:a3}
theorem a6.DB {b a:cu}{z:Nat}{w:g5->g5}{c:Nat}(d:a6 H ag o R A)(f:R s=E (.aG m))
  (e:A.heap.get? s=E {cls:=.type "list",data:=.seq b.toArray z}) (g:w b.toArray=a.toArray) (h:b3 aS a) (i:aS.length<=cw) (j:0<c:=by fail "0"):
  a6 H ag o (b8 R s (.aG aS)) {A with heap:=A.heap.update s (j9 w),toks:=c}:=by
 have V:=PySem.IsL.update e w;rw[g]at V;exact d.qz   (by rw[f];exact trivial) (.inl rfl) (λq u l n=>(IA _ _ (oh l)).trans n) ⟨_,V⟩ ⟨i,a,_,h,V⟩ j
theorem a6.Kc {a:cu}{b:Nat}(c:a6 H ag o R A)(d:b3 aS a)(e:aS.length<=cw)(f:0<b:=by fail "0"):
  a6 H ag o (b8 R A.heap.objs.size (.aG aS)) {A with heap:=A.heap.push {cls:=.type "list",data:=.seq a.toArray},toks:=b}:=
 c.gR (λ_ _ V=>el _ V) (cM _) ⟨e,a,0,d,gf _ rfl⟩ f
theorem a6.fm (a:a6 H ag o R A):R A.heap.objs.size=k:=a.cA.fm (cM _)
theorem a6.se (b:a6 H ag o R A)(c:R s=E (.aG m)):m.length<=cw/\∃(a:cu) (z:Nat),b3 m a/\m.length=a.length/\A.heap.get? s=E {cls:=.type "list",data:=.seq a.toArray z}:=by
 obtain⟨I,a,z,G,e⟩:=b.cA s _ c;exact⟨I,a,z,G,G.dB,e⟩
theorem Kd {z:Nat}(Y:z<=cw):CU z=ax:=decide_eq_false (by lia)
end
section
variable {H:bQ}
def DC:aL->a3->aj->bX->Prop:=λX c R q=>∃s m t,X=.a0 s/\c=[t]/\R s=E (.aG m)/\m.length<cw/\q .a9 (b8 R s (.aG (m++[t])))
theorem DD:DA H "list.append" DC:=by
 intro ag A o R X c v aa q a d f Y;obtain⟨s,m,t,rfl,rfl,b,h,V⟩:=Y;cases d;obtain⟨u,rfl,g⟩:=f.cN;obtain⟨I,i,z,G,j,e⟩:=a.se b;refine call_meets F.slot_list_append ⟨_,e,rfl⟩ F.entry_list_append (F.args_list_append_2 _ _) (PySem.list_append s _ z u (by rw[eQ];lia)) ⟨e,?_⟩
 refine⟨.a9,_,a.DB  b e (by simp) (G.dY (.cons g .nil)) ?_,rfl,V⟩
 rw[dq,yu];lia
def DE:aL->a3->aj->bX->Prop:=λX c R q=>∃s b m a,X=.a0 s/\c=[.a0 b]/\R s=E (.aG m)/\R b=E (.aG a)/\m.length+a.length<=cw/\q .a9 (b8 R s (.aG (m++a)))
theorem Ke:DA H "list.extend" DE:=by
 intro ag A o R X c v aa q a h i Y;obtain⟨s,b,m,t,rfl,rfl,f,j,w,V⟩:=Y;cases h;obtain⟨u,rfl,l⟩:=i.cN;cases l;obtain⟨I,d,z,G,x,e⟩:=a.se f;obtain⟨y,g,dC,bR,B,az⟩:=a.se j;have n:d.toArray.size+g.toArray.size<=cw:=by grind
 have r:¬(!d.toArray.isEmpty && CU (d.toArray.size+g.toArray.size))=ae:=by
  rw[Kd n,tL];exact pb
 refine call_meets F.slot_list_extend ⟨_,e,rfl⟩ F.entry_list_extend (F.args_list_extend_2 _ _)
  (AutoSeq1.list_extend_list_list_0 s _ z b _ dC r (by grind) (by lia)) ⟨e,az,?_⟩
 refine⟨.a9,_,a.DB  f e (by simp) (G.dY bR) ?_,rfl,V⟩
 rw[dq];lia
def DF:aL->a3->aj->bX->Prop:=λX c R q=>∃s m O D t,X=.a0 s/\c=[.d O]/\R s=E (.aG m) /\ -(2 ^ 63)<=O/\O<2 ^ 63/\seqIndex? O m.length=E D/\m[D]?=E t/\q t (b8 R s (.aG (m.eraseIdx D)))
theorem Kf:DA H "list.pop" DF:=by
 intro ag A o R X c v aa q a d f Y;obtain⟨s,m,O,D,t,rfl,rfl,b,ab,af,l,g,V⟩:=Y;cases d;obtain⟨u,rfl,h⟩:=f.cN;obtain⟨n,rfl⟩:=h;obtain⟨I,w,z,G,i,e⟩:=a.se b;obtain⟨r,hw,j⟩:=G.gQ g
 refine call_meets F.slot_list_pop ⟨_,e,rfl⟩ F.entry_list_pop (F.args_list_pop_2 _ _)
  (MeetsSeq.list_pop_at s _ z O n D r (fitsIndex_both ab af) (by rwa[eQ,<- i]) (by simp_all) (by rw[eQ];lia)) ⟨e,?_⟩
 refine⟨t,_,a.DB  b e ?_ (G.eraseIdx D) ?_,j,V⟩
 ·simp_all
 ·have:=Ka m D
  lia
def Uq:d0:=λX t R q=>∃s b m a,X=.a0 s/\t=.a0 b/\R s=E (.aG m)/\R b=E (.aG a)/\m.length+a.length<=cw/\∀N,R N=k->q (.a0 N) (b8 R N (.aG (m++a)))
theorem Ur:dj H (j4 .Add) Uq:=by
 intro ag A o R X t v u q a f g Y;obtain⟨s,b,m,j,rfl,rfl,h,i,l,V⟩:=Y;cases f;cases g;obtain⟨I,c,z,G,n,e⟩:=a.se h;obtain⟨r,d,dC,bR,w,az⟩:=a.se i;refine PySem.P.add_list e az ?_ (by simp_all)
 rw[(show c.toArray++d.toArray=(c++d).toArray by simp)]
 exact⟨.a0 _,_,a.Kc  (G.dY bR) (by rw[dq];lia),rfl,V _ a.fm⟩
def Us:d0:=λX t R q=>∃s D m,X=.a0 s/\t=.d D/\R s=E (.aG m) /\ -(2 ^ 63)<=D/\D<2 ^ 63/\m.length*D.toNat<=cw /\
 ∀N,R N=k->q (.a0 N) (b8 R N (.aG (fV D.toNat m).flatten))
theorem Kg {ay:Type}(m:List ay)(D:Nat):(fV D m).flatten.length=D*m.length:=by simp_all
theorem Ut:dj H (j4 .Mult) Us:=by
 intro ag A o R X t v u q b d f Y;obtain⟨s,D,m,rfl,rfl,g,ab,af,c,V⟩:=Y;cases d;obtain⟨n,rfl⟩:=f;obtain⟨I,a,z,G,i,e⟩:=b.se g;have j:a.toArray.size*D.toNat<=cw:=by rw[eQ,<- i];exact c
 have l:¬a.toArray.size*D.toNat > (2 ^ 63-1) / 8:=by
  have:(cw:Nat)<=(2 ^ 63-1) / 8:=by decide
  lia
 have r:¬(!Builtin.List.listFitsIndex D)=ae:=by
  rw[fitsIndex_both ab af];exact pb
 have w:¬CU (a.toArray.size*D.toNat)=ae:=by
  rw[Kd j];exact pb
 have x:yH (λx1 x2=>x1++x2) #[] (fV (if a.toArray.isEmpty=ae then 0 else D.toNat) a.toArray)=(fV D.toNat a).flatten.toArray:=by
  have y  := λh=>by
   have:=Kb a h [];rw[yF]at this;exact this
  rw[y];cases a with
  |nil=>simp|cons S B=>rw[if_neg (by simp)]
 refine wpAny_binaryOp_repeat_ref (T:="list") (U:="int") (by decide) ⟨_,e,rfl⟩ (λbc=>typeIs_int bc D n) noFill_list_mul F.fills_int_mul Jk repeat_list F.slot_int_index.lookup
  (call_meets Jk (typeIs_int A D n) F.entry_int_rmul (F.args_int_rmul_2 _ _) (int___rmul___int_list D n s a.toArray z)
   ⟨e,rfl,⟨_,e,rfl⟩,call_meets F.slot_list_mul ⟨_,e,rfl⟩ F.entry_list_mul (F.args_list_mul_2 _ _) (AutoListH.list___mul___list_int_3 s a.toArray z D n r l w) ⟨e,?_⟩⟩)
 rw[x];exact⟨.a0 _,_,b.Kc (b:=A.toks) (G.zx D.toNat) (by rw[Kg,II];exact c),rfl,V _ b.fm⟩
end
end L2
namespace Att
open PySem PySem.W PySem.Calls PyProof.Rows
theorem Uu {P:Params}{Y:Heap}:∀(a:ef) (c:cu),WellAll P Y c (a.map WData.int)->IntsAre c a:=by
 intro a;induction a with
 |nil=>
  intro c r;cases r;exact .nil
 |cons z a d=>
  intro c r;cases r with
  |cons S b=>
   cases S;exact .cons _ _ (d _ b)
theorem Uv {s:OpenLaw}{z:Nat}(g:s.most=E z){P:Params}{Y:Heap}{b:List WData}{e:cu}
  (f:s.row.toRowW.claim.pre b=ae) (h:WellAll P Y e b):
  ∃S c a,e=[jR S]/\b=[WData.list (a.map WData.int)]/\Y.get? S=E {cls:=.type "list",data:=.seq c.toArray}/\IntsAre c a/\a.length<=z:=by
 have i:WShape.hasAll [] b [.list _]=ae:=(pre_splitW f).1;have j:s.pre.holds [] _=ae:=(pre_splitW f).2;obtain⟨y,G,rfl,ab,af⟩:=hasAllW_cons i;obtain rfl:=hasAllW_nil af;obtain⟨m,rfl,br⟩:=hasW_list ab;obtain⟨a,rfl⟩:=items_int br;have l:a.length<=z:=by
  have d  := by
   have d:=(holds_andW j).1;rwa[g]at d
  have t:=condW_of d (w_not (w_lt w_lit (w_len_list (w_arg rfl))));simp_all
 cases h with
 |cons n o=>
  cases o;cases n with
  |list q r=>exact⟨_,_,a,rfl,rfl,q,Uu a _ r,l⟩
theorem Uw (s:OpenLaw)(a:List WData):s.row.toRowW.claim.post a (.bool ae) a=ae:=
 postW_of
  (by rfl)
  (w_eq_bool (w_res rfl) w_lit) rfl
end Att
namespace L2
open PySem PySem.Spec PyProof.Rows
theorem uf:∀{c:cu}{a:ef},IntsAre c a->b3 (a.map aL.d) c
 |_,_,.nil=>.nil|_,_,.cons z n Y=>.cons ⟨n,rfl⟩ (uf Y)
def DG (R:aj):Prop:=∀b,R b=k\/(∃C m,R b=E (.h4 C (.aG m)))\/∃N V,R b=E (.mR N V)
theorem Ux {P:cW}{r:cF}{J:bD}{a7 B:eu}{dk:i_}{D:Nat}{g6 S:aV}{bG:hk}{X:Str}{cf:gH}{a:aY}{c:cu}{o:ef}
  (W:J.In a.heap) (Z:a.heap.Ns fb a7) (f:a.heap.Ns builtinsNs B) (ap:∀X:Str,X ≠ "__name__" -> B X=oc X) (ar:a.heap.NoLimit) (as:∃j g,a7 "__builtins__"=E (.ref j)/\j≠builtinsNs/\a.heap.get? j=E g/\g.cls=.type "module" /\ g.dict=E builtinsNs/\g.data=.plain) (au:a.gens=#[])
  (l:a.heap.get? S=E {cls:=.type "list",data:=.seq c.toArray}) (aB:IntsAre c o) (aa:o.length<=cw) (av:gk D callerA) (ay:[X]=ud)
  (F:∀bg:Heap,J.In bg->bg.Ns fb a7->gI P r J a7 bg dk D g6 bG [X] cf) (aA:∀(A:aY) (u:aR),BindsTo A bG ⟨[u],[]⟩ [(X,u)])
  (aC:∀R:aj,DG R->dG J R S (o.map aL.d)->cf [.a0 S] R (λv _=>v=.aM ae) λ_ _ _=>False)
  (aD:∀R e bc,dk [] R a (λ_ _ _=>False) e bc->False)
  (n:∀i pos V,pq J=E (i,pos,V)->J.lookup i=k/\isCodeTable a.heap i/\a.heap.get? i=E {cls:=.none,data:=.fields #[]}):
  codeAny (model P r) callerA (.call (.ref g6) ⟨[.ref S],[]⟩) (λG bc=>G=.ok (.ret (.bool ae))/\OldK a.heap bc.heap/\bc.os=a.os/\AllBare bc.gens) a:=by
 have ac:=uf aB;have aE:=aB.length
 have ag:∀R:aj,DG R->dG J R S (o.map aL.d)->gh P r R a.heap->v5 J R->(∀b,R b≠k->b=S\/∃N V,pq J=E (b,N,V))->(R S≠k->J.lookup S=k) ->
   codeAny (model P r) callerA (.call (.ref g6) ⟨[.ref S],[]⟩) (λG bc=>G=.ok (.ret (.bool ae))/\OldK a.heap bc.heap/\bc.os=a.os/\AllBare bc.gens) a:=by
  intro R ah aG K aH w aI;have L:∀{b:aV}{C:iU},a.heap.get? b=E C->R b=k->(pn a.heap R).get? b=E C:=λe z=>R6 e z
  have aJ:∀{b:aV}{C:iU}{aw:Array DictEntry}{q:Nat},a.heap.get? b=E C->C.data=.dict aw q->R b=k:=λ{b C aw q} e y=>by
   cases V:R b with
   |none=>rfl|some u=>
    rcases w b (by rw[V];simp)with d |⟨eW,cL,d⟩
    ·subst d
     rw[l]at e;cases e;have dO:Data.seq c.toArray _=Data.dict aw q:=y;cases dO
    ·have I:=(n _ _ _ d).2.2
     rw[I]at e;cases e;cases y
  have x:∀{b:aV}{h:eu},a.heap.Ns b h->(pn a.heap R).Ns b h:=λ{b h} ⟨C,aw,q,e,y,G⟩=>⟨C,aw,q,L e (aJ e y),y,G⟩
  have ak:J.In (pn a.heap R):=λb C e=>L (W b C e) (by
   cases V:R b with
   |none=>rfl|some u=>
    rcases w b (by rw[V];simp)with d |⟨eW,cL,d⟩
    ·subst d
     rw[aI (by rw[V];simp)]at e;cases e
    ·rw[(n _ _ _ d).1]at e;cases e)
  have aK:Mod J a7 (pn a.heap R):=⟨ak,x Z,⟨B,x f,ap⟩,let⟨aM,ab,af⟩:=ar;⟨aM,x ab,af⟩,by
   obtain⟨j,g,k2,kK,s,M,aP,aQ⟩:=as;refine⟨j,g,k2,kK,L s ?_,M,aP,aQ⟩;cases V:R j with
   |none=>rfl|some u=>
    rcases w j (by rw[V];simp)with d |⟨eW,cL,d⟩
    ·subst d
     rw[l]at s;cases s;have I:pj "list"=pj "module":=M;injection I with I;exact absurd I (by decide)
    ·have I:=(n _ _ _ d).2.2
     rw[I]at s;cases s;cases M⟩
  have aS:qC P r J a7 (pn a.heap R) callerA [] a R:=⟨rfl,aK,λb C e=>R7 e,tR (R5 _ _),trivial,λb f=>absurd (show b∈([]:List aV)from f) (by simp),K,.of_eq au,aH⟩
  refine codeAny_mono ((F _ ak (x Z)).gm callerA [] a R ⟨[.ref S],[]⟩ [.ref S] [.a0 S] _ _ av aS (.inr ay) (aA a (.ref S)) (.cons rfl .nil) (aC R ah aG)) λG bc Y=>?_
  cases G with
  |error e=>exact(aD R e bc Y).elim|ok aT=>
   cases aT with
   |next=>exact fG Y|brk=>exact fG Y|cont=>exact fG Y|ret u=>
    obtain⟨v,aq,aU,aW,O,al,_,aX,V⟩:=Y;have cL:v=.aM ae:=V;subst cL;obtain rfl:u=rS ae:=aX;have am:∀b C,a.heap.get? b=E C->asItWas a.heap bc.heap b C/\∃bS,bc.heap.get? b=E bS:=λb C e=>by
     cases V:R b with
     |none=>
      have I:=O.e6 b C e V (by intro I;exact absurd (show b∈([]:List aV)from I) (by simp)) (by simp)
      exact⟨.inl I,_,I⟩
     |some u=>
      rcases ah b with I |⟨g,m,I⟩|⟨eW,cL,I⟩
      ·rw[V]at I;cases I
      ·have aZ:=O.r0 b g _ I
       obtain⟨aN,_⟩:=K b _ I;obtain⟨az,_⟩:=al b _ aZ;rw[e]at aN;cases aN;exact⟨.inl az,_,az⟩
      ·obtain⟨aF,az,_⟩:=al b _ (O.qB b eW cL I)
       rcases w b (by rw[V];simp)with d |⟨a2,a3,d⟩
       ·subst d
        obtain⟨a4,t,_⟩:=K b _ I;rw[l]at t;cases t
       ·obtain⟨_,a0,t⟩:=n _ _ _ d
        rw[e]at t;cases t;exact⟨.inr (.inl ⟨a0,rfl,#[],aF,rfl,by rw[Array.empty_append];exact az⟩),_,az⟩
    exact⟨rfl,⟨λb C e=>(am b C e).1,λb C e=>(am b C e).2⟩,aU,aW⟩
 obtain⟨T,dP,cv,an⟩:∃T:aj,v5 J T/\(∀b u,T b=E u->∃N V,pq J=E (b,N,V)/\u=.mR N V)/\T S=k:=by
  cases Q:pq J with
  |none=>exact⟨λ_=>k,λ_ _ _ e=>(by rw[Q]at e;cases e),λ_ _ e=>(by cases e),rfl⟩|some I=>
   obtain⟨i,pos,V⟩:=I;have a1:S≠i:=λI=>by
    have e:=(n _ _ _ Q).2.2;rw[<- I,l]at e;cases e
   refine⟨λb=>if b=i then E (.mR pos V)else k,λ_ _ _ e=>(by rw[Q]at e;cases e;exact if_pos rfl),λb u e=>?_,if_neg a1⟩
   by_cases f:b=i
   ·have d:=(if_pos f).symm.trans e
    cases d;exact⟨pos,V,by rw[f],rfl⟩
   ·have d:=(if_neg f).symm.trans e
    cases d
 have ao:∀(R:aj) b N V,pq J=E (b,N,V)->h5 P r R a.heap b (.mR N V):=λR b N V e=>
  ⟨#[],(n _ _ _ e).2.2,mb,λa5 I=>by cases I⟩
 cases U:J.lookup S with
 |some C=>
  have e:=W S C U;rw[l]at e;cases e;refine ag T (λb=>?_) (.inr ⟨_,c.toArray,_,U,rfl,rfl,rfl,by rw[eQ,aE];exact aa,by simpa using ac⟩) (λb u I=>?_) dP (λb I=>?_) λI=>absurd an I
  ·cases V:T b with
   |none=>exact .inl rfl|some u=>obtain⟨eW,cL,_,rfl⟩:=cv b u V;exact .inr (.inr ⟨eW,cL,rfl⟩)
  ·obtain⟨eW,cL,aN,rfl⟩:=cv b u I;exact ao _ _ _ _ aN
  ·cases V:T b with
   |none=>exact absurd V I|some u=>obtain⟨eW,cL,aN,rfl⟩:=cv b u V;exact .inr ⟨eW,cL,aN⟩
 |none=>
  refine ag (b8 T S (.h4 {cls:=.type "list",data:=.seq c.toArray} (.aG (o.map aL.d)))) (λb=>?_) (.inl (.inr ⟨{cls:=.type "list",data:=.seq c.toArray},js⟩)) (λb u I=>?_) (λeW pos V e=>?_) (λb I=>?_) λ_=>U
  ·by_cases f:b=S
   ·rw[f];exact .inr (.inl ⟨_,_,js⟩)
   ·rw[fN f]
    cases V:T b with
    |none=>exact .inl rfl|some u=>obtain⟨eW,cL,_,rfl⟩:=cv b u V;exact .inr (.inr ⟨eW,cL,rfl⟩)
  ·by_cases f:b=S
   ·subst f
    rw[js]at I;cases I;exact⟨l,by rw[ct];exact aa,c,_,ac,l⟩
   ·rw[fN f]at I
    obtain⟨eW,cL,aN,rfl⟩:=cv b u I;exact ao _ _ _ _ aN
  ·have I:=dP eW pos V e
   rw[fN (λr=>by rw[r,an]at I;cases I)];exact I
  ·by_cases f:b=S
   ·exact .inl f
   ·rw[fN f]at I
    cases V:T b with
    |none=>exact absurd V I|some u=>obtain⟨eW,cL,aN,rfl⟩:=cv b u V;exact .inr ⟨eW,cL,aN⟩
def zy (V:cW)(J:bD):Bool:=match pq J with
 |none=>ae|some (P,_,_)=>(J.lookup P).isNone && ((recsOf V).find? λe=>e.name==(rU "put_in_order")).isSome
theorem Uy {N:cW}{J:bD}{Y:Heap}{d:cx}{f:ExcName->qw}{a7 g:eu}(T:Top N d f a7 g Y)(H:J.In Y)(c:zy N J=ae):
  ∀a pos V,pq J=E (a,pos,V)->J.lookup a=k/\isCodeTable Y a/\Y.get? a=E {cls:=.none,data:=.fields #[]}:=λa pos V e=>by
 unfold zy at c;rw[e]at c;obtain⟨ab,af⟩:=kW.mp c;obtain⟨y,h⟩:=vQ.mp af;obtain⟨Q,i⟩:∃Q,CO J "put_in_order"=E (Q,a):=by
  obtain⟨cL,br,e⟩:=g4.mp e;obtain⟨bG,_,e⟩:=g4.mp e;obtain⟨eW,_,e⟩:=ik.mp e;grind
 obtain⟨S,b⟩:=W.tab_of T H h i;exact⟨qr.mp ab,(S.tab b).isCodeTable,b⟩
noncomputable def ug (A:d4)(j:Nat):d4:=match A with
 |.ClassDef _ _ _ body _ _ _ _ _ _ _=>body.getD j (.Pass ⟨0,0,0,0⟩)|_=>.Pass ⟨0,0,0,0⟩
noncomputable def kL (A:d4):Arguments:=match A with
 |.FunctionDef _ S _ _ _ _ _ _ _ _=>S|_=>{posonlyargs:=[],args:=[],vararg:=k,kwonlyargs:=[],kw_defaults:=[],kwarg:=k,defaults:=[]}
noncomputable def iV (A:d4):List d4:=match A with
 |.FunctionDef _ _ b _ _ _ _ _ _ _=>b|_=>[]
noncomputable def fZ (A:d4):Scope:=match A with
 |.FunctionDef _ _ _ _ _ _ a _ _ _=>a|_=>{kind:=.function,names:=[],isGenerator:=ax,isCoroutine:=ax}
abbrev fe:i_:=λ_ _ _ _ _ _=>False
abbrev jw:b4:=λ_ _ _=>False
structure g7 (J:bD)(X a:Str)(aU:d4)(w:aV)(bG:hk):Prop where
 aW:∃(c:aR) (d:gv) (e f g:aR) (h:gv) (b i:aR) (j:mP),
  bG=W.fnOf X a (kL aU) (iV aU) (fZ aU) .none e f g h b i/\J.lookup w=E ⟨c,d,.func bG,j⟩/\ph J b a=ae
 lH:kE J (.ref w)=ae
section
variable {J:bD}
theorem g7.DH {X g:Str}{aU:d4}{w:aV}{bG:hk}{aF:cx}(F:g7 J X g aU w bG)
  (Y:∀(a b c:aR) (d:gv) (e f:aR) (aa:cu),aa.length=aF.length->bindArgs (W.fnOf X g (kL aU) (iV aU) (fZ aU) .none a b c d e f) ⟨aa,[]⟩=pure (aF.zip aa)):h7 J bG aF []:=by
 obtain⟨h,i,a,b,c,d,e,f,j,rfl,lk,l⟩:=F.aW;exact .all (Y a b c d e f)
theorem Kh {X a:Str}{aU:d4}{w:aV}{h:aR}{i c:gv}{j:mP}{d e f b g:aR}(s:J.lookup w=E ⟨h,i,.func (W.fnOf X a (kL aU) (iV aU) (fZ aU) .none d e f c b g),j⟩)
  (Q:ph J b a=ae) (D:kE J (.ref w)=ae):g7 J X a aU w (W.fnOf X a (kL aU) (iV aU) (fZ aU) .none d e f c b g):=⟨⟨h,i,d,e,f,c,b,g,j,rfl,s,Q⟩,D⟩
end
def bu (R aq:aj):Prop:=∀b C,R b=E C->aq b=E C
theorem bu.fc (R:aj):bu R R:=λ_ _ Y=>Y
theorem bu.b_ {R ar a5:aj}(S:bu R ar)(b:bu ar a5):bu R a5:=λQ C Y=>b Q C (S Q C Y)
theorem bu.ck {R aq:aj}(e:bu R aq){s:aV}(Y:aq s=IQ):R s=IQ:=by
 cases V:R s with
 |none=>rfl|some C=>
  rw[e s C V]at Y;cases Y
theorem bu.seq {J:bD}{R aq:aj}{S:aV}{m:a3}(e:bu R aq)(Y:dG J R S m):dG J aq S m:=by
 rcases Y with(Y |⟨C,Y⟩)|Y
 ·exact .inl (.inl (e _ _ Y))
 ·exact .inl (.inr ⟨C,e _ _ Y⟩)
 exact .inr Y
noncomputable def zz (z:Nat)(w:Nat->aL):i8:=⟨λO _=>O<z,λO R X aq=>aq=R/\X=w O,λO _=>z<=O⟩
noncomputable def Ki:List String:=["enumerate", "zip", "dict_itemiterator", "dict_reverseitemiterator", "odict_iterator", "itertools.zip_longest", "itertools.pairwise"]
theorem Uz {P:cW}{r:cF}{J:bD}{bV:bI}{a:aV}{z:Nat}{w:Nat->aL}{K:Nat->aR->Prop}{d:Nat->Heap->Prop}
  (L:∀p:dp,p.handled=k->Walks P r p a [a] [a] z K d) (N:∀O v,O<z->K O v->cc (w O) v)
  (S:∀O Y,d O Y->∃C cI c,Y.get? a=E C/\C.cls=.type cI/\C.data=.fields c/\Ki.contains cI=ax)
  (T:∀(p:dp) (O:Nat) (A:aY) (q:aR->aY->Prop) (l:aR->aY->Prop),d O A.heap->q (.ref a) A->bM (model P r) p (pyIter (.ref a)) q l A)
  (U:∀O Y aE,d O Y->(∀b∈[a],∀C,Y.get? b=E C->aE.get? b=E C)->d O aE):
  px P r J bV (zz z w) [a] a (λO Y=>O<=z/\d O Y) where
 mem:=by simp
 dI:=λO Y aU b f=>by
  grind
 e6:=λO Y aE aU D=>⟨aU.1,U O Y aE aU.2 D⟩
 item:=by
  intro H i hw j m O ag A o R l g h aU t;subst i hw j;obtain⟨u,x,V,B,F,G⟩:=h a (by simp)
  have aB:O<z:=t;refine j_ ((L H.p (g.i.gi m)).item O A _ _ aB aU.2 λv aE I W M hs X=>?_)
  have Z:a6 H ag o R {A with heap:=aE,toks:=I}:=g.nC (λb C f e=>hs b C (by simpa using f) e) u x B F G
  obtain⟨C,cI,c,e,Q,y,aa⟩:=S _ _ M;exact⟨_,rfl,ze (A:={A with heap:=aE,toks:=I}) (z:=cI) e Q y aa ⟨w O,R,Z,N O v aB W,⟨rfl,rfl⟩,⟨aB,M⟩,λb f=>(h b f).1⟩⟩
 done:=by
  intro H i hw j m O ag A o R l g h aU t;subst i hw j;obtain⟨u,x,V,B,F,G⟩:=h a (by simp)
  have aB:z<=O:=t;have e:O=z:=Nat.le_antisymm aU.1 aB;subst e;exact j_ ((L H.p (g.i.gi m)).done A _ _ aU.2 λaE I hs X=>⟨rfl,g.nC (λb C f e=>hs b C (by simpa using f) e) u x B F G⟩)
 r_:=λp O A q l aU Y=>T p O A q l aU.2 Y
noncomputable def lJ (X:Str)(O:Nat):aL:=.f ⟨#[X.cps.getD O 0]⟩
theorem UA {P:cW}{r:cF}{a:aV}{X:Str}{n:Tok}(p:dp)(b:p.handled=k):Walks P r p a [a] [a] X.cps.size (SignAt X) (λO Y=>Y.IsStrIter a (hZ X) X n O):=by
 cases c:X.cps.all (·<128)
 ·have e:hZ X="str_iterator":=by simp[hZ,c]
  rw[e];exact Walks.strWide b a X n
 ·have e:hZ X="str_ascii_iterator":=by simp[hZ,c]
  rw[e];exact Walks.strAscii b a X n
theorem Kj {X:Str}{O:Nat}{v:aR}(Y:SignAt X O v):cc (lJ X O) v:=by
 obtain⟨Q,u,e,rfl⟩:=Y;refine⟨u,?_⟩;simp_all
theorem UB (X:Str):Ki.contains (hZ X)=ax:=by
 unfold hZ;split<;>decide
theorem UC {P:cW}{r:cF}{J:bD}{bV:bI}(a:aV)(X:Str)(n:Tok):px P r J bV (zz X.cps.size (lJ X)) [a] a (λO Y=>O<=X.cps.size/\Y.IsStrIter a (hZ X) X n O):=by
 refine Uz  (UA) (λO v _ Y=>Kj Y) (λO Y aU=>?_) (λp O A q l aU Y=>?_) (λO Y aE aU D=>?_)
 ·obtain⟨C,e,Q,y⟩:=aU
  exact⟨C,_,_,e,Q,y,UB X⟩
 ·cases b:X.cps.all (·<128)
  ·have e:hZ X="str_iterator":=by simp[hZ,b]
   rw[e]at aU;exact wpAny_pyIter_striter_wide aU Y
  ·have e:hZ X="str_ascii_iterator":=by simp[hZ,b]
   rw[e]at aU;exact wpAny_pyIter_striter_ascii aU Y
 ·obtain⟨C,e,G⟩:=aU
  exact⟨C,D a (by simp) C e,G⟩
theorem a6.DI {H:bQ}{ag:di}{o:bU}{R:aj}{A:aY}{aE:Heap}{g:Nat}{c:jT}(d:a6 H ag o R A)(D:∀b C,b∉c->A.heap.get? b=E C->aE.get? b=E C)
  (f:∀b∈c,kd H ag R b) (j:0<g:=by fail "0"):a6 H ag o R {A with heap:=aE,toks:=g}:=by
 have i:∀b u,R b=E u->b∉c:=λb u e I=>by rw[(f b I).1]at e;cases e
 refine d.step    (λb l=>?_) (λb C _ _ a e _=>D b C a e) (λb C _ _ a e _=>⟨C.slots,D b C a e⟩) (λ_ _ _ _ z=>z)
  (λb C a e=>⟨C,D b C a e⟩) (λ_ _ e=>e) (λ_ _ _ e=>e) (λ_ _ _ e=>e) (λh m=>?_) (λb u e=>?_) d.kZ j
 ·obtain⟨r,s,t,w,x,y⟩:=f b l
  trivial
 ·obtain⟨C,aw,n,q,G⟩:=m
  exact⟨C,aw,n,D _ C (λI=>(f _ I).2.1 rfl) q,G⟩
 ·refine(d.cA b u e).t4 (λQ v a V=>D Q v ?_ V) (λ_ V=>V) λ_ _ V=>V
  rcases a with I |I
  ·rw[I];exact i b u e
  exact i Q _ I
theorem UD {H:bQ}{ag:di}{o:bU}{R:aj}{A:aY}{ab:Heap}{d:Nat}{f:Tok}{e a:aV}{O:Nat}{X:aR}{t:aL}{bU:Heap->Prop}{pD:ew}{hs:Nat}{pos:Pos}{l:aR->aY->Prop}
  (h:a6 H ag o R A) (m:∀b∈[e,a],kd H ag R b) (n:e<A.heap.objs.size) (q:a<A.heap.objs.size) (P:e≠a) (r:IsEnumOut ab e a ((O:Int)+1) X A.heap.objs.size) (v:cc t X)
  (w:ab.get? A.heap.objs.size=E {cls:=.type "tuple",data:=.seq #[.int O f,X]}) (Q:ab.objs.size=A.heap.objs.size+1) (x:∀b C,b≠e->b≠a->A.heap.get? b=E C->ab.get? b=E C)
  (y:∀af,rL e ab af->bU af) (S:0<d:=by fail "0"):
  bM (model H.cb H.r) H.p (letOwnedTupleGo (.Tuple pD hs pos) (.ref e) (.ref A.heap.objs.size)) (λ_ bj=>∃I aq,a6 H ag o aq bj/\cc I (.ref A.heap.objs.size) /\
   (∃N,R N=k/\I=.a0 N/\aq=b8 R N (.a_ [.d O,t]))/\(IsEnum bj.heap e a ((O+1:Nat):Int) X/\bU bj.heap)/\∀b∈[e,a],aq b=k) l {A with heap:=ab,toks:=d}:=by
 refine wpAny_letOwnedTupleGo_enum r λaf z g=>?_
 replace g:rL e ab af:=g;have B:R A.heap.objs.size=k:=h.cA.fm (cM _);have D:A.heap.objs.size≠e:=rN n;have F:A.heap.objs.size≠a:=rN q;have J:a6 H ag o (b8 R A.heap.objs.size (.a_ [.d O,t])) {A with heap:=A.heap.push {cls:=.type "tuple",data:=.seq #[.int O f,X]},toks:=d}:=by
  refine h.gR (λb u V=>el _ V) (cM _) ⟨?_,[.int O f,X],.cons ⟨_,rfl⟩ (.cons v .nil),⟨_,gf _ rfl,rfl,_,rfl⟩⟩
  show 2<=cw
  decide
 have i:∀b∈[e,a],kd H ag (b8 R A.heap.objs.size (.a_ [.d O,t])) b:=λb c=>by
  obtain⟨K,G⟩:=m b c;refine⟨?_,G⟩;rw[fN (by rcases df.mp c with rfl |c;exact D.symm;rcases df.mp c with rfl |c;exact F.symm;cases c)]
  exact K
 have L:a6 H ag o (b8 R A.heap.objs.size (.a_ [.d O,t])) {A with heap:=af,toks:=d}:=by
  refine a6.DI (A:={A with heap:=A.heap.push {cls:=.type "tuple",data:=.seq #[.int O f,X]},toks:=d}) (c:=[e,a]) J (λb C c V=>?_) i
  have j:b≠e:=λI=>c (by simp[I])
  have M:b≠a:=λI=>c (by simp[I])
  refine(g.2 b j).trans ?_;rcases IB V with⟨rfl,rfl⟩|cL
  ·exact w
  ·exact x b C j M cL
 refine⟨.a0 A.heap.objs.size,_,L,rfl,⟨A.heap.objs.size,B,rfl,rfl⟩,⟨?_,y af g⟩,λb c=>(i b c).1⟩
 have:((O+1:Nat):Int)=(O:Int)+1:=by push_cast;rfl
 rw[this];exact z
def zA (J:bD)(s:aV):i8:=
 ⟨λO R=>∃m X,dG J R s m/\m[O]?=E X,λO R t aq=>∃N X,(∀m,dG J R s m->m[O]?=E X)/\R N=k/\t=.a0 N/\aq=b8 R N (.a_ [.d O,X]),λO R=>∃m,dG J R s m/\m.length<=O⟩
theorem UE {P:cW}{r:cF}{J:bD}{pD:ew}{hs:Nat}{pos:Pos}(e c s:aV)(i:e≠c):
  px P r J (.Tuple pD hs pos) (zA J s) [e,c] e (λO Y=>(∃d,IsEnum Y e c (O:Nat) d)/\Y.IsListIter c s O) where
 mem:=by simp
 dI:=λO Y aU b z=>by
  obtain⟨⟨d,a⟩,C,B,Q,y⟩:=aU;grind
 e6:=λO Y aE aU D=>by
  obtain⟨⟨d,a⟩,g⟩:=aU;exact⟨⟨d,D e (by simp) _ a⟩,g.at λC V=>D c (by simp) C V⟩
 item:=by
  intro H j hw n F O ag A o R l f q aU t;subst j hw n;obtain⟨m,X,h,v⟩:=t;obtain⟨G,w,N,K⟩:=f.dV h;obtain⟨u,L,M⟩:=w.gQ v;obtain⟨⟨d,a⟩,g⟩:=aU;refine wpAny_pyNext_enum_item a g N.isList (x:=u) (by simpa using L) i λab S T U W Z=>?_
  refine⟨_,rfl,?_⟩;have aa:e<A.heap.objs.size:=eK a;have ac:c<A.heap.objs.size:=by obtain⟨C,B,_⟩:=id g;exact eK B
  refine b9 (UD (bU:=λaf=>af.IsListIter c s (O+1)) f q aa ac i S M U W Z λaf ah=>T.extBut ah.extBut i.symm) λ_ bj V=>?_
  obtain⟨I,aq,aj,ak,⟨N,al,rfl,rfl⟩,⟨am,an⟩,bL⟩:=V;exact⟨.a0 N,_,aj,ak,⟨N,X,λaS ao=>by rw[f.r6 ao h];exact v,al,rfl,rfl⟩,⟨⟨u,am⟩,an⟩,bL⟩
 done:=by
  intro H j hw n F O ag A o R l f q aU t;subst j hw n;obtain⟨m,h,v⟩:=t;obtain⟨G,w,N,K⟩:=f.dV h;obtain⟨⟨d,a⟩,g⟩:=aU;have ay:=w.dB;obtain⟨ap,ar,az,as,au,av⟩:=q c (by simp)
  exact wpAny_pyNext_enum_end (f.i.gi F) a g N.isList (by simp;lia) λaE aw=>⟨rfl,f.nC (f:=A.toks) (λb C z e=>aw b C z e) ap ar as au av⟩
 r_:=λ_ _ _ _ _ aU Y=>by
  obtain⟨⟨d,a⟩,_⟩:=aU;exact wpAny_pyIter_enum a Y
theorem Kk {P:cW}{r:cF}{a:aV}{X:Str}{n:Tok}(p:dp)(b:p.handled=k):Draws P r p a [a] X.cps.size (λO v=>∃Q u,X.cps[O]?=E Q/\v=.str ⟨#[Q]⟩ u) (λO Y=>Y.IsStrIter a (hZ X) X n O):=by
 cases c:X.cps.all (·<128)
 ·have e:hZ X="str_iterator":=by simp[hZ,c]
  rw[e];exact Draws.strWide b a X n
 ·have e:hZ X="str_ascii_iterator":=by simp[hZ,c]
  rw[e];exact Draws.strAscii b a X n
section
variable {H:bQ}{pD:ew}{hs:Nat}{DJ:Pos}
def UG (J:bD)(bE:fg):k0:=λo R bp=>bE o R λc ar=>∃S,c=[.a0 S]/\(∃m,dG J ar S m)/\bp (zA J S) ar
theorem UH {S:bI}{bE:fg}{N pos:Pos}(h:iD H "enumerate")(i:H.a7 "enumerate"=k)(j:gF H [S] bE)(l:ej [S] H.x=[(ax,eval S H.x)]:=by rfl):
  ou H (.Tuple pD hs DJ) (.Call (.Name "enumerate" N) [S] [] pos) (UG H.J bE):=by
 intro ag A o R bp d Y;refine Call_ (r5 d h i (u:=.type "enumerate") (by rfl) (vV (b9 (j pos ag A o R _ d Y) λaa bh n=>?_) l rfl))
 obtain⟨c,ar,a,bC,q⟩:=n;obtain⟨s,e,⟨m,r⟩,V⟩:=q;subst e;cases bC with
 |cons G kc=>
  cases kc;cases G;obtain⟨x,y,N,z⟩:=a.dV r;refine call_enumerate_list N.isList λaE f t B v=>?_
  refine wpAny_pyIter_enum (s:={bh with heap:=aE}) f ?_;have w:a6 H ag o ar {bh with heap:=aE}:=a.iB (a:=bh.toks) v;refine⟨bh.heap.objs.size+1,[bh.heap.objs.size+1,bh.heap.objs.size],_,_,ar,rfl,w,UE _ _ s (by simp),⟨⟨_,f⟩,t⟩,λb C=>?_,V⟩
  have g:bh.heap.objs.size<=b:=by
   grind
  exact a.r9 g (a.cA.fm g)
variable {prog:cW}{r:cF}{p:dp}{bp:Result->aY->Prop}{A:aY}
theorem UI {hJ c iter:bI}{ifs:ew}{scope:Scope}{pos:Pos}{d g:aR}{x:Env}(a:Nat->aY->Prop)
  (q:∀z A,a z A->bM (model prog r) p (pyNext d) (λG e=>match G with
   |none=>bp (.ok .next) e| some v=>bM (model prog r) p (letOwnedTupleGo c d v) (λ_ i=>bM (model prog r) p (assign c x v) (λ_ j=>
     bM (model prog r) p (forIn ifs ae λQ G=>if G=ae then do let b <- isTrue Q x (eval Q x);pure (ForInStep.yield b)else pure (ForInStep.yield G)) (λb f=>
      if b=ae then bM (model prog r) p (eval hJ x) (λX l=>
       bM (model prog r) p (call (.builtin "list.append") [g,X]) (λ_ m=>∃h,h<z/\a h m) (λ_ _=>False) l) (λ_ _=>False) f
      else∃h,h<z/\a h f) (λ_ _=>False) j) (λ_ _=>False) i) (λ_ _=>False) e) (λ_ _=>False) A)
  (z:Nat) (Y:a z A):
  codeAny (model prog r) p (.compLoop (.ListComp hJ [⟨c,iter,ifs,0⟩] scope pos) 0 d g x) bp A:=by
 refine codeAny_loop rfl a (λz A s=>?_) z Y
 show bM _ p _ _ _ A
 refine wpAny_noted ?_;rw[compTurn_list];refine bK (wpAny_standAt (bK (kC (q z A s) (λG e n=>?_) λ_ _ aE=>aE.elim)))
 cases G with
 |none=>exact dx n|some v=>
  refine bK (kC n (λ_ i t=>?_) λ_ _ aE=>aE.elim)
  refine bK (kC t (λ_ j u=>bK (kC u (λb f o=>?_) λ_ _ aE=>aE.elim)) λ_ _ aE=>aE.elim)
  cases b with
  |false=>exact dx ⟨rfl,o⟩|true=>
   exact bK (bK (kC o (λX l w=>bK (kC w (λ_ m y=>dx (dx ⟨rfl,y⟩)) λ_ _ aE=>aE.elim)) λ_ _ aE=>aE.elim))
end
noncomputable def mW (b:jS):List (Str×nx)->jS->Option jS
 |[],a=>E a|(z,D)::G,a=>if(D == .free)=ae then(match b.lookup z with |some Q=>mW b G ((z,Q)::a)|none=>k)else mW b G a
theorem DK {x:Env}{w:Str×nx->jS->Sem (ForInStep jS)}
  (c:∀z D d,w (z,D) d=if(D == NameKind.free)=ae then(do let Q <- cellOf x z;pure (ForInStep.yield ((z,Q)::d)))else pure (ForInStep.yield d)):
  ∀(e:tX) (a bZ:jS),mW x.cells e a=E bZ->(forIn e a w:Sem jS)=pure bZ
 |[],a,bZ,Y=>by cases (Y);rfl
 |(z,D)::G,a,bZ,Y=>by
  rw[yE,c];unfold mW at Y;by_cases b:(D == NameKind.free)=ae
  ·rw[if_pos b]at Y
   rw[if_pos b];cases f:x.cells.lookup z with
   |none=>simp_all|some Q=>
    rw[f]at Y;rw[(show cellOf x z=pure Q by unfold cellOf;rw[f])]
    exact DK c G _ bZ Y
  ·rw[if_neg b]at Y
   rw[if_neg b];exact DK c G _ bZ Y
theorem Kl {x:Env}{scope:Scope}{bZ:jS}(Y:mW x.cells scope.names []=E bZ):closureFor scope x=pure bZ:=by
 unfold closureFor;dsimp only;rw[DK  (λz D a=>rfl) _ [] bZ Y]
 rfl
theorem zB {a:jS}:∀(g:tX) (b bZ:jS),mW a g b=E bZ->(∀X Q,b.lookup X=E Q->a.lookup X=E Q) ->
  (∀X Q,bZ.lookup X=E Q->a.lookup X=E Q)
 |[],b,bZ,Y,c=>by cases Y;exact c
 |(z,D)::G,b,bZ,Y,c=>by
  unfold mW at Y;by_cases d:(D == NameKind.free)=ae
  ·rw[if_pos d]at Y
   cases f:a.lookup z with
   |none=>rw[f]at Y;cases Y|some Q=>
    rw[f]at Y;refine zB G _ bZ Y λX cR e=>?_
    grind
  ·rw[if_neg d]at Y
   exact zB G _ bZ Y c
theorem zC {c:jS}:∀(d:tX) (b bZ:jS),mW c d b=E bZ->∀X,((X,NameKind.free)∈d\/∃Q,b.lookup X=E Q)->∃Q,bZ.lookup X=E Q
 |[],b,bZ,Y,X,a=>by
  cases Y;rcases a with a |a
  ·cases a
  ·exact a
 |(z,D)::G,b,bZ,Y,X,a=>by
  unfold mW at Y;by_cases e:(D == NameKind.free)=ae
  ·rw[if_pos e]at Y
   cases f:c.lookup z with
   |none=>rw[f]at Y;cases Y|some Q=>
    rw[f]at Y;refine zC G _ bZ Y X ?_;grind
  ·rw[if_neg e]at Y
   refine zC G _ bZ Y X ?_;grind
theorem zD {scope:Scope}{x:Env}{X:Str}{D:nx}(Y:(relabel scope x).names.lookup X=E D)(a:D=.cell\/D=.free)(b:∀t∈scope.names,t.2≠.cell):(X,NameKind.free)∈scope.names:=by
 have h:=rC Y;obtain⟨⟨z,c⟩,d,e⟩:=e3.mp h;grind
def kf (H:bQ)(scope:Scope)(bZ:jS)(aJ:aV)(bw:cx)(a:jT)(bj:aY)(a5:aj):bQ where
 cb:=H.cb
 r:=H.r
 J:=H.J
 a7:=H.a7
 bg:=H.bg
 p:=H.p
 bw:=bw
 jt:=bj
 t6:=a5
 x:=compEnvC scope bZ aJ H.x
 mc:=H.hn
 hn:=H.hn
 aW:=a
 ho:=λ_=>ax
 fo:=H.fo
 aA:=[]
 e7:=λ_ _=>False
structure uh (H:bQ)(scope:Scope)(bZ:jS)(bW:cx)(bL:jn):Prop where
 wk:mW H.x.cells scope.names []=E bZ
 kI:∀t∈scope.names,t.2≠.cell
 hp:scope.kind=.function
 names:∀I∈scope.names,I.2=.local->scope.names.lookup I.1=E .local
 bL:∀V∈bL,H.bw[V.2]?=E V.1/\(V.1,NameKind.free)∈scope.names/\(H.x.kindOf V.1=E .cell\/H.x.kindOf V.1=E .free) /\
  ((relabel scope H.x).names.lookup V.1=E .cell\/(relabel scope H.x).names.lookup V.1=E .free)
noncomputable def hK (bW:cx)(bL:jn):List Str:=bW++bL.map (·.1)
def oz (bW:cx)(bL:jn)(o:bU):bU:=bW.map (λ_=>k)++bL.map λV=>(o[V.2]?).join
theorem UJ {H:bQ}{ag:di}{o:bU}{a5:aj}{bj:aY}{scope:Scope}{bZ:jS}{bW:cx}{bL:jn}{l:jT}{m:Heap}{y:Nat}{h:eu}{z:Nat}
  (a:a6 H ag o a5 bj) (f:uh H scope bZ bW bL) (r:∀b∈l,kd H ag a5 b) (F:∀b∈l,b<bj.heap.objs.size) (J:m.Ns (bj.heap.objs.size+1) h) (K:m.get? bj.heap.objs.size=E {cls:=.type "list",data:=.seq #[] z})
  (n:∀b C,bj.heap.get? b=E C->m.get? b=E C) (L:0<y:=by fail "0"):
  a6 (kf H scope bZ (bj.heap.objs.size+1) (hK bW bL) l bj a5) [] (oz bW bL o) (b8 a5 bj.heap.objs.size (.aG [])) {bj with heap:=m,toks:=y}:=by
 have g:=zB scope.names [] bZ f.wk (λX Q e=>by cases e)
 have A:=zC scope.names [] bZ f.wk;have M:a5 bj.heap.objs.size=k:=a.cA.fm (cM _);have P:a5 (bj.heap.objs.size+1)=k:=a.cA.fm (oe _);have R:bj.heap.objs.size+1≠bj.heap.objs.size:=rN (vO _);have S:∀b∈l,(b∈H.aW\/H.jt.heap.objs.size<=b):=λb d=>(r b d).2.2.2.1
 have T:∀X Q,bZ.lookup X=E Q->Q<bj.heap.objs.size:=λX Q e=>by
  obtain⟨v,C,i,_⟩:=a.kI X Q (g X Q e);exact eK i
 refine⟨⟨a.i.dU,f.hp,a.i.ps,a.i.t5,oe _,λX t Q ab af=>a.i.inj X t Q (g X Q ab) (g t Q af),λX U=>?_,λX Q W=>(by cases W),a.i.gi,a.i.frames,.inl rfl,λb d=>?_,a.f6,jP a.i.pv a.za,λb C e d=>?_,λb d I=>?_,a.hn,a.Ju,a.c5⟩,
  rfl,a.kZ,?_,⟨h,J,λO X v ab af br=>?_⟩,λX Q e=>?_,?_,λX Q e=>?_,λN Y=>absurd (show N∈([]:di)from Y) (by simp),?_,?_,L⟩
 ·-- y7
  have Z:(relabel scope H.x).names.lookup X=E .cell\/(relabel scope H.x).names.lookup X=E .free:=U;have aa:(X,NameKind.free)∈scope.names:=Z.elim (λI=>zD I (.inl rfl) f.kI) λI=>zD I (.inr rfl) f.kI
  exact A X (.inl aa)
 ·-- C5
  obtain⟨ac,B,D,au,ah,av⟩:=r b d;refine⟨λI=>?_,λX Q e=>ah X Q (g X Q e)⟩
  have ak:b=bj.heap.objs.size+1:=I;have:=F b d;rw[ak]at this;exact absurd this (Nat.not_lt.mpr (oe _))
 ·rcases S b d with I |I
  ·exact a.i.r1 b C e I
  ·exact absurd (hY (hY (eK e) a.i.pv) I) (rM _)
 ·obtain⟨ac,B,D,_⟩:=r b d
  rcases df.mp (a.zb b I)with V |V
  ·exact B V
  ·exact D V
 ·exact ip.gR n (cM _) M
 ·-- ka
  have j:(bW++bL.map (·.1))[O]?=E X:=ab;have q:(bW.map (λ_=>k)++bL.map λV=>(o[V.2]?).join:bU)[O]?=E (E v):=af
  by_cases aB:O<bW.length
  ·grind
  ·rw [pe (by simpa using aB),gC]at q
   rw[pe (by lia),gC]at j
   simp only[ct]at q;cases w:bL[O-bW.length]? with
   |none=>rw[w]at j;cases j|some V=>
    rw[w]at j q;have aN:V.1=X:=jQ j;have az:(o[V.2]?).join=E v:=jQ q;have al:o[V.2]?=E (E v):=by
     grind
    obtain⟨am,an,c,ao⟩:=f.bL V (qh w);obtain⟨aw,ay,ap⟩:=a.ka;have aq:t7 H.x.scope V.1:=by
     rcases c with c |c
     ·exact .inr (.inl c)
     ·exact .inr (.inr c)
    obtain⟨u,G,s⟩:=ap V.2 V.1 v am al aq;refine⟨u,G,.inr ⟨?_,?_⟩⟩
    ·rw[<- aN];exact ao
    ·rcases s with⟨lk,_⟩|⟨_,Q,ec,ar⟩
     ·rcases c with c |c<;>(rw[lk]at c;cases c)
     ·obtain⟨cR,as⟩:=A V.1 (.inl an)
      have:cR=Q:=by
       grind
      subst this;obtain⟨C,i,x⟩:=ar;exact⟨cR,by rw[<- aN];exact as,C,n _ _ i,x⟩
 ·obtain⟨v,C,i,x⟩:=a.kI X Q (g X Q e)
  exact⟨v,C,n _ _ i,x⟩
 ·show b8 a5 _ _ (bj.heap.objs.size+1)=k
  rw[fN R];exact P
 ·have:=T X Q e
  rw[fN (gg this)];exact a.oj X Q (g X Q e)
 ·exact a.cA.gR n (cM _) ⟨jl _,[],z,.nil,K⟩
 ·show(oz bW bL o).length=(hK bW bL).length
  simp[oz,hK]
def oA (H:bQ)(ifs:ew)(n:f7):Prop:=
 ∀(ag:di) (A:aY) (o:bU) (R:aj) (q:Bool->aj->Prop),a6 H ag o R A->n o R q ->
  bM (model H.cb H.r) H.p (forIn ifs ae λQ G=>if G=ae then do let a <- isTrue Q H.x (eval Q H.x);pure (ForInStep.yield a)else pure (ForInStep.yield G)) (Dc H ag o q) H.e7 A
def zE:f7:=λ_ R q=>q ae R
theorem UK {H:bQ}:oA H [] zE:=λag A o R q a Y=>wpAny_tests_nil ⟨R,a,Y⟩
theorem UL {H:bQ}{Q:bI}{n:f7}(Y:hq H Q n):oA H [Q] n:=λag A o R q a hw=>wpAny_tests_one (Y ag A o R q a hw)
def Km (d:i8)(g:iE)(ht:f7)(dH:bN)(n:bU)(ar:aj)(q:bX):Prop:=
 ∀ a,ar a=k->∃e:Nat->Nat->a3->bU->aj->Prop,(∃h,e 0 h [] n (b8 ar a (.aG [])))/\∀O h aS o R,e O h aS o R ->
  (d.pw O R/\q (.a0 a) R)\/(d.eC O R/\∃bw:a3->bU->aj->Prop,(∀f i aq,bw f i aq->∃j,j<h/\e (O+1) j f i aq) /\
   ∀X aq,d.zd O R X aq->g X o aq λc a5=>ht c a5 λb l=>if b=ae then dH c l λv m=>m a=E (.aG aS)/\aS.length<cw/\bw (aS++[v]) c (b8 m a (.aG (aS++[v])))else bw aS c l)
section
variable {H:bQ}{scope:Scope}{bZ:jS}{bW:cx}{bL:jn}{hJ bV iter:bI}{ifs:ew}{pos:Pos}{g:iE}{ht:f7}{dH:bN}
theorem Kn {ag:di}{o:bU}{a5:aj}{bj:aY}{af:aV}{a:jT}{L:Nat->Heap->Prop}{au:i8}{q:bX}{l:aR->aY->Prop}{ah:Option (aR->Sem Unit)}{ak:aR->aY->Prop}
  (M:a6 H ag o a5 bj) (W:uh H scope bZ bW bL) (T:px H.cb H.r H.J bV au a af L) (aU:L 0 bj.heap) (al:∀b∈a,kd H ag a5 b) (bd:H.fo=ae)
  (be:∀aJ a bj a5,jU (kf H scope bZ aJ (hK bW bL) a bj a5) bV g) (bf:∀aJ a bj a5,oA (kf H scope bZ aJ (hK bW bL) a bj a5) ifs ht) (bg:∀aJ a bj a5,bt (kf H scope bZ aJ (hK bW bL) a bj a5) hJ dH)
  (bh:Km au g ht dH (oz bW bL o) a5 q)
  (bi:∀av aJ r aq bc,a6 H (ag++[(aJ,r)]) o aq bc->(∀Y:Heap,Y.get? aJ=E r->∃h,Y.Ns aJ h)->kd H ag aq aJ->q (.a0 av) aq->compPost (model H.cb H.r) H.p l ah ak (.ref av) aJ (.ok .next) bc):
  bM (model H.cb H.r) H.p (newList []) (λay P=>bM (model H.cb H.r) H.p (newFunctionEnv scope H.x.globals bZ [] H.x.qual k .none (E H.x)) (λaz bk=>
   codeAny (model H.cb H.r) H.p (.compStart (.ListComp hJ [⟨bV,iter,ifs,0⟩] scope pos) 0 (.ref af) ay {az with scope:=relabel scope H.x}) (compPost (model H.cb H.r) H.p l ah ak ay az.locals) bk) l P) l bj:=by
 have aA:∀b∈a,b<bj.heap.objs.size:=λb c=>by
  obtain⟨C,bl,_⟩:=T.dI 0 _ aU b c;exact eK bl
 refine wpAny_newList (wpAny_newFunctionEnv W.kI (by intro t bm;simp at bm) (λR am Z=>?_) W.hp)
 dsimp only at am Z ⊢;have bn:(bj.heap.push {cls:=.type "list",data:=.seq ([]:List aR).toArray}).objs.size=bj.heap.objs.size+1:=qq ..;rw[bn]at am Z ⊢;have aB:∀b C,bj.heap.get? b=E C->R.get? b=E C:=λb C e=>Z.extBut b C (gg (vN (eK e))) (el _ (el _ e))
 have bo:R.get? bj.heap.objs.size=E {cls:=.type "list",data:=.seq #[]}:=Z.extBut _ _ (gg (vO _)) (el _ (gf _ rfl));have aC:a6 (kf H scope bZ (bj.heap.objs.size+1) (hK bW bL) a bj a5) [] (oz bW bL o) (b8 a5 bj.heap.objs.size (.aG [])) {bj with heap:=R,toks:=bj.toks+([]:List (Str×aR)).length}:=
  UJ M W al aA am bo aB
 generalize d:kf H scope bZ (bj.heap.objs.size+1) (hK bW bL) a bj a5=X' at aC
 have x:X'.cb=H.cb:=by rw[<- d];rfl
 have A:X'.r=H.r:=by rw[<- d];rfl
 have aD:X'.J=H.J:=by rw[<- d];rfl
 have B:X'.p=H.p:=by rw[<- d];rfl
 have ec:X'.fo=ae:=by rw[<- d];exact bd
 have aW:X'.e7=λ_ _=>False:=by rw[<- d];rfl
 have s:X'.x=compEnvC scope bZ (bj.heap.objs.size+1) H.x:=by rw[<- d];rfl
 have bp:jU X' bV g:=d ▸ be _ _ _ _;have bq:oA X' ifs ht:=d ▸ bf _ _ _ _;have br:bt X' hJ dH:=d ▸ bg _ _ _ _;obtain⟨aE,⟨bs,bu⟩,bv⟩:=bh bj.heap.objs.size (M.cA.fm (cM _));have aF:L 0 R:=T.e6 _ _ _ aU λb _ C e=>aB b C e
 have D:∀b∈a,kd X' [] (b8 a5 bj.heap.objs.size (.aG [])) b:=λb c=>by
  obtain⟨aG,an,aH,aI,D,aK⟩:=al b c;have:=aA b c;refine⟨?_,?_,?_,.inl ?_,?_,?_⟩
  ·rw[fN (gg this)];exact aG
  ·rw[s];exact gg (vN this)
  ·intro I
   have bx:b∈md H.hn:=by rw[<- d]at I;exact I
   rcases df.mp (M.zb b bx)with V |V
   ·exact an V
   ·exact aH V
  ·rw[<- d];exact c
  ·intro X Q e
   rw[s]at e;exact D X Q (zB scope.names [] bZ W.wk (λX Q e=>by cases e) X Q e)
  ·intro N j
   rw[<- d]at j;exact absurd (show N∈([]:di)from j) (by simp)
 have ao:∀{aq:aj},(∀b∈a,aq b=k)->∀b∈a,kd X' [] aq b:=λaa b c=>⟨aa b c,(D b c).2⟩
 have aM:∀P:aY,P={bj with heap:=R,toks:=bj.toks+([]:List (Str×aR)).length} ->
   codeAny (model H.cb H.r) H.p (.compLoop (.ListComp hJ [⟨bV,iter,ifs,0⟩] scope pos) 0 (.ref af) (.ref bj.heap.objs.size) (compEnvC scope bZ (bj.heap.objs.size+1) H.x))
    (compPost (model H.cb H.r) H.p l ah ak (.ref bj.heap.objs.size) (bj.heap.objs.size+1)) P:=by
  rintro P rfl;refine UI (λz bc=>∃O aS S aq,a6 X' [] S aq bc/\L O bc.heap/\(∀b∈a,aq b=k)/\aE O z aS S aq) ?_ bs ⟨0,[],_,_,aC,aF,λb c=>(D b c).1,bu⟩
  rintro z aN ⟨O,aS,ab,i,aP,aQ,aT,bz⟩;rcases bv O z aS ab i bz with⟨bA,bB⟩|⟨bC,bw,bD,bE⟩
  ·have U:=T.done X' x A aD ec O [] aN ab i (λ_ _=>False) aP (ao aT) aQ bA
   rw[B]at U;refine b9 U λG m f=>?_
   obtain⟨ap,F⟩:=f;subst ap;have bF:ip (md H.hn) a a5 i bj.heap m.heap:=by
    have:=F.bg;rw[<- d]at this;exact this
   have bG:m.os=bj.os:=by
    have:=F.os;rw[<- d]at this;exact this
   have bH:gh H.cb H.r i m.heap:=by
    have:=F.cA;rw[<- d]at this;exact this
   have aX:a6 H ag o i m:=M.Si bG bF bH F.kZ λb c=>by
    obtain⟨aG,an,aH,aI,D,aK⟩:=al b c;exact⟨aI,an,D,aK⟩
   obtain⟨h,aa,_⟩:=F.ka;have bI:m.heap.Ns (bj.heap.objs.size+1) h:=by rw[s]at aa;exact aa
   have aZ:i (bj.heap.objs.size+1)=k:=by
    have:=F.ck;rw[s]at this;exact this
   have ar:kd H ag i (bj.heap.objs.size+1):=M.r9 (oe _) aZ;obtain⟨r,aw,bJ,bK,a0,bN⟩:=id bI;have bO:a6 H (ag++[(bj.heap.objs.size+1,r)]) o i m:=aX.C_ λN j=>by
    rcases g0.mp j with j |j
    ·exact aX.eM N (j6 _ j)
    ·have e:N=(bj.heap.objs.size+1,r):=by simpa using j
     subst e;exact⟨bK,aZ,ar.2.1,ar.2.2.1,λv I=>by rw[a0]at I;cases I⟩
   exact bi _ _ r i m bO (λY e=>⟨h,r,aw,bJ,e,a0,bN⟩) ar bB
  ·have U:=T.item X' x A aD ec O [] aN ab i (λ_ _=>False) aP (ao aT) aQ bC
   rw[B]at U;refine b9 U λG m f=>?_
   obtain⟨u,ap,bP⟩:=f;subst ap;refine b9 bP λ_ a1 f=>?_
   obtain⟨X,a2,bQ,bR,bS,as,bT⟩:=f;have b0:=bQ.JG (ao bT) (T.dI _ _ as);have a4:=bp _ a1 ab a2 X u _ b0 bR (bE X a2 bS);rw[x,A,B,s,aW]at a4;refine b9 a4 λ_ b1 f=>?_
   obtain⟨n,b2,b3,b4⟩:=f;have a7:=bq _ b1 n b2 _ b3 b4;rw[x,A,B,s,aW]at a7;refine b9 a7 λb5 J f=>?_
   obtain⟨w,K,a8⟩:=f;have a9:∀{ac:a3}{w:aj}{J:aY},a6 X' ([]++wc a a1.heap) n w J->bw ac n w->∃h,h<z/\∃O aS S aq,a6 X' [] S aq J/\L O J.heap/\(∀b∈a,aq b=k)/\aE O h aS S aq:=λ{ac w J} K b6=>by
    obtain⟨b7,b_,ca⟩:=bD ac n w b6;refine⟨b7,b_,O+1,ac,n,w,K.ub,T.e6 _ _ _ as λb c C e=>(K.eM (b,C) (j6 _ (j6 _ (zf c e)))).1,λb c=>?_,ca⟩
    obtain⟨C,e,y⟩:=T.dI _ _ as b c;exact(K.eM (b,C) (j6 _ (j6 _ (zf c e)))).2.1
   cases b5 with
   |false=>exact a9 K a8|true=>
    have a_:=br _ J n w _ K a8;rw[x,A,B,s,aW]at a_;refine b9 a_ λt cb f=>?_
    obtain⟨v,cc,cd,ce,cf,cg,ch⟩:=f;have ba:=DD (H:=X') _ cb n cc (.a0 bj.heap.objs.size) [v] (.ref bj.heap.objs.size) [t] (λ_ bb=>bw (aS++[v]) n bb) cd rfl (.cons ce .nil) ⟨_,_,_,rfl,rfl,cf,cg,ch⟩
    rw[x,A,B,aW]at ba;refine b9 ba λ_ ck f=>?_
    obtain⟨cl,bb,ci,_,cj⟩:=f;exact a9 ci cj
 exact codeAny_compStart_list (aM _ rfl) (T.r_ _ 0 _ _ _ aF (aM _ rfl))
def wm (bW:cx)(bL:jn)(a:k0)(g:iE)(ht:f7)(dH:bN):bN:=λo R q=>a o R λb ar=>Km b g ht dH (oz bW bL o) ar q
theorem UM {f:k0}(j:H.fo=ae)(d:uh H scope bZ bW bL)(aB:ou H bV iter f)
  (l:∀aJ a bj a5,jU (kf H scope bZ aJ (hK bW bL) a bj a5) bV g) (m:∀aJ a bj a5,oA (kf H scope bZ aJ (hK bW bL) a bj a5) ifs ht) (n:∀aJ a bj a5,bt (kf H scope bZ aJ (hK bW bL) a bj a5) hJ dH)
  (r:∀X,foldedSetIterable iter H.x X=pure X:=by intro _;rfl):bt H (.ListComp hJ [⟨bV,iter,ifs,0⟩] scope pos) (wm bW bL f g ht dH):=by
 intro ag A o R q s Y;refine wpAny_comprehension_free  rfl r (Kl d.wk) d.hp d.names ?_;refine b9 (aB ag A o R _ s Y) λv bh ab=>b9 ab λG bj af=>?_
 obtain⟨I,a,J,K,a5,e,t,T,u,w,V⟩:=af;subst e;refine Kn t d T u w j l m n V λx aJ L aq bc i y c z=>?_
 obtain⟨h,B⟩:=y _ (i.eM _ (j6 _ (j6 _ (fv.mpr rfl)))).1;exact⟨h,B,λaE D=>⟨.a0 x,aq,i.ub.nC  (λb C F e=>(D.2 b F).trans e) c.1 c.2.1 c.2.2.2.1 c.2.2.2.2.1 c.2.2.2.2.2,rfl,z⟩⟩
theorem UN {l:k0}{j:Nat}{t:Str}{a m:Pos}(u:H.fo=ae)(f:uh H scope bZ bW bL)(aB:ou H bV iter l)
  (w:∀aJ c bj a5,jU (kf H scope bZ aJ (hK bW bL) c bj a5) bV g) (x:∀aJ c bj a5,oA (kf H scope bZ aJ (hK bW bL) c bj a5) ifs ht) (y:∀aJ c bj a5,bt (kf H scope bZ aJ (hK bW bL) c bj a5) hJ dH)
  (z:jU H (.Name t a) (oq j))
  (B:swapsWith (.ListComp hJ [⟨bV,iter,ifs,0⟩] scope pos) (E (.Name t a)) m.line H.x=pure ae:=by rfl)
  (D:∀X,foldedSetIterable iter H.x X=pure X:=by intro _;rfl):ju H (.Assign [.Name t a] (.ListComp hJ [⟨bV,iter,ifs,0⟩] scope pos) m) (ot (wm bW bL l g ht dH) (oq j)):=by
 intro ag A o R F G Y;rw[exec_Assign_Name_used _ _ _ _ B];refine bK (wpAny_standAt (bK ?_));show bM _ H.p (do let _ <- comprehension (.ListComp hJ [⟨bV,iter,ifs,0⟩] scope pos) scope H.x _ (newList []) ax (eval iter H.x) (E (assign (.Name t a) H.x))) _ _ A
 refine bK (kC (wpAny_comprehension_free (use:=E (assign (.Name t a) H.x)) (Q:=λ_ bc=>r4 H ag F .next bc) rfl D (Kl f.wk) f.hp f.names ?_) (λ_ bc I=>dx (dx I)) λ_ _ e=>e)
 refine b9 (aB ag A o R _ G Y) λv bh ab=>b9 ab λaj bj af=>?_
 obtain⟨ak,c,al,am,a5,e,J,T,K,L,V⟩:=af;subst e;refine Kn J f T K L u w x y V λi aJ M aq bc N O P S=>?_
 show bM _ H.p (assign (.Name t a) H.x (.ref i)) _ _ _
 refine b9 (z _ bc o aq (.a0 i) (.ref i) _ N rfl S) λ_ n U=>?_
 obtain⟨W,q,r,Z⟩:=U;have s:=r.eM (aJ,M) (j6 _ (j6 _ (fv.mpr rfl)));obtain⟨h,aa⟩:=O n.heap s.1;refine⟨h,aa,λaE ac=>?_⟩
 have d:kd H ag q aJ:=⟨s.2.1,P.2⟩;exact⟨W,q,r.ub.nC (f:=n.toks) (λb C ah e=>(ac.2 b ah).trans e) d.1 d.2.1 d.2.2.2.1 d.2.2.2.2.1 d.2.2.2.2.2,Z⟩
end
noncomputable abbrev eN (s:bo):aL:=.f ⟨s.toArray⟩
def c6 (b:Bool)(p a:Prop):Prop:=(b=ae->p)/\(b=ax->a)
theorem wo (S b:Str):S++b=⟨(S.cps.toList++b.cps.toList).toArray⟩:=by
 show Str.mk _=_
 simp
theorem DL (S:Str):S=⟨S.cps.toList.toArray⟩:=by cases S;simp
def mj (s:bo)(a8 aB:ea):List Nat:=(s.drop (HT.dJ s.length 0 a8)).take (HT.dJ s.length s.length aB-HT.dJ s.length 0 a8)
theorem Ko (a8 aB:ea)(z:Nat):qt a8 aB 1 z=sliceRange ((HT.dJ z 0 a8:Nat):Int) ((HT.dJ z z aB:Nat):Int) 1:=by
 unfold qt;simp only[show(1:Int) > 0 by decide,if_true]
 congr 1
 ·cases a8 with
  |none=>simp[HT.dJ]|some O=>
   simp only[HT.dJ];by_cases Y:O<0
   ·simp only[Y,if_true]
    rw[IZ,yW (by lia),I0]
   ·simp only[Y,if_false]
    obtain⟨h,rfl⟩:=vS (I1.mp Y);show max 0 (min (h:Int) z)=(min h z:Nat)
    rcases IJ h z with I |I
    ·rw[yI I,yW (yX.mpr I)];exact yV (vT _)
    ·rw[CE I,IY (yX.mpr I)];exact yV (vT _)
 ·cases aB with
  |none=>simp[HT.dJ]|some O=>
   simp only[HT.dJ];by_cases Y:O<0
   ·simp only[Y,if_true]
    rw[IZ,yW (by lia),I0]
   ·simp only[Y,if_false]
    obtain⟨h,rfl⟩:=vS (I1.mp Y);show max 0 (min (h:Int) z)=(min h z:Nat)
    rcases IJ h z with I |I
    ·rw[yI I,yW (yX.mpr I)];exact yV (vT _)
    ·rw[CE I,IY (yX.mpr I)];exact yV (vT _)
theorem UO (X:Str)(a8 aB:ea):(qt a8 aB 1 X.length).filterMap (X.cps[·]?)=mj X.cps.toList a8 aB:=by
 rw[Ko,sliceRange_one,pick_run];trivial
theorem UP (s:bo)(a8 aB:ea):(mj s a8 aB).length<=s.length:=by
 unfold mj;rw[lB,qm];lia
theorem UQ {s:bo}{a8 aB:ea}(Y:(mj s a8 aB).length=s.length):mj s a8 aB=s:=by
 unfold mj at Y ⊢;rw[lB,qm]at Y;have ab:HT.dJ _ _ aB<=s.length:=HT.Dv _ _ (cM _) _;by_cases a:s.length=0
 ·grind
 ·have af:HT.dJ s.length 0 a8=0:=by lia
  simp_all
section
variable {H:bQ}
def UR:aL->ea->ea->aj->bX->Prop:=λX a8 aB R q=>match X with |.f I=>I.length<=cw/\q (eN (mj I.cps.toList a8 aB)) R |_=>False
theorem DM {v:aR}{C:ea}(N:IsPart v C):∃s:Option (Int×Tok),v=partValue s/\s.map (·.1)=C:=by
 cases N with
 |none=>exact⟨k,rfl,rfl⟩|int O n=>exact⟨E (O,n),rfl,rfl⟩
theorem US:nF H UR:=by
 intro ag A o R X v r t a8 aB w q a b c d g Y;cases X with
 |f I=>
  obtain⟨h,V⟩:=Y;obtain⟨n,rfl⟩:=b;obtain⟨s,rfl,rfl⟩:=DM d;obtain⟨u,rfl,rfl⟩:=DM g;refine⟨"str",_,Jh.lookup,typeIs_str _ _ _,?_⟩;refine wpAny_getItem_str_slice (l:=s) (u:=u) (st:=k) c rfl ?_;unfold sliceMade;have e:slicePicked I s u k=qt (s.map (·.1)) (u.map (·.1)) 1 I.length:=rfl;rw[e];have i:(qt (s.map (·.1)) (u.map (·.1)) 1 I.length).length=(mj I.cps.toList (s.map (·.1)) (u.map (·.1))).length:=by
   rw[Ko,sliceRange_one,ct,qk];unfold mj;rw[lB,qm];have ab:HT.dJ I.length I.length (u.map (·.1))<=I.length:=HT.Dv _ _ (cM _) _;have af:I.cps.toList.length=I.length:=by simp[mO]
   rw[af];lia
  split
  ·rename_i j
   have m:(mj I.cps.toList (s.map (·.1)) (u.map (·.1))).length=I.cps.toList.length:=by
    rw[<- i]
    simpa [mO]using j
   rw[UQ m]at V;have cL:q (.f I) R:=by rw[DL I];exact V
   exact⟨.f I,R,a,⟨_,rfl⟩,cL⟩
  ·rw[UO]
   have br:=UP I.cps.toList (s.map (·.1)) (u.map (·.1));have af:I.cps.toList.length=I.length:=by simp[mO]
   refine⟨?_,eN (mj I.cps.toList (s.map (·.1)) (u.map (·.1))),R,a.fX _,⟨_,rfl⟩,V⟩;show(mj I.cps.toList (s.map (·.1)) (u.map (·.1))).toArray.size<=cw
   rw[eQ];exact jP br (by rw[af];exact h)
 |_=>exact Y.elim
end
def oB (O:Nat):bN:=λo R q=>match o[O]? with |some (E v)=>q v R |_=>False
section
variable {H:bQ}{S b Q:bI}{bE c5 iq:bN}{pos:Pos}
theorem UT (O:Nat){X:Str}{pos:Pos}(a:H.bw[O]?=E X:=by rfl)(b:t7 H.x.scope X:=by first |exact Or.inl rfl |exact Or.inr (Or.inl rfl)|exact Or.inr (Or.inr rfl))(c:(X==("__debug__":Str))=ax:=by decide)
  (d:(X==("__classdict__":Str))=ax:=by decide):bt H (.Name X pos) (oB O):=by
 intro ag A o R q f Y;unfold oB at Y;cases e:o[O]? with
 |none=>simp_all|some C=>
  rw[e]at Y;cases C with
  |none=>exact Y.elim|some v=>exact Sl a b c d ag A o R q f ⟨v,e,Y⟩
theorem UU {X:Str}{s:bo}{j pos}(Y:X=⟨s.toArray⟩:=by rfl):bt H (.Constant (.str X) j pos) (gG (eN s)):=Y ▸ So
def DN:d0:=λX t R q=>match X,t with
 |.d O,.d j=>q (.d (O+j)) R|.f S,.f b=>S.cps.toList.length+b.cps.toList.length<=cw/\q (eN (S.cps.toList++b.cps.toList)) R|.a0 S,.a0 b=>∃m a,R S=E (.aG m)/\R b=E (.aG a)/\m.length+a.length<=cw/\∀N,R N=k->q (.a0 N) (b8 R N (.aG (m++a)))|_,_=>False
theorem UW:dj H (j4 .Add) DN:=by
 intro ag A o R X t v u q a b c Y
 cases X<;>cases t<;>first
  |exact Y.elim
  |exact S0 ag A o R _ _ v u q a b c ⟨_,_,rfl,rfl,Y⟩
  |exact Td ag A o R _ _ v u q a b c ⟨_,_,rfl,rfl,by simpa [mO]using Y.1,by rw[wo];exact Y.2⟩
  |(obtain⟨m,d,ab,af,br,e⟩:=Y;exact Ur ag A o R _ _ v u q a b c ⟨_,_,m,d,rfl,rfl,ab,af,br,e⟩)
def wq (aJ:Int->Int->Prop)(g:qy):d0:=λX t R q=>match X,t with |.d O,.d j=>aJ O j/\q (g O j) R |_,_=>False
def sf (g:qy):d0:=λX t R q=>match X,t with |.d O,.d j=>q (g O j) R |_,_=>False
theorem DO {w:rX}{aJ:Int->Int->Prop}{g:qy}(Y:dj H w (Dp aJ g)):dj H w (wq aJ g):=by
 intro ag A o R X t v u q a b c V;cases X<;>cases t<;>first |exact V.elim |exact Y ag A o R _ _ v u q a b c ⟨_,_,rfl,rfl,V.1,V.2⟩
theorem wt {w:rX}{g:qy}(Y:dj H w (pz g)):dj H w (sf g):=by
 intro ag A o R X t v u q a b c V;cases X<;>cases t<;>first |exact V.elim |exact Y ag A o R _ _ v u q a b c ⟨_,_,rfl,rfl,V⟩
abbrev DP:d0:=sf λO j=>.d (O-j)
abbrev DQ:d0:=wq (λ_ j=>0<j) λO j=>.d (O % j)
theorem UX:dj H (j4 .Sub) DP:=wt S1
theorem UY:dj H (j4 .Mod) DQ:=DO S2
abbrev DR:d0:=sf λO j=>.aM (decide (O<j))
abbrev DS:d0:=sf λO j=>.aM (decide (O<=j))
abbrev DT:d0:=sf λO j=>.aM (decide (j<O))
abbrev DU:d0:=sf λO j=>.aM (decide (j<=O))
theorem UZ:dj H (eJ .Lt) DR:=wt S5
theorem U0:dj H (eJ .LtE) DS:=wt S6
theorem U1:dj H (eJ .Gt) DT:=wt S7
theorem U2:dj H (eJ .GtE) DU:=wt S8
noncomputable def Kp (X t:aL):Option Bool:=match t with
 |.a9=>E (decide (X=.a9))|.aM b=>(match X with |.aM S=>E (decide (S=b))|_=>k)|_=>k
def DV:d0:=λX t R q=>match Kp X t with |some b=>q (.aM b) R |none=>False
def DW:d0:=λX t R q=>match Kp X t with |some b=>q (.aM (!b)) R |none=>False
theorem U3 {a:Model}{p:dp}{l:aR->aY->Prop}{A:aY}{S b:Bool}{q:aR->aY->Prop}(Y:q (.bool (decide (S=b))) A):bM a p (eJ .Is (.bool S) (.bool b)) q l A:=by
 cases S<;>cases b<;>exact dx Y
theorem U4 {a:Model}{p:dp}{l:aR->aY->Prop}{A:aY}{S b:Bool}{q:aR->aY->Prop}(Y:q (.bool (!decide (S=b))) A):bM a p (eJ .IsNot (.bool S) (.bool b)) q l A:=by
 cases S<;>cases b<;>exact dx Y
theorem U5:dj H (eJ .Is) DV:=by
 intro ag A o R X t v u q a c d Y;cases t with
 |a9=>exact S_ ag A o R X _ v u q a c d ⟨rfl,Y⟩|aM b=>
  cases X with
  |aM S=>cases c;cases d;exact U3 ⟨.aM _,R,a,rfl,Y⟩|_=>exact Y.elim
 |_=>exact Y.elim
theorem U6:dj H (eJ .IsNot) DW:=by
 intro ag A o R X t v u q a c d Y;cases t with
 |a9=>exact Ta ag A o R X _ v u q a c d ⟨rfl,Y⟩|aM b=>
  cases X with
  |aM S=>cases c;cases d;exact U4 ⟨.aM _,R,a,rfl,Y⟩|_=>exact Y.elim
 |_=>exact Y.elim
noncomputable def ui (s:bo)(n:bo):Bool:=match s with |[Q]=>decide (Q∈n)|_=>!(tU ⟨n.toArray⟩ ⟨s.toArray⟩ 0 n.length 1).isEmpty
theorem Kq (S b:Str):(!(tU b S 0 b.length 1).isEmpty)=ui S.cps.toList b.cps.toList:=by
 unfold ui;split
 ·rename_i Q a
  rw[(show S=⟨#[Q]⟩ by rw[DL S,a])]
  exact StrLaws.found_one b Q
 trivial
def wu (J:bD)(cB:Bool):d0:=λX t R q=>match t with
 |.f b=>(match X with |.f S=>q (.aM (if cB then !ui S.cps.toList b.cps.toList else ui S.cps.toList b.cps.toList)) R |_=>False)|.a0 N=>∃m,(dG J R N m\/fx J R N m)/\gw X=ae/\m.all gw=ae/\q (.aM (if cB then !mi X m else mi X m)) R|_=>False
theorem U7:dj H (eJ .In) (wu H.J ax):=by
 intro ag A o R X t v u q a c d Y;cases t with
 |f b=>
  cases X with
  |f S=>exact S9 ag A o R _ _ v u q a c d ⟨_,_,rfl,rfl,by rwa[Kq]⟩|_=>exact Y.elim
 |a0 N=>
  obtain⟨m,ab,af,br,e⟩:=Y;exact Ul ag A o R _ _ v u q a c d ⟨_,m,rfl,ab,af,br,e⟩
 |_=>exact Y.elim
theorem U8:dj H (eJ .NotIn) (wu H.J ae):=by
 intro ag A o R X t v u q a c d Y;cases t with
 |f b=>
  cases X with
  |f S=>exact Tb ag A o R _ _ v u q a c d ⟨_,_,rfl,rfl,by rwa[Kq]⟩|_=>exact Y.elim
 |a0 N=>
  obtain⟨m,ab,af,br,e⟩:=Y;exact Um ag A o R _ _ v u q a c d ⟨_,m,rfl,ab,af,br,e⟩
 |_=>exact Y.elim
def k3 (n:bN):f7:=λo R q=>n o R λX aq=>match X with |.aM D=>q D aq |_=>False
def sg (bE c5:bN):bN:=λo R q=>bE o R λX ar=>match X with |.aM Q=>c6 Q (c5 o ar q) (q (.aM ax) ar)|_=>False
def qH (bE c5:bN):bN:=λo R q=>bE o R λX ar=>match X with |.aM Q=>c6 Q (q (.aM ae) ar) (c5 o ar q)|_=>False
def uj (bE:bN):bN:=λo R q=>bE o R λX ar=>match X with |.aM Q=>q (.aM (!Q)) ar |_=>False
def DX (n u:f7):f7:=λo R q=>n o R λQ ar=>c6 Q (u o ar q) (q ax ar)
def U9 (n u:f7):f7:=λo R q=>n o R λQ ar=>c6 Q (q ae ar) (u o ar q)
variable {dz:ew}{mf zF:f7}
theorem Kr (d:bt H S bE)(e:bt H (.BoolOp .And (b::dz) pos) c5):bt H (.BoolOp .And (S::b::dz) pos) (sg bE c5):=by
 intro ag A o R q f Y;refine BoolOp_and (b9 (d ag A o R _ f Y) λv bh g=>?_)
 obtain⟨X,ar,c,bC,a⟩:=g;cases X with
 |aM Q=>
  cases bC;refine kV ?_;cases Q with
  |true=>exact e ag bh o ar q c (a.1 rfl)|false=>exact⟨.aM ax,ar,c,rfl,a.2 rfl⟩
 |_=>exact a.elim
theorem Ks (d:bt H S bE)(e:bt H (.BoolOp .Or (b::dz) pos) c5):bt H (.BoolOp .Or (S::b::dz) pos) (qH bE c5):=by
 intro ag A o R q f Y;refine BoolOp_or (b9 (d ag A o R _ f Y) λv bh g=>?_)
 obtain⟨X,ar,c,bC,a⟩:=g;cases X with
 |aM Q=>
  cases bC;refine kV ?_;cases Q with
  |false=>exact e ag bh o ar q c (a.2 rfl)|true=>exact⟨.aM ae,ar,c,rfl,a.1 rfl⟩
 |_=>exact a.elim
theorem U_ (b:bt H S bE):bt H (.UnaryOp .Not S pos) (uj bE):=by
 intro ag A o R q c Y;refine UnaryOp_ (b9 (b ag A o R _ c Y) λv bh d=>?_)
 obtain⟨X,ar,e,bC,a⟩:=d;cases X with
 |aM Q=>cases bC;exact not_of (kV ⟨.aM _,ar,e,rfl,a⟩)|_=>exact a.elim
theorem DY (d:hq H S mf)(e:om H (.BoolOp .And (b::dz) pos) zF):om H (.BoolOp .And (S::b::dz) pos) (DX mf zF):=by
 intro f ag A o R q g Y;refine isTrue_and (b9 (d ag A o R _ g Y) λQ bh h=>?_)
 obtain⟨ar,a,c⟩:=h;cases Q with
 |true=>exact e f ag bh o ar q a (c.1 rfl)|false=>exact⟨ar,a,c.2 rfl⟩
theorem Kt (d:hq H S mf)(e:om H (.BoolOp .Or (b::dz) pos) zF):om H (.BoolOp .Or (S::b::dz) pos) (U9 mf zF):=by
 intro f ag A o R q g Y;refine isTrue_or (b9 (d ag A o R _ g Y) λQ bh h=>?_)
 obtain⟨ar,a,c⟩:=h;cases Q with
 |true=>exact⟨ar,a,c.1 rfl⟩|false=>exact e f ag bh o ar q a (c.2 rfl)
theorem Va {e:bI}{n:bN}(Y:bt H e n)(c:∀a,isTrue e H.x a=(do let v <- a;standAt e.pos;holding [v] (truthy v)):=by intro _;rfl):hq H e (k3 n):=by
 intro ag A o R q d hw;refine isTrue_plain (b9 (Y ag A o R _ d hw) λv bh f=>?_) (c _)
 obtain⟨X,ar,g,bC,b⟩:=f;cases X with
 |aM Q=>cases bC;exact kV ⟨ar,g,b⟩|_=>exact b.elim
theorem Vb {a:CmpOp}{G:d0}(d:dj H (eJ a) G)(e:bt H S bE)(f:bt H b c5)(g:behindInMarks a b=ax:=by fail "2"):hq H (.Compare S [a] [b] pos) (k3 (nE G bE c5)):=by
 intro ag A o R q h hw;refine wpAny_isTrue_Compare1 (zg e f h hw λv u bj X t a5 i j l V=>?_) g
 refine b9 (d ag bj o a5 X t v u _ i j l V) λQ w m=>?_
 obtain⟨I,n,r,s,c⟩:=m;cases I with
 |aM D=>cases s;exact kV ⟨n,r,c⟩|_=>exact c.elim
theorem Vc {a:CmpOp}{G:d0}(c:dj H (eJ a) G)(d:bt H S bE)(e:bt H b c5)(f:behindInMarks a b=ax:=by fail "2"):bt H (.Compare S [a] [b] pos) (nE G bE c5):=Tc c d e f
def zG (n:f7)(bE c5:bN):bN:=λo R q=>n o R λQ ar=>c6 Q (bE o ar q) (c5 o ar q)
theorem Vd {Q:bI}(d:hq H Q mf)(e:bt H S bE)(f:bt H b c5):bt H (.IfExp Q S b pos) (zG mf bE c5):=by
 intro ag A o R q g Y;refine wpAny_IfExp (b9 (d ag A o R _ g Y) λy bh h=>?_)
 obtain⟨ar,a,c⟩:=h;cases y with
 |true=>exact e ag bh o ar q a (c.1 rfl)|false=>exact f ag bh o ar q a (c.2 rfl)
def sh (Q:f7)(n u:fY):fY:=λa o R=>Q o R λb ar=>c6 b (n a o ar) (u a o ar)
theorem zH {Q:bI}{S b:jo}{iq:f7}{n u:fY}(e:hq H Q iq)(f:me H S n)(g:me H b u):ju H (.If Q S b pos) (sh iq n u):=by
 intro ag A o R a h Y;refine wpAny_If (b9 (e ag A o R _ h Y) λy bh i=>?_)
 obtain⟨ar,c,d⟩:=i;cases y with
 |true=>exact f ag bh o ar a c (d.1 rfl)|false=>exact g ag bh o ar a c (d.2 rfl)
def wx (G b:d0)(bE c5 iq:bN):bN:=λo R q=>bE o R λX ar=>c5 o ar λt a5=>G X t a5 λI a=>match I with |.aM D=>c6 D (iq o a λr c=>b t r c q) (q (.aM ax) a)|_=>False
theorem Ve {a c:CmpOp}{G e:d0}(h:dj H (eJ a) G)(i:dj H (eJ c) e)(j:bt H S bE)(l:bt H b c5)(m:bt H Q iq)
  (n:lastMarks [a,c] [b,Q]=ax:=by with_unfolding_all rfl):bt H (.Compare S [a,c] [b,Q] pos) (wx G e bE c5 iq):=by
 intro ag A o R q r Y;refine Compare_chain (b9 (j ag A o R _ r Y) λv bh ⟨X,ar,s,bC,w⟩=>chain_link (b9 (l ag bh o ar _ s w) λu bj ⟨t,a5,x,bR,z⟩=>
  b9 (h ag bj o a5 X t v u _ x bC bR z) λy B ⟨I,f,g,C,d⟩=>?_)) n
 cases I with
 |aM D=>
  cases C;refine kV ?_;cases D with
  |false=>exact ite_ff ⟨.aM ax,f,g,rfl,d.2 rfl⟩|true=>exact ite_tt (chain_last (b9 (m ag B o f _ g (d.1 rfl)) λF J ⟨K,L,M,N,O⟩=>i ag J o L t K u F q M bR N O))
 |_=>exact d.elim
theorem Vf {a c:CmpOp}{G e:d0}(i:dj H (eJ a) G)(j:dj H (eJ c) e)(l:bt H S bE)(m:bt H b c5)(n:bt H Q iq)
  (r:lastMarks [a,c] [b,Q]=ax:=by with_unfolding_all rfl):hq H (.Compare S [a,c] [b,Q] pos) (k3 (wx G e bE c5 iq)):=by
 intro ag A o R q s Y;refine isTrue_chain (b9 (l ag A o R _ s Y) λv bh ⟨X,ar,w,bC,x⟩=>test_link (b9 (m ag bh o ar _ w x) λu bj ⟨t,a5,z,bR,B⟩=>
  b9 (i ag bj o a5 X t v u _ z bC bR B) λy C ⟨I,f,g,F,d⟩=>?_)) r
 cases I with
 |aM D=>
  cases F;refine kV ?_;cases D with
  |false=>exact ite_ff ⟨f,g,d.2 rfl⟩|true=>
   refine ite_tt (test_last (b9 (n ag C o f _ g (d.1 rfl)) λJ K ⟨L,M,N,O,P⟩=>b9 (j ag K o M t L u J _ N bR O P) λdO aa T=>?_))
   obtain⟨U,V,W,Z,h⟩:=T;cases U with
   |aM ab=>cases Z;exact kV ⟨V,W,h⟩|_=>exact h.elim
 |_=>exact d.elim
end
section
variable {H:bQ}{S b Q e:bI}{bE:bN}{n:fg}
def zI (J:bD):d0:=λX t R q=>match t with
 |.d O=>(match X with
  |.a0 N=>∃m,(dG J R N m\/fx J R N m)/\(match eb m O with |some v=>q v R |none=>False)|.f I=>I.cps.toList.length<=cw/\(match eb I.cps.toList O with |some Q=>q (eN [Q]) R |none=>False)|_=>False)
 |_=>False
theorem Vg:sd H (zI H.J):=by
 intro ke e ag A o R X t v u q g h i Y j;cases t with
 |d O=>
  cases X with
  |a0 N=>
   obtain⟨m,b,Y⟩:=Y;cases a:eb m O with
   |none=>simp_all|some c=>
    rw[a]at Y;rcases b with b |b
    ·exact T_ ke e ag A o R _ _ v u q g h i ⟨N,m,O,c,rfl,rfl,b,a,Y⟩ j
    exact Ua ke e ag A o R _ _ v u q g h i ⟨N,m,O,c,rfl,rfl,b,a,Y⟩ j
  |f I=>
   obtain⟨l,Y⟩:=Y;cases a:eb I.cps.toList O with
   |none=>simp_all|some c=>
    rw[a]at Y;exact Ub ke e ag A o R _ _ v u q g h i ⟨I,O,c,rfl,rfl,by trivial,a,Y⟩ j
  |_=>exact Y.elim
 |_=>exact Y.elim
def Ku (J:bD):aL->ea->ea->aj->bX->Prop:=λX a8 aB R q=>match X with
 |.f I=>I.cps.toList.length<=cw/\q (eN (mj I.cps.toList a8 aB)) R|.a0 S=>∃m,dG J R S m/\∀N,R N=k->q (.a0 N) (b8 R N (.aG (qG m a8 aB)))|_=>False
theorem Vh:nF H (Ku H.J):=by
 intro ag A o R X v a b a8 aB c q d e g h i Y;cases X with
 |f I=>exact US ag A o R _ v a b a8 aB c q d e g h i ⟨by simpa [mO]using Y.1,Y.2⟩|a0 N=>
  obtain⟨m,ab,af⟩:=Y;exact Uk ag A o R _ v a b a8 aB c q d e g h i ⟨N,m,rfl,ab,af⟩
 |_=>exact Y.elim
def uk (n:bN):mV:=λo R q=>n o R λX ar=>match X with |.d O=>q (E O) ar |_=>False
theorem DZ (Y:bt H e bE):qF H (E e) (uk bE):=by
 intro ag A o R q b hw;refine b9 (Y ag A o R _ b hw) λu bh c=>?_
 obtain⟨X,ar,f,bC,a⟩:=c;cases X with
 |d O=>obtain⟨n,rfl⟩:=bC;exact⟨E O,ar,f,.int O n,a⟩|_=>exact a.elim
def zJ (J:bD):List aL->aj->bX->Prop:=λm R q=>match m with
 |[.f I]=>I.cps.toList.length<=cw/\q (.d I.cps.toList.length) R|[.a0 N]=>∃aS,(dG J R N aS\/fx J R N aS)/\q (.d aS.length) R|_=>False
theorem Vi {J:bD}{m:a3}{R:aj}{q:bX}(Y:zJ J m R q):(∃I,m=[.f I]/\I.cps.toList.length<=cw/\q (.d I.cps.toList.length) R)\/∃N aS,m=[.a0 N]/\(dG J R N aS\/fx J R N aS)/\q (.d aS.length) R:=by
 rcases m with _ |⟨X,_ |⟨t,n⟩⟩
 ·exact fG Y
 ·cases X with
  |f I=>exact .inl ⟨I,rfl,Y⟩|a0 N=>obtain⟨aS,Y⟩:=Y;exact .inr ⟨N,aS,rfl,Y⟩|_=>exact fG Y
 cases X<;>exact fG Y
theorem Vj:iG H (.builtin "len") (zJ H.J):=by
 intro ag A o R m aa q a G Y;rcases Vi Y with⟨I,rfl,Y⟩|⟨N,aS,rfl,ab,af⟩
 ·exact Uo ag A o R _ aa q a G ⟨_,rfl,by simpa [mO]using Y.1,by simpa [mO]using Y.2⟩
 exact Un ag A o R _ aa q a G ⟨_,aS,rfl,ab,af⟩
def zK (g:Int->Int->Int):List aL->aj->bX->Prop:=λm R q=>match m with |[.d O,.d j]=>q (.d (g O j)) R |_=>False
theorem Vk {g:Int->Int->Int}{m:a3}{R:aj}{q:bX}(Y:zK g m R q):∃O j,m=[.d O,.d j]/\q (.d (g O j)) R:=by
 rcases m with _ |⟨X,_ |⟨t,_ |⟨r,n⟩⟩⟩
 ·exact fG Y
 ·cases X<;>exact fG Y
 ·cases X with
  |d O=>cases t with
   |d j=>exact⟨O,j,rfl,Y⟩|_=>exact fG Y
  |_=>exact fG Y
 cases X with
|d O=>cases t<;>exact fG Y
|_=>exact fG Y
theorem Vl (a:H.fo=ae):iG H (.builtin "min") (zK min):=by
 intro ag A o R m aa q b G Y;obtain⟨O,j,rfl,Y⟩:=Vk Y;refine Te a ag A o R _ aa q b G ⟨O,j,rfl,?_⟩;lia
def D0 (J:bD)(R:aj):aL->String->Prop:=λX T=>match X with
 |.a9=>T="NoneType" |.aM _=>T="bool" |.d _=>T="int" |.f _=>T="str"
 |.a0 N=>(T="list" /\ ∃m,R N=E (.aG m))\/(T="tuple" /\ ∃m,R N=E (.a_ m))|_=>False
theorem Vm {J:bD}{R:aj}{X:aL}{T:String}(Y:D0 J R X T):mh J R X (.type T):=by
 cases X with
 |a9=>subst Y;exact .a9|aM b=>subst Y;exact .aM b|d O=>subst Y;exact .d O|f I=>subst Y;exact .f I|a0 N=>
  rcases Y with⟨rfl,m,Y⟩|⟨rfl,m,Y⟩
  ·exact .aG Y
  exact .a_ Y
 |_=>exact Y.elim
noncomputable def zL (T Q:String):Option Bool:=
 if T=Q then E ae else if T="bool" /\ Q="int" then E ae
 else if(T="bool" \/ T="int" \/ T="str" \/ T="list" \/ T="tuple" \/ T="NoneType")/\(Q="bool" \/ Q="int" \/ Q="str" \/ Q="list" \/ Q="tuple" \/ Q="dict")then E ax else k
theorem Vn {J:bD}{T Q:String}{b:Bool}(Y:zL T Q=E b):yP J (.type T) (.type Q)=E b:=by
 unfold zL at Y;split at Y
 ·rename_i e;subst e;cases Y
  unfold yP;rw[if_pos (by simp)]
 ·split at Y
  ·rename_i e;obtain⟨rfl,rfl⟩:=e;cases (Y);rfl
  ·split at Y
   ·rename_i ab af e
    cases Y;obtain⟨aN,az⟩:=e;rcases aN with rfl |rfl |rfl |rfl |rfl |rfl<;>rcases az with rfl |rfl |rfl |rfl |rfl |rfl<;>first |rfl |exact absurd rfl ab |exact absurd ⟨rfl,rfl⟩ af
   cases Y
noncomputable def mX (s:bo)(n:bo):Int:=Txt.find ⟨s.toArray⟩ ⟨n.toArray⟩
theorem Vo (s:bo)(Q:Nat):mX s [Q]=(match s.findIdx? (· == Q)with |some O=>(O:Int)|none => -1):=by
 unfold mX;rcases find_whole _ _ with⟨ab,af⟩|⟨O,ab,af,br⟩
 ·rw[ab]
  have:s.findIdx? (· == Q)=k:=by
   rw[List.findIdx?_eq_none_iff];intro X d;obtain⟨j,a⟩:=H9.mp d;by_cases b:X=Q
   ·subst b
    exact absurd ((y0 _ X j).mpr (by simpa using a)) (af j)
   simpa using b
  rw[this]
 ·rw[ab]
  have aB  := by simpa using(y0 _ Q O).mp af
  have:s.findIdx? (· == Q)=E O:=by
   obtain⟨c,e⟩:=hF.mp aB;rw[List.findIdx?_eq_some_iff_getElem];refine⟨c,by simp[e],λj a=>?_⟩
   have f  := IK a c;intro g;have h:s[j]=Q:=by simpa using g
   exact(br j a) ((y0 _ Q j).mpr (by simp[f,h]))
  rw[this]
def zM:aL->a3->aj->bX->Prop:=λX m R q=>match X,m with |.f s,[.f n]=>q (.d (mX s.cps.toList n.cps.toList)) R |_,_=>False
theorem Vp {X:aL}{m:a3}{R:aj}{q:bX}(Y:zM X m R q):∃s n,X=.f s/\m=[.f n]/\q (.d (mX s.cps.toList n.cps.toList)) R:=by
 cases X with
 |f s=>
  rcases m with _ |⟨t,_ |⟨I,n⟩⟩
  ·exact fG Y
  ·cases t with
   |f n=>exact⟨s,n,rfl,rfl,Y⟩|_=>exact fG Y
  cases t<;>exact fG Y
 |_=>exact fG Y
theorem Vq:oy H "str.find" zM:=by
 intro ag A o R X m v aa q a b c Y;obtain⟨s,n,rfl,rfl,Y⟩:=Vp Y;obtain⟨D,rfl⟩:=b;obtain⟨u,rfl,d⟩:=c.cN;obtain⟨e,rfl⟩:=d;exact SC.find ⟨.d _,R,a.fX _,⟨_,rfl⟩,Y⟩
def zN:aL->a3->aj->bX->Prop:=λX m R q=>match X,m with |.f s,[.f n]=>mX s.cps.toList n.cps.toList ≠ -1/\q (.d (mX s.cps.toList n.cps.toList)) R |_,_=>False
theorem Vr:oy H "str.index" zN:=by
 intro ag A o R X m v aa q b c d Y;unfold zN at Y;split at Y
 ·rename_i s n
  obtain⟨D,rfl⟩:=c;obtain⟨u,rfl,f⟩:=d.cN;obtain⟨g,rfl⟩:=f;have e:Txt.find s n=mX _ _:=rfl;rw[<- e]at Y;unfold Txt.find at Y;cases a:tU s n 0 _ 1 with
  |nil=>rw[a]at Y;exact absurd rfl Y.1|cons O dz=>
   rw[a]at Y;exact SC.index a ⟨.d _,R,b.fX _,⟨_,rfl⟩,Y.2⟩
 exact Y.elim
noncomputable def oC:a3->Option cx
 |[]=>E []|.f I::G=>(oC G).map (I::·)|_::_=>k
theorem Vs {c:a3}{a:cx}:oC c=E a->c=a.map aL.f:=by
 induction c generalizing a with
 |nil=>intro Y;cases (Y);rfl
 |cons v G b=>
  intro Y;cases v with
  |f I=>
   unfold oC at Y;cases e:oC G with
   |_=>grind
  |_=>cases Y
noncomputable def wy (a:bo)(b:cx):List Nat:=(Txt.join ⟨a.toArray⟩ b).cps.toList
def zO (J:bD):aL->a3->aj->bX->Prop:=λX m R q=>match X,m with
 |.f s,[.a0 b]=>∃c,(dG J R b c)/\(match oC c with |some a=>JoinOk s a=ae/\q (eN (wy s.cps.toList a)) R |none=>False)|_,_=>False
theorem Kv:∀{a:cx}{aa:cu},b3 (a.map aL.f) aa->∃s:List (Str×Tok),aa=strValues s/\s.map (·.1)=a
 |[],aa,G=>by cases G;exact⟨[],rfl,rfl⟩
 |I::a,aa,G=>by
  cases G with
  |cons G kc=>
   obtain⟨n,rfl⟩:=G;obtain⟨s,rfl,b⟩:=Kv kc;exact⟨(I,n)::s,rfl,by rw[eR,b]⟩
theorem Vt {J:bD}{X:aL}{m:a3}{R:aj}{q:bX}(Y:zO J X m R q):∃s a,X=.f s/\m=[.a0 a]/\∃c,(dG J R a c)/\(match oC c with |some b=>JoinOk s b=ae/\q (eN (wy s.cps.toList b)) R |none=>False):=by
 cases X with
 |f s=>
  rcases m with _ |⟨t,_ |⟨I,n⟩⟩
  ·exact fG Y
  ·cases t with
   |a0 n=>exact⟨s,n,rfl,rfl,Y⟩|_=>exact fG Y
  cases t<;>exact fG Y
 |_=>exact fG Y
theorem Vu:oy H "str.join" (zO H.J):=by
 intro ag A o R X m v aa q b d e Y;obtain⟨s,j,rfl,rfl,Y⟩:=Vt Y
 ·obtain⟨D,rfl⟩:=d
  obtain⟨u,rfl,f⟩:=e.cN;cases f;obtain⟨c,g,Y⟩:=Y;cases a:oC c with
  |none=>rw[a]at Y;exact Y.elim|some l=>
   rw[a]at Y;have h:=Vs a;subst h;obtain⟨n,G,N,r⟩:=b.dV g;obtain⟨t,aN,az⟩:=Kv G;subst aN;refine j_ (SC.join N.isList az Y.1 λi w x=>⟨eN _,R,b.fX _,⟨i,?_⟩,Y.2⟩)
   rfl
end
def zP (P:cW)(r:cF)(J:bD)(a7:eu)(bg:Heap)(dk:i_)(D:Nat)(X:Str)(aF:cx)(cf:gH):Prop:=
 ∃w bG,gI P r J a7 bg dk D w bG aF cf/\a7 X=E (.ref w)/\kE J (.ref w)=ae/\h7 J bG aF []
def um (a7:eu)(X:Str)(v:aL):Prop:=∃u,a7 X=E u/\cc v u
abbrev si (a7:eu)(X:Str):Prop:=a7 X=k
section
variable {H:bQ}{X:Str}{N pos:Pos}{e:bI}{aw:ew}{n:fg}{bV:bI}
theorem Kw {v:aL}(Y:um H.a7 X v)(a:iD H X:=by rfl)(b:(X==("__debug__":Str))=ax:=by decide):bt H (.Name X pos) (gG v):=by
 obtain⟨u,c,G⟩:=Y;exact Sp a c G b
theorem Vv (T:String)(a:si H.a7 X)(b:iD H X:=by rfl)(c:oc X=E (.type T):=by rfl)(d:X ≠ "__name__":=by decide)(e:(X==("__debug__":Str))=ax:=by decide):bt H (.Name X pos) (gG (.fW T)):=
 Sq b a c rfl d e
theorem uo {id:String}{G:a3->aj->bX->Prop}(a:iG H (.builtin id) G)(b:si H.a7 X)(c:gF H (e::aw) n)(d:iD H X:=by rfl)(f:oc X=E (.builtin id):=by rfl)(g:X ≠ "__name__":=by decide)(h:(X==("__debug__":Str))=ax:=by decide)
  (i:ej (e::aw) H.x=(ax,eval e H.x)::ej aw H.x:=by rfl) (j:(h1 pos (ej aw H.x)).any (·.1)=ax:=by rfl):bt H (.Call (.Name X N) (e::aw) [] pos) (k1 G n):=
 TS a d b f c g h i j
theorem uq {C:bI}{to:bN}{name:Str}{id:String}{G:aL->a3->aj->bX->Prop}{fp hI:Pos}(a:Slot "str" name id)(b:typeOf (.builtin id)=pure (.type "method_descriptor"))(c:oy H id G)(d:bt H C to)(f:gF H (e::aw) n)
  (ab:attributeBase C name H.x (eval C H.x)=eval C H.x:=by rfl) (af:((((h1 hI (ej (e::aw) H.x)).all λX=>!X.fst) && (pa hI (o_ [] H.x)).all λX=>X.fst.isSome) && decide (((e::aw).length+([]:List Keyword).length+if([]:List Keyword).isEmpty=ae then 0 else 1)<30))=ae:=by rfl)
  (br:(fp.endLine == hI.line)=ae:=by rfl) (g:ej (e::aw) H.x=(ax,eval e H.x)::ej aw H.x:=by rfl) (h:((h1 hI (ej aw H.x)).any λX=>X.fst)=ax:=by rfl):
  bt H (.Call (.Attribute C name fp) (e::aw) [] hI) (pC H.J "str" G to n):=zw Jg a b c d f ab af br g h
def Kx (J:bD)(hH:bN):k0:=λo R bp=>hH o R λX ar=>match X with
 |.f I=>bp (zz I.cps.toList.length (λO=>eN [I.cps.toList.getD O 0])) ar|.a0 S=>((∃m,dG J ar S m)/\bp (Dl J S) ar)\/((∃m,fx J ar S m)/\bp (Dm J S) ar)|_=>False
theorem Vw (I:Str):lJ I=λO=>eN [I.cps.toList.getD O 0]:=by
 funext O;unfold lJ;simp_all
theorem Vx {s:bI}{hH:bN}(i:bt H s hH):ou H bV s (Kx H.J hH):=by
 intro ag A o R bp j Y;refine b9 (i ag A o R _ j Y) λv bh l=>?_
 obtain⟨X,ar,a,bC,d⟩:=l;have t:∀(v:aL),bt H s (gG v)->bt H s (gG v):=λ_ Y=>Y
 cases X with
 |f I=>
  obtain⟨n,rfl⟩:=bC;refine wpAny_pyIter_strU ?_;have V:bp (zz I.cps.size (lJ I)) ar:=by
   have e:I.cps.toList.length=I.cps.size:=by simp
   rw[Vw,<- e];exact d
  refine⟨bh.heap.objs.size,[bh.heap.objs.size],_,_,ar,rfl,a.iB (a:=bh.toks) λb C e=>el _ e,UC _ I n,⟨jl _,⟨_,gf _ rfl,rfl,rfl⟩⟩,λb c=>?_,V⟩
  have e:b=bh.heap.objs.size:=by simpa using c
  subst e;exact a.r9 (cM _) (a.cA.fm (cM _))
 |a0 S=>
  cases bC;rcases d with⟨⟨m,g⟩,V⟩|⟨⟨m,g⟩,V⟩
  ·obtain⟨h,q,N,r⟩:=a.dV g
   refine wpAny_pyIter_list N.isList ?_;refine⟨bh.heap.objs.size,[bh.heap.objs.size],_,_,ar,rfl,a.iB (a:=bh.toks) λb C e=>el _ e,SR S _,⟨_,gf _ rfl,rfl,rfl⟩,λb c=>?_,V⟩
   have e:b=bh.heap.objs.size:=by simpa using c
   subst e;exact a.r9 (cM _) (a.cA.fm (cM _))
  ·obtain⟨h,q,N,r⟩:=a.gj g
   refine wpAny_pyIter_tuple (show bh.heap.IsTuple S h.toArray from N) ?_
   refine⟨bh.heap.objs.size,[bh.heap.objs.size],_,_,ar,rfl,a.iB (a:=bh.toks) λb C e=>el _ e,SS S _,⟨_,gf _ rfl,rfl,rfl⟩,λb c=>?_,V⟩
   have e:b=bh.heap.objs.size:=by simpa using c
   subst e;exact a.r9 (cM _) (a.cA.fm (cM _))
 |_=>exact d.elim
def Vy (bE:fg):k0:=λo R bp=>bE o R λc ar=>match c with |[.d j] => -(2 ^ 62)<=j/\j<2 ^ 62/\bp (ov 0 j.toNat) ar |_=>False
def Vz (bE:fg):k0:=λo R bp=>bE o R λc ar=>match c with |[.d O,.d j]=>(-(2 ^ 62)<=O/\O<2 ^ 62 /\ -(2 ^ 62)<=j/\j<2 ^ 62)/\bp (ov O (j-O).toNat) ar |_=>False
end
section
variable {H:bQ}{bV:bI}
theorem VA {S:bI}{bE:fg}{N pos:Pos}(d:si H.a7 "range")(e:gF H [S] bE)(f:iD H "range":=by rfl)(g:ej [S] H.x=[(ax,eval S H.x)]:=by rfl):ou H bV (.Call (.Name "range" N) [S] [] pos) (Vy bE):=by
 intro ag A o R bp b Y;refine Call_ (r5 b f d boot_range (vV (b9 (e pos ag A o R _ b Y) λaa bh h=>?_) g rfl))
 obtain⟨c,ar,i,bC,a⟩:=h
 try dsimp only at a
 split at a
 ·obtain⟨j,l,V⟩:=a
  cases bC with
  |cons G kc=>
   cases kc;obtain⟨n,rfl⟩:=G;exact call_range_1 (JF i (by lia) (by lia) j l (by simpa using V))
 exact a.elim
theorem VB {S b:bI}{bE:fg}{N pos:Pos}(f:si H.a7 "range")(g:gF H [S,b] bE)(h:iD H "range":=by rfl)(i:ej [S,b] H.x=[(ax,eval S H.x),(ax,eval b H.x)]:=by rfl)(d:ej [b] H.x=[(ax,eval b H.x)]:=by rfl):
  ou H bV (.Call (.Name "range" N) [S,b] [] pos) (Vz bE):=by
 intro ag A o R bp e Y;refine Call_ (r5 e h f boot_range (vV (b9 (g pos ag A o R _ e Y) λaa bh j=>?_) (by rw[i,d]) (by rw[d];rfl)))
 obtain⟨c,ar,l,bC,a⟩:=j
 try dsimp only at a
 split at a
 ·obtain⟨⟨a,m,q,r⟩,V⟩:=a
  cases bC with
  |cons G kc=>
   cases kc with
   |cons s kc=>
    cases kc;obtain⟨n,rfl⟩:=G;obtain⟨t,rfl⟩:=s;exact call_range_2 (JF l a m q r V)
 exact a.elim
def Ky:jv:=λc o R q=>match c with |[]=>q o R |_=>False
def Kz (n:iE)(u:jv):jv:=λc o R q=>match c with |v::G=>n v o R λa aq=>u G a aq q |[]=>False
theorem VC:nD H [] Ky:=by
 intro ag A o R c aa q a G Y;cases c with
 |nil=>exact SK ag A o R [] aa q a G ⟨rfl,Y⟩|cons _ _=>exact Y.elim
theorem VD {e:bI}{aw:ew}{n:iE}{u:jv}(ab:jU H e n)(af:nD H aw u)
  (a:(jN (e::aw) H.x).map (·.2)=assign e H.x::(jN aw H.x).map (·.2):=by rfl):nD H (e::aw) (Kz n u):=by
 intro ag A o R c aa q b G Y;cases c with
 |nil=>exact Y.elim|cons v d=>exact SM ab af a ag A o R _ aa q b G ⟨v,d,rfl,Y⟩
def KA (J:bD)(z:Nat)(n:jv):iE:=λv o R q=>match v with |.a0 S=>∃m,fx J R S m/\m.length=z/\n m o R q |_=>False
theorem VE {aw:ew}{D:Nat}{n:jv}{z:Nat}{pos:Pos}(a:H.fo=ae)(Y:nD H aw n)
  (b:(jN aw H.x).length=z:=by rfl) (c:(jN aw H.x).findIdx? (·.1)=k:=by rfl):jU H (.Tuple aw D pos) (KA H.J z n):=by
 intro ag A o R v u q d G hw;cases v with
 |a0 S=>
  obtain⟨m,ab,af,br⟩:=hw;exact SO a Y b c ag A o R _ u q d G ⟨S,m,rfl,ab,af,br⟩
 |_=>exact hw.elim
def ur (bE:bN):bN:=λo R q=>bE o R λX ar=>match X with |.d O=>q (.d (-O)) ar |_=>False
theorem D1 {S:bI}{bE:bN}{pos:Pos}(b:bt H S bE):bt H (.UnaryOp .USub S pos) (ur bE):=by
 intro ag A o R q c Y;refine UnaryOp_ (b9 (b ag A o R _ c Y) λv bh e=>?_)
 obtain⟨X,ar,f,bC,a⟩:=e;cases X with
 |d O=>exact S4 ag bh o ar _ v q f bC ⟨O,rfl,a⟩|_=>exact a.elim
end
theorem oD {R:aj}{N:aV}(Y:R N=k)(C:fF):bu R (b8 R N C):=λb u V=>by rwa[fN (rZ V Y)]
theorem bu.a_ {J:bD}{R aq:aj}{S:aV}{m:a3}(e:bu R aq)(Y:fx J R S m):fx J aq S m:=by
 rcases Y with(Y |⟨C,Y⟩)|Y
 ·exact .inl (.inl (e _ _ Y))
 ·exact .inl (.inr ⟨C,e _ _ Y⟩)
 exact .inr Y
theorem lK {z:Nat}(Y:z<=100000):z<=cw:=by rw[sizeLine_eq];lia
section
variable {H:bQ}
def KC:ua:=λC O v R q=>match O with
 |.d D=>(match C with
  |.a0 N=>∃m,R N=E (.aG m)/\(match h8 m.length D with |some j=>q (b8 R N (.aG (m.set j v)))|none=>False)|_=>False)
 |_=>False
theorem VF:zc H KC:=by
 intro ag A o R C O v a b u q c f g h Y;cases O with
 |d D=>
  cases C with
  |a0 N=>
   obtain⟨m,ab,Y⟩:=Y;cases e:h8 m.length D with
   |none=>simp_all|some j=>
    rw[e]at Y;exact Ug ag A o R _ _ v a b u q c f g h ⟨N,m,D,j,rfl,rfl,ab,e,Y⟩
  |_=>exact Y.elim
 |_=>exact Y.elim
noncomputable def cX (O:Int):List Nat:=(rU (toString O)).cps.toList
def zQ:a3->aj->bX->Prop:=λm R q=>match m with |[.d O]=>O.natAbs.log2<1920/\q (eN (cX O)) R |_=>False
theorem VG:iG H (.type "str") zQ:=by
 intro ag A o R m aa q a G Y;unfold zQ at Y;split at Y
 ·rename_i O
  exact Tf ag A o R _ aa q a G ⟨O,rfl,Y.1,Y.2⟩
 exact Y.elim
variable {X:Str}{N pos:Pos}{e:bI}{aw:ew}{n:fg}
theorem wz (T:String){G:a3->aj->bX->Prop}(a:iG H (.type T) G)(b:si H.a7 X)(c:gF H (e::aw) n)(d:iD H X:=by rfl)(f:oc X=E (.type T):=by rfl)(g:X ≠ "__name__":=by decide)(h:(X==("__debug__":Str))=ax:=by decide)
  (i:ej (e::aw) H.x=(ax,eval e H.x)::ej aw H.x:=by rfl) (j:(h1 pos (ej aw H.x)).any (·.1)=ax:=by rfl):bt H (.Call (.Name X N) (e::aw) [] pos) (k1 G n):=
 TU a d b f c g h i j
end
def VH (X aJ:aV)(y:gv)(Y:Heap):Prop:=∃C c,Y.get? X=E C/\C.cls=.ref aJ/\C.dict=y/\C.data=.fields c/\c[2]?=E .none
noncomputable abbrev VJ (X aJ:aV)(y:gv):fF:=.ext (VH X aJ y)
def VK (bH:aV)(av:nA)(Y:Heap):Prop:=∃e5,Y.Ns1 bH e5/\(∀w,kH (av.lookup w) (e5 w))/\yo e5 (av.map (·.1))
abbrev VL (bH:aV)(av:nA):fF:=.ext (VK bH av)
def da (J:bD)(X:Str):aV:=match gu J fb X with |some (E (.ref Q))=>Q |_=>0
theorem sj {J:bD}{X:Str}{Q:aV}(Y:gu J fb X=E (E (.ref Q))):da J X=Q:=by unfold da;rw[Y]
def KD (J:bD)(a:aV)(Q:aR):Option Bool:=
 if(i6 J (.ref a) "__getattribute__"==E (E (.builtin "BaseException.__getattribute__")) && i6 J (.ref a) "__getattr__"==E k && rP J a (.type "BaseException")==E ae) && tS J a && i6 J (.ref a) "__class__"==E (E (.builtin "object.__class__")) && yM J (.builtin "object.__class__") "__get__"==E (E (.builtin "getset_descriptor.__get__"))
  && W.takesIn J (.builtin "object.__class__")==E ae && rP J a (.type "object")==E ae then yP J (.ref a) Q else k
end L2
namespace LX
open PySem PySem.W PySem.Calls PyProof.Rows Builtin Builtin.ObjectAttr Builtin.Getset_descriptor
end LX
namespace L2
open PySem PySem.Spec PyProof.Rows
def VM (J:bD)(aJ a:aV):Bool:=
 CN J (.ref a)==E (.type "type") && (W.clsIn J a).isSome && rP J a (.type "BaseException")==E ae && rP J aJ (.ref a)==E ax
def VN (J:bD)(aJ a:aV):Bool:=
 CN J (.ref a)==E (.type "type") && (W.clsIn J a).isSome && rP J a (.type "BaseException")==E ae && rP J aJ (.ref a)==E ae
structure VO (D:Nat)(p:dp):Prop where
 wd:p.depth+3*D+5<recursionLimit
 aH:p.units+16*D+200<cLine
structure VP (P:cW)(r:cF)(J:bD)(a7:eu)(bg:Heap)(D:Nat)(w:aV)(bG:hk)(aF:cx)(cf:gH):Prop where
 b6:∀c R q l,cf c R q l->c.length=aF.length
 gm:∀(p:dp) (a:lE) (A:aY) (R:aj) (b:Args) (aa:cu) (c:a3) (q:bX) (l:b4),VO D p->qC P r J a7 bg p a A R->0<A.toks\/aF=ud->BindsTo A bG b (aF.zip aa)->b3 c aa->cf c R q l ->
  codeAny (model P r) p (.call (.ref w) b) (JP fe a P r R A q l) A
def VQ (P:cW)(r:cF)(J:bD)(a7:eu)(bg:Heap)(D:Nat)(X:Str)(aF:cx)(cf:gH):Prop:=
 ∃w bG,VP P r J a7 bg D w bG aF cf/\a7 X=E (.ref w)/\kE J (.ref w)=ae/\h7 J bG aF []
section
variable {H:bQ}
def zR (J:bD):List aL->aj->bX->Prop:=λm R q=>match m with |[.a0 N]=>∃a:qx,dG J R N (a.map aL.aM)/\q (.aM (a.all id)) R |_=>False
theorem KG:∀{a:qx}{aa:cu},b3 (a.map aL.aM) aa->aa=a.map rS
 |[],_,.nil=>rfl|b::a,_,.cons G n=>by rw[KG n];cases (G);rfl
theorem VR {P:cW}{r:cF}{p:dp}{a:qx}:TruthOf P r p (λO v=>(a.map rS).toArray[O]?=E v) (λO=>a.getD O ax):=by
 intro O v A q l Y V;have aE:(a.map rS)[O]?=E v:=by simpa using Y
 rw[gC]at aE;cases e:a[O]? with
 |none=>simp_all|some b=>
  rw[e]at aE;cases aE;have:a.getD O ax=b:=by simp_all
  have V:q (a.getD O ax) A:=V;rw[this]at V;exact kV V
theorem VS (a:qx):(fl a.length).all (λO=>a.getD O ax)=a.all id:=by
 rw[Bool.eq_iff_iff,mM,mM];constructor
 ·intro Y b c
  obtain⟨O,aB,e⟩:=Ct c;have:=Y O (lD.mpr aB);rw[mL,gd aB]at this;rwa[<- e]
 ·intro Y O aB
  have aB:=lD.mp aB;rw[mL,gd aB];exact Y _ (rH aB)
theorem VT (d:H.fo=ae):iG H (.builtin "all") (zR H.J):=by
 intro ag A o R m aa q c G Y;unfold zR at Y;split at Y
 ·rename_i N
  obtain⟨i,f,V⟩:=Y;obtain⟨u,rfl,g⟩:=mg G;cases g;obtain⟨j,h,a,l⟩:=c.dV f;rw[KG h]at a;refine j_ (call_all_walk (wpAny_pyIter_list a.isList ⟨_,_,_,_,_,_,_,rfl,Walks.list (A:=H.p.in1) (c.i.gi d) _ N (gg (eK a.isList.choose_spec.1)) _,⟨⟨_,gf _ rfl,rfl,rfl⟩,a.isList.at λC e=>el _ e⟩,VR,λaE n hs r=>?_⟩))
  refine⟨.aM _,R,c.iB  λb C e=>hs b C (by simpa using gg (eK e)) (el _ e),?_,V⟩
  show rS _=_
  rw[eQ,ct,VS]
 exact Y.elim
def zS:a3->aj->bX->Prop:=λm R q=>match m with
 |[.d j]=>∀N,R N=k->q (.a0 N) (b8 R N (.rY 0 j))|[.d O,.d j]=>∀N,R N=k->q (.a0 N) (b8 R N (.rY O j))|_=>False
theorem VU:iG H (.type "range") zS:=by
 intro ag A o R m aa q a G Y;unfold zS at Y;split at Y
 ·obtain⟨u,rfl,n,rfl⟩:=mg G
  refine call_range_1 ⟨.a0 _,_,a.gR  (λb c V=>el _ V) (cM _) ?_,rfl,Y _ (a.cA.fm (cM _))⟩
  exact⟨_,_,_,gf _ rfl⟩
 ·obtain⟨u,d,rfl,⟨n,rfl⟩,⟨e,rfl⟩⟩:=zk G
  refine call_range_2 ⟨.a0 _,_,a.gR  (λb c V=>el _ V) (cM _) ?_,rfl,Y _ (a.cA.fm (cM _))⟩
  exact⟨_,_,_,gf _ rfl⟩
 exact Y.elim
noncomputable def wA (a8 aB:Int):List aL:=(fl (aB-a8).toNat).map λ(O:Nat)=>aL.d (a8+O)
def zT (J:bD):List aL->aj->bX->Prop:=λm R q=>match m with
 | [.a0 N]=>(∃aS,(dG J R N aS\/fx J R N aS)/\∀s,R s=k->q (.a0 s) (b8 R s (.aG aS))) \/
   (∃a8 aB,R N=E (.rY a8 aB)/\(-50000<=a8/\a8<=50000 /\ -50000<=aB/\aB<=50000)/\∀s,R s=k->q (.a0 s) (b8 R s (.aG (wA a8 aB))))
 |_=>False
theorem VV {a8:Int}:∀{z:Nat}{aa:cu},aa.length=z->(∀(j:Nat) (v:aR),aa[j]?=E v->∃n,v=yU (a8+j) n)->b3 ((fl z).map λ(O:Nat)=>aL.d (a8+O)) aa
 |z,aa,c,Y=>by
  refine KH (by simp_all) λj X u a f=>?_
  rw[gC]at a;cases e:(fl z)[j]? with
  |none=>simp_all|some O=>
   rw[e]at a;cases a;have:=hF.mp e;obtain⟨g,d⟩:=this;rw[Ig]at d;subst d;exact Y j u f
 where KH:∀{m:a3}{aa:cu},m.length=aa.length->(∀(j:Nat) X u,m[j]?=E X->aa[j]?=E u->cc X u)->b3 m aa
 |[],[],_,_=>.nil|X::m,u::aa,c,Y=>.cons (Y 0 X u rfl rfl) (KH (fD c) λj X u S b=>Y (j+1) X u S b)
theorem KI (c:H.fo=ae):iG H (.type "list") (zT H.J):=by
 intro ag A o R m aa q a G Y;have b:∃N,m=[.a0 N]:=by
  rcases m with _ |⟨t,_ |⟨I,n⟩⟩
  ·exact fG Y
  ·cases t with
   |a0 N=>exact⟨N,rfl⟩|_=>exact fG Y
  ·cases t<;>exact fG Y
 obtain⟨N,rfl⟩:=b
 ·rcases Y with⟨aS,d,V⟩|⟨a8,aB,f,⟨ab,af,br,z⟩,V⟩
  ·exact Up ag A o R _ aa q a G ⟨N,aS,rfl,d,V⟩
  ·obtain⟨u,rfl,g⟩:=mg G
   cases g;obtain⟨n,u,v,e⟩:=a.cA N _ f;have h:Jl a8 aB 1=(((aB-a8).toNat:Nat):Int):=by rw[rangeSize_one];split<;>lia
   refine j_ (call_list_range (a.i.gi c) e (small_one (by lia) (by lia) (by lia) (by lia)) h (by lia) λaE i l cR r s ⟨w,x⟩ B=>?_)
   refine⟨.a0 A.heap.objs.size,_,a.gR (C:=.aG (wA a8 aB)) (d:=i) r (cM _) ?_,rfl,V _ (a.cA.fm (cM _))⟩;refine⟨?_,l.toList,cR,VV (by simpa using w) (λj v b=>?_),by simpa using s⟩
   ·unfold wA;rw[ct,qk];exact lK (by lia)
   ·obtain⟨n,y⟩:=x j v (by simpa using b)
    exact⟨n,by rw[y];simp⟩
end
inductive gU (J:bD) (R:aj):Nat->aL->aL->Bool->Prop
 |sm {X t:aL}(g:gw X=ae) (c:gw t=ae):gU J R 0 X t (ja X t)
 |aG {z:Nat}{N V:aV}{m aS:List aL}(e:Nat->Bool) (a:dG J R N m) (d:dG J R V aS) (f:m.length=aS.length) (Y:∀(O:Nat) X t,m[O]?=E X->aS[O]?=E t->gU J R z X t (e O)):gU J R (z+1) (.a0 N) (.a0 V) ((fl m.length).all e)
 |qI {z:Nat}{N V:aV}{m aS:List aL}(a:dG J R N m) (d:dG J R V aS) (f:m.length≠aS.length):gU J R z (.a0 N) (.a0 V) ax
 |a_ {z:Nat}{N V:aV}{m aS:List aL}(e:Nat->Bool) (a:fx J R N m) (d:fx J R V aS) (Y:∀(O:Nat) X t,m[O]?=E X->aS[O]?=E t->gU J R z X t (e O)):gU J R (z+1) (.a0 N) (.a0 V) ((fl (min m.length aS.length)).all e && m.length == aS.length)
 |h6 {z:Nat}{N V:aV}{m aS:List aL}(a:dG J R N m) (d:fx J R V aS):gU J R z (.a0 N) (.a0 V) ax
 |hH {z:Nat}{N V:aV}{m aS:List aL}(a:fx J R N m) (d:dG J R V aS):gU J R z (.a0 N) (.a0 V) ax
 |uu {z:Nat}{N:aV}{m:List aL}{t:aL}(a:dG J R N m) (c:gw t=ae):gU J R z (.a0 N) t ax
 |uv {z:Nat}{N:aV}{m:List aL}{t:aL}(a:dG J R N m) (c:gw t=ae):gU J R z t (.a0 N) ax
 |uw {z:Nat}{N:aV}{m:List aL}{t:aL}(a:fx J R N m) (c:gw t=ae):gU J R z (.a0 N) t ax
 |ml {z:Nat}{N:aV}{m:List aL}{t:aL}(a:fx J R N m) (c:gw t=ae):gU J R z t (.a0 N) ax
 |iH {z:Nat}{X t:aL}{b:Bool}(Y:gU J R z X t b):gU J R (z+1) X t b
section
variable {H:bQ}{ag:di}{o:bU}{R:aj}{A:aY}
theorem qJ {m:a3}{aa:cu}(G:b3 m aa){O:Nat}(Y:O<aa.toArray.size):∃X,m[O]?=E X/\cc X aa.toArray[O]:=by
 have aB:O<aa.length:=by simpa using Y
 have a:=G.dB;obtain⟨u,b,c⟩:=G.gQ (gd (show O<m.length by lia))
 grind
theorem KJ (g:a6 H ag o R A){z:Nat}{X t:aL}{b:Bool}(Y:gU H.J R z X t b):X=t->b=ae:=by
 induction Y with
 |sm n f=>
  rename_i X t
  rintro rfl;cases X<;>first |(cases n;done)|(simp[ja];done)|rfl
 |aG e a c j Y h=>
  rename_i z N V m aS
  intro d;cases d;have l:=g.r6 a c;subst l;rw[mM];intro O aB;have aB:=lD.mp aB;exact h O _ _ (gd aB) (gd aB) rfl
 |qI a c j=>
  intro d;cases d;exact absurd (by rw[g.r6 a c]) j
 |a_ e a c Y h=>
  rename_i z N V m aS
  intro d;cases d;have l:=g.De a c;simp_all
 |h6 a c=>
  intro d;cases d;obtain⟨q,bC,i,r⟩:=g.dV a;obtain⟨s,bR,c7,u⟩:=g.gj c;exact absurd rfl (I3 i.isList c7)
 |hH a c=>
  intro d;cases d;obtain⟨q,bC,i,r⟩:=g.gj a;obtain⟨s,bR,c7,u⟩:=g.dV c;exact absurd rfl (I3 c7.isList i)
 |uu a f=>rintro rfl;cases f
 |uv a f=>rintro rfl;cases f
 |uw a f=>rintro rfl;cases f
 |ml a f=>rintro rfl;cases f
 |iH Y h=>exact h
theorem so (i:a6 H ag o R A){z:Nat}{X t:aL}{b:Bool}(Y:gU H.J R z X t b):∀(p:dp) (v u:aR),p.units+z<cLine->cc X v->cc t u ->
  CR p A v u b/\(∀N V,X=.a0 N->t=.a0 V->og p A v u b):=by
 induction Y with
 |sm K l=>
  intro p v u _ a c;refine⟨J7 a c K l,λN V e _=>?_⟩
  subst e;cases K
 |aG e h q L Y y=>
  rename_i z N V m aS
  intro p v u r a c;cases a;cases c;obtain⟨s,bC,g,w⟩:=i.dV h;obtain⟨B,bR,c7,D⟩:=i.dV q;have F:=bC.dB;have G:=bR.dB;have x:og p A (.ref N) (.ref V) ((fl m.length).all e):=by
   have:=SeqAt.RcAt.lists (A:=p) (e:=e) g.isList c7.isList (by simp only[eQ];lia) (by lia) (λj ab af=>by
    obtain⟨X,aW,a⟩:=qJ bC ab;obtain⟨t,I,c⟩:=qJ bR af;exact(y j X t aW I p.in1 _ _ (by show p.units+1+z<_;lia) a c).1)
   rw[eQ,<- F]at this;exact this
  refine⟨?_,λ_ _ _ _=>x⟩
  by_cases C:N=V
  ·subst C
   have J:=i.r6 h q;subst J;have:(fl m.length).all e=ae:=by
    rw[mM];intro O aB;have aB:=lD.mp aB;exact KJ i (Y O _ _ (gd aB) (gd aB)) rfl
   rw[this];exact C0 _
  ·exact .of_refs C x
 |qI h q L=>
  rename_i z N V m aS
  intro p v u r a c;cases a;cases c;obtain⟨s,bC,g,w⟩:=i.dV h;obtain⟨B,bR,c7,D⟩:=i.dV q;have F:=bC.dB;have G:=bR.dB;have x:og p A (.ref N) (.ref V) ax:=SeqAt.RcAt.lists_lengths g.isList c7.isList (by simp only[eQ,bne_iff_ne,ne_eq];lia) (by lia)
  refine⟨.of_refs (λe=>?_) x,λ_ _ _ _=>x⟩
  subst e;exact L (by rw[i.r6 h q])
 |a_ e h q Y y=>
  rename_i z N V m aS
  intro p v u r a c;cases a;cases c;obtain⟨s,bC,g,w⟩:=i.gj h;obtain⟨B,bR,c7,D⟩:=i.gj q;have F:=bC.dB;have G:=bR.dB;have x:og p A (.ref N) (.ref V) ((fl (min m.length aS.length)).all e && m.length == aS.length):=by
   have:=SeqAt.RcAt.tuples (A:=p) (e:=e) (show A.heap.IsTuple N s.toArray from g) (show A.heap.IsTuple V B.toArray from c7) (by lia) (λj ab af=>by
    obtain⟨X,aW,a⟩:=qJ bC ab;obtain⟨t,I,c⟩:=qJ bR af;exact(y j X t aW I p.in1 _ _ (by show p.units+1+z<_;lia) a c).1)
   rw[eQ,eQ,<- F,<- G]at this;exact this
  refine⟨?_,λ_ _ _ _=>x⟩
  by_cases C:N=V
  ·subst C
   have J:=i.De h q;subst J;have:((fl (min m.length m.length)).all e && m.length == m.length)=ae:=by
    rw[cC,mM];refine⟨?_,by simp⟩
    intro O aB;have aB:=lD.mp aB;have aB:O<m.length:=by lia
    exact KJ i (Y O _ _ (gd aB) (gd aB)) rfl
   rw[this];exact C0 _
  ·exact .of_refs C x
 |h6 h q=>
  intro p v u r a c;cases a;cases c;obtain⟨s,bC,g,w⟩:=i.dV h;obtain⟨B,bR,c7,D⟩:=i.gj q;exact⟨.list_tuple g.isList c7 (by lia),λ_ _ _ _=>.list_tuple g.isList c7 (by lia)⟩
 |hH h q=>
  intro p v u r a c;cases a;cases c;obtain⟨s,bC,g,w⟩:=i.gj h;obtain⟨B,bR,c7,D⟩:=i.dV q;exact⟨.tuple_list g c7.isList (by lia),λ_ _ _ _=>.tuple_list g c7.isList (by lia)⟩
 |uu h l=>
  rename_i z N m t
  intro p v u r a c;cases a;obtain⟨s,bC,g,w⟩:=i.dV h;refine⟨?_,λ_ _ _ e=>by subst e;cases l⟩
  cases t with
  |a9=>cases c;exact .list_none g.isList (by lia)|aM b=>cases c;exact .list_bool b g.isList (by lia)|d b=>obtain⟨n,rfl⟩:=c;exact .list_int b n g.isList (by lia)|f b=>obtain⟨n,rfl⟩:=c;exact .list_str b n g.isList (by lia)|_=>cases l
 |uv h l=>
  rename_i z N m t
  intro p v u r a c;cases c;obtain⟨s,bC,g,w⟩:=i.dV h;refine⟨?_,λ_ _ e _=>by subst e;cases l⟩
  cases t with
  |a9=>cases a;exact .none_list g.isList (by lia)|aM b=>cases a;exact .bool_list b g.isList (by lia)|d b=>obtain⟨n,rfl⟩:=a;exact .int_list b n g.isList (by lia)|f b=>obtain⟨n,rfl⟩:=a;exact .str_list b n g.isList (by lia)|_=>cases l
 |uw h l=>
  rename_i z N m t
  intro p v u r a c;cases a;obtain⟨s,bC,g,w⟩:=i.gj h;refine⟨?_,λ_ _ _ e=>by subst e;cases l⟩
  cases t with
  |a9=>cases c;exact .tuple_none g (by lia)|aM b=>cases c;exact .tuple_bool b g (by lia)|d b=>obtain⟨n,rfl⟩:=c;exact .tuple_int b n g (by lia)|f b=>obtain⟨n,rfl⟩:=c;exact .tuple_str b n g (by lia)|_=>cases l
 |ml h l=>
  rename_i z N m t
  intro p v u r a c;cases c;obtain⟨s,bC,g,w⟩:=i.gj h;refine⟨?_,λ_ _ e _=>by subst e;cases l⟩
  cases t with
  |a9=>cases a;exact .none_tuple g (by lia)|aM b=>cases a;exact .bool_tuple b g (by lia)|d b=>obtain⟨n,rfl⟩:=a;exact .int_tuple b n g (by lia)|f b=>obtain⟨n,rfl⟩:=a;exact .str_tuple b n g (by lia)|_=>cases l
 |iH Y y=>
  intro p v u r a c;exact y p v u (by lia) a c
theorem wB (f:a6 H ag o R A){z:Nat}{X t:aL}{b:Bool}(Y:gU H.J R z X t b):∀(p:dp) (v u:aR),p.units+z<cLine->cc X v->cc t u->∀N V,X=.a0 N->t=.a0 V->rV p A v u (!b):=by
 induction Y with
 |sm C l=>intro p v u _ a c N V e _;subst e;cases C
 |aG e d g D Y x=>
  rename_i z N V m aS
  intro p v u h a c _ _ _ _;cases a;cases c;obtain⟨n,bC,i,r⟩:=f.dV d;obtain⟨q,bR,c7,s⟩:=f.dV g;have w:=bC.dB;have y:=bR.dB;have:=RR (A:=p) (e:=e) i.isList c7.isList (by simp only[eQ];lia) (by lia) (λj ab af=>by
   obtain⟨X,aW,a⟩:=qJ bC ab;obtain⟨t,B,c⟩:=qJ bR af;exact(so f (Y j X t aW B) p.in1 _ _ (by show p.units+1+z<_;lia) a c).1)
  rw[eQ,<- w]at this;exact this
 |qI d g D=>
  intro p v u h a c _ _ _ _;cases a;cases c;obtain⟨n,bC,i,r⟩:=f.dV d;obtain⟨q,bR,c7,s⟩:=f.dV g;have w:=bC.dB;have y:=bR.dB;exact Ri i.isList c7.isList (by simp only[eQ,bne_iff_ne,ne_eq];lia) (by lia)
 |a_ e d g Y x=>
  rename_i z N V m aS
  intro p v u h a c _ _ _ _;cases a;cases c;obtain⟨n,bC,i,r⟩:=f.gj d;obtain⟨q,bR,c7,s⟩:=f.gj g;have w:=bC.dB;have y:=bR.dB;have:=RQ (A:=p) (e:=e) (show A.heap.IsTuple N n.toArray from i) (show A.heap.IsTuple V q.toArray from c7) (by lia) (λj ab af=>by
   obtain⟨X,aW,a⟩:=qJ bC ab;obtain⟨t,B,c⟩:=qJ bR af;exact(so f (Y j X t aW B) p.in1 _ _ (by show p.units+1+z<_;lia) a c).1)
  rw[eQ,eQ,<- w,<- y]at this;exact this
 |h6 d g=>
  intro p v u h a c _ _ _ _;cases a;cases c;obtain⟨n,bC,i,r⟩:=f.dV d;obtain⟨q,bR,c7,s⟩:=f.gj g;exact .list_tuple i.isList c7 (by lia)
 |hH d g=>
  intro p v u h a c _ _ _ _;cases a;cases c;obtain⟨n,bC,i,r⟩:=f.gj d;obtain⟨q,bR,c7,s⟩:=f.dV g;exact .tuple_list i c7.isList (by lia)
 |uu d l=>intro p v u h a c _ _ _ e;subst e;cases l
 |uv d l=>intro p v u h a c _ _ e _;subst e;cases l
 |uw d l=>intro p v u h a c _ _ _ e;subst e;cases l
 |ml d l=>intro p v u h a c _ _ e _;subst e;cases l
 |iH Y x=>intro p v u h a c;exact x p v u (by lia) a c
end
noncomputable def eX (Q:Nat):List Nat->jm
 |[]=>[[]]|y::G=>if y=Q then[]::eX Q G else match eX Q G with |N::aF=>(y::N)::aF |[]=>[[y]]
theorem D2 (Q:Nat):∀s,eX Q s≠[]
 |[]=>by simp[eX]
 |y::G=>by unfold eX;split;simp;split<;>simp
noncomputable def nH (Q:Nat):List bo->bo
 |[]=>[]|[N]=>N|N::V::G=>N++Q::nH Q (V::G)
theorem ux (Q:Nat):∀(s:bo),Q∉s->eX Q s=[s]
 |[],_=>rfl|y::G,Y=>by
  unfold eX;rw[if_neg (λe=>Y (by rw[e];exact ek)),ux Q G (λe=>Y (fM _ e))]
theorem wC (Q:Nat):∀(N:bo) (s:bo),Q∉N->eX Q (N++Q::s)=N::eX Q s
 |[],s,_=>by show eX Q (Q::s)=_;rw[eX,if_pos rfl]
 |y::G,s,Y=>by
  show eX Q (y::(G++Q::s))=_
  rw[eX,if_neg (λe=>Y (by rw[e];exact ek)),wC Q G s (λe=>Y (fM _ e))]
theorem D3 (Q:Nat):∀(aF:jm),aF≠[]->(∀N∈aF,Q∉N)->eX Q (nH Q aF)=aF
 |[],Y,_=>absurd rfl Y|[N],_,a=>ux Q N (a N ek)|N::V::G,_,a=>by
  show eX Q (N++Q::nH Q _)=_
  rw[wC Q N _ (a N ek),D3 Q _ (by simp) (λN b=>a N (fM _ b))]
theorem D4 (Q:Nat):∀(aF:cx),(yY ⟨#[Q]⟩ aF).cps.toList=nH Q (aF.map λN=>N.cps.toList)
 |[]=>rfl|[N]=>rfl|N::V::G=>by
  show(N++⟨#[Q]⟩++yY _ _).cps.toList=_
  show _=N.cps.toList++Q::nH Q ((V::G).map λN=>N.cps.toList)
  rw[<- (D4 Q _),wo,wo];simp
theorem KL (X:Str)(Q:Nat):(Txt.split X ⟨#[Q]⟩).map (λN=>N.cps.toList)=eX Q X.cps.toList:=by
 have ab:=D4 Q (Txt.split X ⟨#[Q]⟩);rw[(I4 X _)]at ab;rw[ab,D3]
 ·have:=I2 X ⟨#[Q]⟩
  intro e;simp_all
 ·intro N a
  obtain⟨I,b,rfl⟩:=e3.mp a;exact StrLaws.split_free X Q I b
end L2
namespace LX
open PySem Builtin Builtin.Str
section
variable {prog:cW}{r:cF}{p:dp}{l:aR->aY->Prop}{A:aY}{X:Str}{n:Tok}{q:aR->aY->Prop}
theorem VW {t:Str}{u:Tok}(c:(t.length == 0)=ax)
  (b:∀(s:List (Str×Tok)) (D:Nat),s.map (·.1)=Txt.split X t->q (.ref A.heap.objs.size) {A with toks:=D,heap:=A.heap.push {cls:=.type "list",data:=.seq (strValues s).toArray}})
  (d:X.length<=cw) (e:(partsBetween X (occurrences X t 0 X.length (X.length+1)) t.length).length<=cw):
  bM (model prog r) p (call (.builtin "str.split") [.str X n,.str t u]) q l A:=by
 cases ab:(decide (X.length<t.length)||decide (strKind X<strKind t))
 ·cases a:(occurrences X t 0 _ _).isEmpty
  ·refine call_meets CY (typeIs_str _ _ _) CX (CW _ _) (meets_str_split_sep X t n u ab c a d e) ?_
   rw[strsFrom_eq];exact b _ _ ((numbered_texts _ _).trans ((if_neg (ne_true_of_eq_false ab)).trans (if_neg (ne_true_of_eq_false a))).symm)
  exact call_meets CY (typeIs_str _ _ _) CX (CW _ _) (meets_str_split_not_found X t n u ab c a)
   (b [(X,n)] _ ((if_neg (ne_true_of_eq_false ab)).trans (if_pos a)).symm)
 exact call_meets CY (typeIs_str _ _ _) CX (CW _ _) (meets_str_split_cannot_occur X t n u ab)
  (b [(X,n)] _ (if_pos ab).symm)
end
end LX
namespace L2
open PySem PySem.Spec PyProof.Rows
section
theorem KN:∀(s:List (Str×Tok)),b3 (s.map λN=>eN N.1.cps.toList) (strValues s)
 |[]=>.nil|(I,n)::G=>.cons ⟨n,rfl⟩ (KN G)
variable {H:bQ}{S b Q y:bI}{bE c5 iq lL:bN}{pos:Pos}
def wD (G c d:d0)(bE c5 iq lL:bN):bN:=λo R q=>bE o R λX ar=>c5 o ar λt a5=>G X t a5 λI a=>match I with
 |.aM D=>c6 D (iq o a λr e=>c t r e λf b=>match f with |.aM g=>c6 g (lL o b λh i=>d r h i q) (q (.aM ax) b)|_=>False) (q (.aM ax) a)|_=>False
theorem VX {a c d:CmpOp}{G g h:d0}(w:dj H (eJ a) G)(x:dj H (eJ c) g)(z:dj H (eJ d) h)(B:bt H S bE)(C:bt H b c5)(F:bt H Q iq)(J:bt H y lL)
  (K:lastMarks [a,c,d] [b,Q,y]=ax:=by with_unfolding_all rfl):bt H (.Compare S [a,c,d] [b,Q,y] pos) (wD G g h bE c5 iq lL):=by
 intro ag A o R q L Y;refine Compare_chain (b9 (B ag A o R _ L Y) λv bh ⟨X,ar,M,bC,N⟩=>chain_link (b9 (C ag bh o ar _ M N) λu bj ⟨t,a5,O,bR,P⟩=>
  b9 (w ag bj o a5 X t v u _ O bC bR P) λy T ⟨I,i,j,U,e⟩=>?_)) K
 cases I with
 |aM D=>
  cases U;refine kV ?_;cases D with
  |false=>exact ite_ff ⟨.aM ax,i,j,rfl,e.2 rfl⟩|true=>
   refine ite_tt (chain_link (b9 (F ag T o i _ j (e.1 rfl)) λl V ⟨m,W,Z,n,aa⟩=>b9 (x ag V o W t m u l _ Z bR n aa) λdO ab ac=>?_))
   obtain⟨af,r,s,ah,f⟩:=ac;cases af with
   |aM aj=>
    cases ah;refine kV ?_;cases aj with
    |false=>exact ite_ff ⟨.aM ax,r,s,rfl,f.2 rfl⟩|true=>exact ite_tt (chain_last (b9 (J ag ab o r _ s (f.1 rfl)) λak al ⟨am,an,ao,ap,aq⟩=>z ag al o an m am l ak q ao n ap aq))
   |_=>exact f.elim
 |_=>exact e.elim
end
section
variable {eG:Type}[DecidableEq eG]
noncomputable def g8 (ba:List (eG×aL))(D:eG):Option aL:=(ba.find? λa=>decide (a.1=D)).map (·.2)
noncomputable def jx (ba:List (eG×aL))(D:eG)(v:aL):List (eG×aL):=
 if(ba.any λa=>decide (a.1=D))=ae then ba.map (λa=>if a.1=D then(a.1,v)else a)else ba++[(D,v)]
theorem D5 {N:eG×aL}{G:List (eG×aL)}{D:eG}(e:N.1=D):g8 (N::G) D=E N.2:=by simp[g8,qp,e]
theorem D6 {N:eG×aL}{G:List (eG×aL)}{D:eG}(e:¬N.1=D):g8 (N::G) D=g8 G D:=by simp[g8,qp,e]
theorem KO (D:eG):∀ba:List (eG×aL),(ba.any λa=>decide (a.1=D))=(g8 ba D).isSome
 |[]=>rfl|N::G=>by
  rw[yG];by_cases e:N.1=D
  ·simp only[D5 e,decide_eq_true e,Bool.true_or,Option.isSome_some]
  rw[D6 e,decide_eq_false e];exact KO D G
theorem D7 (ba:List (eG×aL))(D:eG)(v:aL):(jx ba D v).length<=ba.length+1:=by
 unfold jx;grind
theorem kH.wF {C:h2}{u:qw}(G:kH C u):C.isSome=u.isSome:=by
 cases C with
 |none=>cases u with
  |none=>rfl|some _=>trivial
 |some _=>cases u with
  |none=>trivial|some _=>rfl
theorem jr.cj {ba:List (eG×aL)}{c:List (eG×aR)}(G:jr ba c)(D:eG):kH (g8 ba D) (valueAt c D):=by
 unfold jr at G;induction G with
 |nil=>exact mb| @cons N V aF a Y n f=>
  obtain⟨ab,af⟩:=Y;by_cases e:N.1=D
  ·have d:V.1=D:=ab.symm.trans e
   have b:valueAt (V::a) D=E V.2:=by simp[valueAt,qp,d]
   rw[D5 e,b];exact af
  ·have d:¬V.1=D:=λI=>e (ab.trans I)
   have b:valueAt (V::a) D=valueAt a D:=by simp[valueAt,qp,d]
   rw[D6 e,b];exact f
theorem jr.dy {ba:List (eG×aL)}{c:List (eG×aR)}(G:jr ba c)(D:eG):(ba.any λa=>decide (a.1=D))=c.any λa=>decide (a.1=D):=by
 induction G with
 |nil=>rfl|cons Y n b=>simp_all
theorem jr.mY {ba:List (eG×aL)}{c:List (eG×aR)}(G:jr ba c)(D:eG){t:aL}{u:aR}(d:cc t u):
  jr (ba.map λa=>if a.1=D then(a.1,t)else a) (c.map λa=>if a.1=D then(a.1,u)else a):=by
 unfold jr at G ⊢;induction G with
 |nil=>exact .nil| @cons N V aF e Y n b=>
  rw[eR,eR];refine .cons ?_ b;grind
theorem jr.gn {ba:List (eG×aL)}{c:List (eG×aR)}(G:jr ba c)(D:eG){t:aL}{u:aR}(a:cc t u):jr (jx ba D t) (stored c D u):=by
 unfold jx stored;rw[G.dy D];by_cases e:(c.any λb=>decide (b.1=D))=ae
 ·rw[if_pos e,if_pos e];exact G.mY D a
 rw[if_neg e,if_neg e];exact Paired.snoc G ⟨rfl,a⟩
theorem jr.dB {ba:List (eG×aL)}{c:List (eG×aR)}(G:jr ba c):ba.length=c.length:=Paired.length G
end
theorem uy {P:cW}{r:cF}{D:d9}{u:aR}(G:cc (h3 D) u):(kG P r).is D u=ae:=by
 cases D with
 |inl O=>obtain⟨n,e⟩:=(G);subst e;exact R1 P r O n|inr X=>obtain⟨n,e⟩:=(G);subst e;exact R2 P r X n
theorem KP {P:cW}{r:cF}:∀{a:jq}{aa:cu},b3 (a.map h3) aa->ItemsAre (kG P r) a aa
 |[],_,G=>by cases G;exact .nil
 |D::a,_,G=>by
  cases G with
  |cons Y n=>exact .cons (uy Y) (KP n)
abbrev lM (R:aj):List (jq×aL)->tY->Prop:=Paired λN V=>N.1=V.1/\R V.2.1=E (.a_ (N.1.map h3))/\cc N.2 V.2.2
theorem lM.cj {R:aj}{ba:t2}{m:tY}(G:lM R ba m)(D:jq):kH (g8 ba D) ((atKey m D).map (·.2)):=by
 induction G with
 |nil=>exact mb| @cons N V aF a Y n d=>
  obtain⟨ab,_,af⟩:=Y;by_cases e:N.1=D
  ·have c  := ab.symm.trans e
   have b:atKey (V::a) D=E V.2:=by simp[atKey,qp,c]
   rwa[D5 e,b]
  ·have c:¬V.1=D:=λI=>e (ab.trans I)
   have b:atKey (V::a) D=atKey a D:=by simp[atKey,qp,c]
   rwa[D6 e,b]
theorem lM.mY {R:aj}{ba:t2}{m:tY}(G:lM R ba m)(D:jq){t:aL}{u:aR}(c:cc t u):
  lM R (ba.map λa=>if a.1=D then(a.1,t)else a) (m.map (putAt D u)):=by
 induction G with
 |nil=>exact .nil| @cons N V aF d Y n b=>
  rw[eR,eR];refine .cons ?_ b;obtain⟨ab,af,br⟩:=Y;unfold putAt;grind
theorem lM.gn {R:aj}{ba:t2}{m:tY}(G:lM R ba m)(D:jq){b:aV}{t:aL}{u:aR}(c:R b=E (.a_ (D.map h3)))(a:cc t u):
  lM R (jx ba D t) (storedH m D b u):=by
 have e:(ba.any λd=>decide (d.1=D))=(atKey m D).isSome:=by
  rw[KO,(G.cj D).wF,yK]
 unfold jx storedH;rw[e];by_cases V:(atKey m D).isSome=ae
 ·rw[if_pos V,if_pos V];exact G.mY D a
 rw[if_neg V,if_neg V];exact Paired.snoc G ⟨rfl,c,a⟩
theorem lM.keeps {R aq:aj}{ba:t2}{m:tY}(G:lM R ba m)(a:∀b aS,R b=E (.a_ aS)->aq b=E (.a_ aS)):lM aq ba m:=
 Paired.C4 G λ_ _ I=>⟨I.1,a _ _ I.2.1,I.2.2⟩
section
variable {P:cW}{r:cF}{R:aj}{Y:Heap}{S:aV}
theorem KQ {u:fF}(a:gh P r R Y)(e:dZ R S u):h5 P r R Y S u:=e.i a
theorem pE {ba:kY}(a:gh P r R Y)(e:dZ R S (.ey ba)):ba.length<=cw/\(S == sysModules)=ax/\∃c,jr ba c/\Y.DictOf (kG P r) S c:=
 KQ a e
theorem KR {ba:kY}(a:gh P r R Y)(e:R S=E (.ey ba)):ba.length<=cw/\(S == sysModules)=ax/\∃c,jr ba c/\Y.DictOf (kG P r) S c:=pE a (.inl e)
theorem wG {a:jq}(b:gh P r R Y)(e:R S=E (.a_ (a.map h3))):(tupleKind (kG P r)).is Y a S:=by
 obtain⟨_,c,G,C,ab,af,z,br⟩:=(show h5 P r R Y S (.a_ (a.map h3))from b S _ e)
 exact⟨C,c.toArray,z,ab,af,br,by simpa using KP G⟩
theorem uz {ba:t2}(b:gh P r R Y)(e:dZ R S (.lF ba)):ba.length<=cw/\(S == sysModules)=ax /\
  ∃m,lM R ba m/\Y.DictOfH (tupleKind (kG P r)) S m:=by
 obtain⟨I,t,m,G,C,aw,c,ab,af,br,d,f⟩:=(KQ b e);refine⟨I,t,m,G,C,aw,c,ab,af,br,d,λX a=>?_,f⟩
 have g:∀{s:List _}{h:List _},lM R s h->∀X∈h,(tupleKind (kG P r)).is Y X.1 X.2.1:=by
  intro s h V;induction V with
  |nil=>simp_all| @cons N V aF j l n i=>
   intro X a;rcases df.mp a with e |a
   ·exact wG b (by simp_all)
   exact i X a
 exact g G X a
theorem VY {ba:t2}(a:gh P r R Y)(e:R S=E (.lF ba)):ba.length<=cw/\(S == sysModules)=ax /\
  ∃m,lM R ba m/\Y.DictOfH (tupleKind (kG P r)) S m:=uz a (.inl e)
end
def wH (R:aj)(S:aV)(t:aL)(G:h2):Prop:=
 (∃ba D,dZ R S (.ey ba)/\t=h3 D/\G=g8 ba D)\/∃ba D b,dZ R S (.lF ba)/\t=.a0 b/\R b=E (.a_ (D.map h3))/\G=g8 ba D
def zU (R:aj)(S:aV)(t v:aL)(aq:aj):Prop:=
 (∃ba D,R S=E (.ey ba)/\t=h3 D/\ba.length<cw/\aq=b8 R S (.ey (jx ba D v))) \/
 ∃ba D b,R S=E (.lF ba)/\t=.a0 b/\R b=E (.a_ (D.map h3))/\ba.length<cw/\aq=b8 R S (.lF (jx ba D v))
theorem zU.D {R:aj}{S:aV}{ba:kY}{D:d9}{v:aL}(e:R S=E (.ey ba))(a:ba.length<cw):zU R S (h3 D) v (b8 R S (.ey (jx ba D v))):=.inl ⟨ba,D,e,rfl,a,rfl⟩
section
variable {H:bQ}{ag:di}{o:bU}{R:aj}{A:aY}{S:aV}{t v:aL}{u G:aR}{C:h2}{p:dp}{l:aR->aY->Prop}
theorem a6.VZ (a:a6 H ag o R A):sysModules<A.heap.objs.size:=IK (by decide) (a.dU.ps.keeps a.gE).lt
theorem V0 {q:aR->aY->Prop}(n:p.units+1<cLine)(d:a6 H ag o R A)(g:wH R S t (E v))(j:cc t u)(Y:∀a bc,a6 H ag o R bc->cc v a->q a bc):
  bM (model H.cb H.r) p (getItem (.ref S) u) q l A:=by
 rcases g with⟨ba,D,e,f,s⟩|⟨ba,D,b,e,f,r,s⟩
 ·subst f
  obtain⟨I,w,c,h,c_⟩:=pE d.cA e;obtain⟨a,hw,i⟩:=kH.Ds (v:=v) (C:=valueAt c D) (by rw[s];exact h.cj D)
  exact wpAny_getItem_of (uy j) c_.mapOf hw (Y a _ (d.fX _) i)
 ·subst f
  cases(show u=jR b from j)
  obtain⟨I,w,m,h,c_⟩:=uz d.cA e;obtain⟨a,hw,i⟩:=kH.Ds (v:=v) (C:=(atKey m D).map (·.2)) (by rw[s];exact h.cj D)
  obtain⟨N,x,y⟩:=ik.mp hw;refine wpAny_getItem_heap (tupleKind_room_in1 n) (wG d.cA r) c_ x ?_;rw[y];exact Y a _ (d.fX _) i
theorem V1 {q:aR->aY->Prop}(j:p.units+1<cLine)(a:a6 H ag o R A)(g:wH R S t C)(i:cc t u)(Y:∀bc,a6 H ag o R bc->q (.bool C.isSome) bc):
  bM (model H.cb H.r) p (eJ .In u (.ref S)) q l A:=by
 rcases g with⟨ba,D,e,d,s⟩|⟨ba,D,b,e,d,n,s⟩
 ·subst d
  obtain⟨I,f,c,h,c_⟩:=pE a.cA e;refine wpAny_in_of (uy i) f c_.mapOf ?_;rw[<- (h.cj D).wF,<- s];exact Y _ (a.fX _)
 ·subst d
  cases(show u=jR b from i)
  obtain⟨I,f,m,h,c_⟩:=uz a.cA e;refine wpAny_in_heap (tupleKind_room_in1 j) (wG a.cA n) f c_ ?_;have V:=(h.cj D).wF;rw[yK]at V;rw[<- V,<- s];exact Y _ (a.fX _)
theorem V2 {q:aR->aY->Prop}(j:p.units+1<cLine)(a:a6 H ag o R A)(g:wH R S t C)(i:cc t u)(Y:∀bc,a6 H ag o R bc->q (.bool (!C.isSome)) bc):
  bM (model H.cb H.r) p (eJ .NotIn u (.ref S)) q l A:=by
 rcases g with⟨ba,D,e,d,s⟩|⟨ba,D,b,e,d,n,s⟩
 ·subst d
  obtain⟨I,f,c,h,c_⟩:=pE a.cA e;refine wpAny_notIn_of (uy i) f c_.mapOf ?_;rw[<- (h.cj D).wF,<- s];exact Y _ (a.fX _)
 ·subst d
  cases(i);obtain⟨I,f,m,h,c_⟩:=uz a.cA e;refine wpAny_notIn_heap (tupleKind_room_in1 j) (wG a.cA n) f c_ ?_;have V:=(h.cj D).wF;rw[yK]at V;rw[<- V,<- s];exact Y _ (a.fX _)
theorem D8 {aE:Heap}{c:Nat}{a:fF}(d:a6 H ag o R A)(f:v3 (R S))(g:rL S A.heap aE)(h:∃V,aE.get? S=E V)(i:h5 H.cb H.r (b8 R S a) aE S a)(j:0<c:=by fail "0"):
  a6 H ag o (b8 R S a) {A with heap:=aE,toks:=c}:=
 d.qz (X:=S) (e:=S) f (.inl rfl) (λb V l I=>(g.2 b l).trans I) h i j
theorem KS {P:cW}{r:cF}{aq:aj}{aE:Heap}{ba:kY}{c:List (d9×aR)}(I:ba.length<=cw)(a:(S == sysModules)=ax)(b:jr ba c)(c_:aE.DictOf (kG P r) S c):
  h5 P r aq aE S (.ey ba):=⟨I,a,c,b,c_⟩
theorem V3 {aq:aj}{q:Unit->aY->Prop}(C:p.units+1<cLine)(a:a6 H ag o R A)(g:zU R S t v aq)(y:cc t u)(z:cc v G)(Y:∀bc,a6 H ag o aq bc->q () bc):
  bM (model H.cb H.r) p (setItem (.ref S) u G) q l A:=by
 rcases g with⟨ba,D,e,i,s,j⟩|⟨ba,D,b,e,i,B,s,j⟩
 ·subst i j
  obtain⟨I,n,c,d,c_⟩:=KR a.cA e;have r:c.length<=cw:=by rw[<- d.dB];exact I
  have w:(jx ba D v).length<=cw:=by have:=D7 ba D v;lia
  refine wpAny_setItem_pairs (hsz:=r) (uy y) c_ λaE f x=>Y _ ?_
  have F:∃V,aE.get? S=E V:=let⟨V,_,_,h,_⟩:=f;⟨V,h⟩
  exact D8 a (by rw[e];exact mb) x F (KS w n (d.gn D z) f)
 ·subst i j
  cases(show u=jR b from y)
  obtain⟨I,n,m,d,c_⟩:=VY a.cA e;have r:m.length<=cw:=by rw[<- Paired.length d];exact I
  have w:(jx ba D v).length<=cw:=by have:=D7 ba D v;lia
  refine wpAny_setItem_heap (hsz:=r) (tupleKind_room_in1 C) (wG a.cA B) c_ λaE f x=>Y _ ?_
  obtain⟨V,aw,J,h,af,br,K,_,L⟩:=f;refine D8 a (by rw[e];exact mb) x ⟨V,h⟩ ⟨w,n,_,(d.gn D B z).keeps λQ aS ec=>?_,V,aw,J,h,af,br,K,L⟩
  rw[fN (R3 ec e (λI=>nomatch I))]
  exact ec
variable {ba:kY}
theorem V4 {q:aR->aY->Prop}(a:a6 H ag o R A)(e:dZ R S (.ey ba))(Y:∀n bc,a6 H ag o R bc->q (.int ba.length n) bc):bM (model H.cb H.r) p (call (.builtin "len") [.ref S]) q l A:=by
 obtain⟨I,d,c,b,c_⟩:=pE a.cA e;refine call_len_dict d c_ (by rw[<- b.dB];rw[sizeLine_eq]at I;lia) ?_
 rw[<- b.dB];exact Y _ _ (a.fX _)
end
theorem V5 {H:bQ}{ag:di}{o:bU}{R:aj}{A:aY}{S:aV}{t:aL}{C:h2}(a:a6 H ag o R A)(g:wH R S t C):A.TypeIs (.ref S) "dict":=by
 rcases g with⟨ba,D,e,_,_⟩|⟨ba,D,b,e,_,_,_⟩
 ·obtain⟨_,_,c,_,c_⟩:=pE a.cA e
  exact c_.typeIs
 ·obtain⟨_,_,m,_,c_⟩:=uz a.cA e
  exact c_.typeIs
theorem V6 {P:cW}{r:cF}{R:aj}(Y:Heap)(a:sysModules<Y.objs.size):h5 P r R (Y.push {cls:=.type "dict",data:=.dict #[]}) Y.objs.size (.ey []):=
 ⟨jl _,beq_eq_false_iff_ne.mpr (oh (gg a)),[],.nil,RT Y⟩
def D9:bN:=λ_ R q=>∀N,R N=k->q (.a0 N) (b8 R N (.ey []))
section
variable {H:bQ}{pos:Pos}
theorem V7:bt H (.Dict [] [] pos) D9:=λag A o R q a Y=>
 wpAny_Dict_empty ⟨.a0 _,_,a.gR    (λ_ _ V=>el _ V) (cM _) (V6 _ a.VZ),rfl,Y _ (a.cA.fm (cM _))⟩
end
structure KU (H:bQ)(C:bI)(h:Str)(fp:Pos)(e w:bI)(hI:Pos):Prop where
 bg:attributeBase C h H.x (eval C H.x)=eval C H.x
 KV:((h1 hI (ej [e,w] H.x)).all (λX=>!X.1) && (pa hI (o_ [] H.x)).all (λX=>X.1.isSome)
  && decide (([e,w]:List bI).length+([]:List Keyword).length+(if([]:List Keyword).isEmpty then 0 else 1)<30))=ae
 line:(fp.endLine == hI.line)=ae
 KW:h1 hI (ej [e,w] H.x)=[(ax,eval e H.x),(ax,eval w H.x)]
def V8 (R:aj)(S:aV):Prop:=(∃ba,dZ R S (.ey ba))\/∃ba,dZ R S (.lF ba)
theorem V9 {H:bQ}{ag:di}{o:bU}{R:aj}{A:aY}{S:aV}(f:a6 H ag o R A)(y:V8 R S):
  A.TypeIs (.ref S) "dict" /\ (∀b,jR S=.ref b->∃a,A.heap.get? b=E a/\a.dict=k)/\(S==sysModules)=ax:=by
 rcases y with⟨ba,e⟩|⟨ba,e⟩
 ·obtain⟨_,d,c,_,c_⟩:=pE f.cA e
  refine⟨c_.typeIs,λb V=>?_,d⟩
  cases V;obtain⟨a,_,_,ab,af,_⟩:=c_;exact⟨a,ab,af.2.1⟩
 ·obtain⟨_,d,m,_,c_⟩:=uz f.cA e
  refine⟨c_.typeIs,λb V=>?_,d⟩
  cases V;obtain⟨a,_,_,ab,af,_⟩:=c_;exact⟨a,ab,af.2.1⟩
section
namespace L2
open PySem PySem.Spec PyProof.Rows
end L2
end
theorem V_ (a:cu):(fl a.length).filterMap (λD=>a[a.length-1-D]?)=a.reverse:=by
 have Y:(fl a.length).map (λD=>a[a.length-1-D]?)=a.reverse.map E:=by
  refine Ii (by simp) λO ab af=>?_
  grind
 have e:(fl a.length).filterMap (λD=>a[a.length-1-D]?)=((fl a.length).map (λD=>a[a.length-1-D]?)).filterMap id:=by
  rw[rG];rfl
 rw[e,Y,rG];exact Ib
theorem D_ {ay cQ:Type}{w g:ay->Option cQ}:∀{s:List ay},(∀S∈s,w S=g S)->s.filterMap w=s.filterMap g
 |[],_=>rfl|S::s,Y=>by rw[vG,vG,Y S ek,D_ λb a=>Y b (fM _ a)]
theorem KX:∀{m:a3}{aa:cu},b3 m aa->b3 m.reverse aa.reverse
 |_,_,.nil=>.nil|X::m,u::aa,.cons G n=>by rw[yy,yy];exact(KX n).dY (.cons G .nil)
theorem Wa (a:cu):slicePick a.toArray k k (E (-1))=a.reverse.toArray:=by
 unfold slicePick;have b:sliceBounds k k (E (-1)) a.toArray.size=((a.length:Int)-1,-1,-1):=rfl;rw[b];congr 1;unfold sliceRange;rw[rG,<- V_ a];have c:(if -1 > 0 then(if(a.length:Int)-1 < -1 then(-1-((a.length:Int)-1) + -1-1) / -1 else 0)else if(a.length:Int)-1 > -1 then(a.length-1 - -1 - -1-1) / - -1 else 0)=a.length:=by grind
 rw[c];refine D_ λD d=>?_
 show a.toArray[((a.length:Int)-1 + -1*D).toNat]?=a[a.length-1-D]?
 rw[show((a.length:Int)-1 + -1*D).toNat=a.length-1-D by lia]
 simp
section
variable {H:bQ}{e aU:bI}{dH:bN}{iF:mV}{pos c7:Pos}
def Ea (J:bD)(dH:bN)(iF:mV):bN:=λo R q=>dH o R λX ar=>iF o ar λC a5=>C=E (-1)/\match X with
 |.a0 S=>∃m,dG J a5 S m/\∀N,a5 N=k->q (.a0 N) (b8 a5 N (.aG m.reverse))|_=>False
theorem Wb (i:bt H e dH)(j:qF H (E aU) iF):bt H (.Subscript e (.Slice k k (E aU) c7) pos) (Ea H.J dH iF):=by
 intro ag A o R q l Y;refine Subscript_ (b9 (i ag A o R _ l Y) λv bh c=>?_)
 obtain⟨X,ar,n,bC,r⟩:=c;have aA:∀(A:aY) (d:aR->aY->Prop),d .none A->bM (model H.cb H.r) H.p (evalPart k H.x) d H.e7 A:=λA d V=>by rw[evalPart_none];exact dx V
 refine wpAny_Slice (aA _ _ (aA _ _ ?_));refine b9 (j ag bh o ar _ n r) λs a c=>?_
 obtain⟨C,t,u,w,x,g⟩:=c;subst x;cases X with
 |a0 S=>
  obtain⟨m,y,V⟩:=g;cases bC;have f:a6 H ag o t {a with heap:=a.heap.push {cls:=.type "slice",data:=.fields #[.none,.none,s]}}:=u.iB (a:=a.toks) λb z V=>el _ V
  obtain⟨B,G,h,D⟩:=f.dV y;have F:=G.dB;refine tail_any  h.isList.typeIs slot_list_getitem.lookup ?_ (by with_unfolding_all rfl)
  refine wpAny_getItem_list_slice h.isList (Jp ..) .none .none w (by simp) ?_ (by rw[eQ]<;>lia)
  rw[Wa];refine⟨.a0 _,_,f.gR (d:=a.toks) (C:=.aG m.reverse) (λb z V=>el _ V) (cM _) ?_,rfl,V _ (f.cA.fm (cM _))⟩
  refine⟨by rw[Cv];exact D,B.reverse,0,?_,gf _ rfl⟩
  exact KX G
 |_=>exact g.elim
end
def qK:aL->Option d9
 |.d O=>E (.inl O)|.f I=>E (.inr I)|_=>k
theorem KY {t:aL}{D:d9}(Y:qK t=E D):t=h3 D:=by
 cases t<;>first |(cases (Y);rfl)|cases Y
def sq (X t:aL)(R:aj)(bp:aV->kY->d9->Prop):Prop:=match X with
 |.a0 S=>(match qK t with |some D=>∃ba,R S=E (.ey ba)/\bp S ba D |none=>False)|_=>False
theorem KZ {X t:aL}{R:aj}{bp:aV->kY->d9->Prop}(Y:sq X t R bp):∃S ba D,X=.a0 S/\t=h3 D/\R S=E (.ey ba)/\bp S ba D:=by
 unfold sq at Y;cases X with
 |a0 S=>
  cases e:qK t with
  |none=>simp_all|some D=>
   rw[e]at Y;obtain⟨ba,ab,af⟩:=Y;exact⟨S,ba,D,rfl,KY e,ab,af⟩
 |_=>exact Y.elim
inductive qL where
 |O (z:Int)|N (S b:Int)
inductive mm where
 |iW (Q:String)|at(Q:String) (aI:List (Str×qL))
instance:Coe String mm:=⟨mm.iW⟩
inductive Mo (ay:Type) where
 |i (S:ay)|aW (Q:mm)|aQ
abbrev mZ:=Mo Bool
namespace Mo
variable {ay cQ fq:Type}
noncomputable def aC (X:Mo ay)(w:ay->Mo cQ):Mo cQ:=match X with |.i S=>w S |.aW Q=>.aW Q |.aQ=>.aQ
theorem Wc (X:Mo ay)(w:ay->Mo cQ)(g:cQ->Mo fq):(X.aC w).aC g=X.aC λS=>(w S).aC g:=by cases X<;>rfl
noncomputable def r1 (X:Mo ay):Mo ay:=match X with |.i S=>.i S |_=>.aQ
noncomputable def eS (z:Nat)(D:Mo ay):Mo ay:=if z<=cw then D else .aQ
theorem nI {z:Nat}{D:Mo ay}(Y:z<=100000):eS z D=D:=if_pos (lK Y)
noncomputable def dW (N:Prop)[Decidable N](D:Mo ay):Mo ay:=if N then D else .aQ
theorem lN {N:Prop}[Decidable N]{D:Mo ay}(Y:N):dW N D=D:=if_pos Y
noncomputable def e8 (X:Option ay):Mo ay:=match X with |some S=>.i S |none=>.aQ
end Mo
def aH (F Y:aj):aj:=λN=>match F N with |some C=>E C |none=>Y N
def cS (F Y:aj):Prop:=∀N,F N=k\/Y N=k
def cG (ab af Y:aj):Prop:=∀N,(ab N=k/\Y N=af N)\/(af N=k/\Y N=ab N)
def fO (F R a4 aq:aj):Prop:=bu F a4/\bu a4 aq/\bu R aq/\∀N,F N=k->a4 N≠k->R N=k
theorem fO.fc {F R:aj}(Y:bu F R):fO F R F R:=⟨bu.fc _,Y,bu.fc _,λN S b=>absurd S b⟩
theorem fO.b_ {F R bB ar ao a5:aj}(S:fO F R bB ar)(b:fO bB ar ao a5):fO F R ao a5:=by
 obtain⟨c,j,a,d⟩:=S;obtain⟨k2,kK,f,g⟩:=b;refine⟨c.b_ k2,kK,a.b_ f,λN h i=>?_⟩
 cases e:bB N with
 |none=>exact a.ck (g N e i)|some C=>exact d N h (by rw[e];exact fE _)
theorem fO.heap {F R aq:aj}(Y:bu F R)(g:bu R aq):fO F R F aq:=⟨bu.fc _,Y.b_ g,g,λN S b=>absurd S b⟩
theorem fO.ed {F R:aj}(Y:bu F R){N:aV}{C:fF}(a:R N=k):fO F R (b8 F N C) (b8 R N C):=by
 refine⟨oD (Y.ck a) _,λb u e=>?_,oD a _,λV S b=>?_⟩
 ·unfold b8 at e ⊢
  split
  ·rename_i I;rwa[if_pos I]at e
  rename_i I;rw[if_neg I]at e;exact Y _ _ e
 ·unfold b8 at b
  split at b
  ·rename_i I;rwa[I]
  exact absurd S b
structure fP (ay:Type) where
 bp:ay->aL->aj->Prop
 bJ:∀{S v R aq},bu R aq->bp S v R->bp S v aq
def sr (R aq:aj):Prop:=∀N m,R N=E (.a_ m)->aq N=E (.a_ m)
theorem bu.qA {R aq:aj}(Y:bu R aq):sr R aq:=λN m e=>Y _ _ e
noncomputable abbrev uA:fP Int:=⟨λS v _=>v=.d S,λ_ Y=>Y⟩
structure m1 (fq:Type) where
 bp:fq->a3->aj->Prop
 bJ:∀{Q c R aq},bu R aq->bp Q c R->bp Q c aq
noncomputable abbrev zV {ay:Type}(T:fP ay):m1 ay:=⟨λS c R=>∃v,c=[v]/\T.bp S v R,λg ⟨v,e,Y⟩=>⟨v,e,T.bJ g Y⟩⟩
noncomputable abbrev K0 {ay fq:Type}(T:fP ay)(aJ:m1 fq):m1 (ay×fq):=⟨λS c R=>∃v aa,c=v::aa/\T.bp S.1 v R/\aJ.bp S.2 aa R,λg ⟨v,aa,e,Y,V⟩=>⟨v,aa,e,T.bJ g Y,aJ.bJ g V⟩⟩
noncomputable abbrev Eb {fq:Type}(aJ:m1 fq):fP fq:=⟨λQ v R=>∃N aa,v=.a0 N/\R N=E (.a_ aa)/\aJ.bp Q aa R,λg ⟨N,aa,e,Y,V⟩=>⟨N,aa,e,g _ _ Y,aJ.bJ g V⟩⟩
abbrev fy {ay:Type}(T:fP ay)(R:aj)(m:List ay)(c:a3):Prop:=Paired (λX v=>T.bp X v R) m c
theorem Ec {ay cQ:Type}{bp a:ay->cQ->Prop}(Y:∀S b,bp S b->a S b):∀{m:List ay}{aS:List cQ},Paired bp m aS->Paired a m aS
 |_,_,.nil=>.nil|_,_,.cons S n=>.cons (Y _ _ S) (Ec Y n)
theorem fy.bJ {ay:Type}{T:fP ay}{R aq:aj}{m:List ay}{c:a3}(g:bu R aq)(Y:fy T R m c):fy T aq m c:=Ec (λ_ _ G=>T.bJ g G) Y
noncomputable abbrev zW {ay:Type}(T:fP ay):fP (List ay):=⟨λm v R=>∃N c,v=.a0 N/\R N=E (.aG c)/\fy T R m c,λg ⟨N,c,e,Y,V⟩=>⟨N,c,e,g _ _ Y,V.bJ g⟩⟩
structure iX (ay:Type) where
 bl:ay->aL->aj->aj->Prop
 bL:fP ay
 bJ:∀{S v F a4 Y},bu F a4->bl S v F Y->bl S v a4 Y
 h4:∀{S v F Y},cS F Y->bl S v F Y->bL.bp S v (aH F Y)
 lO:∀{S v F Y},bl S v F Y->∀N m,Y N≠E (.a_ m)
theorem lP {F Y:aj}:bu F (aH F Y):=λN C e=>by unfold aH;rw[e]
theorem qM {F Y:aj}(y:cS F Y):bu Y (aH F Y):=λN C e=>by
 unfold aH;rcases y N with I |I
 ·rwa[I]
 grind
def cN (N:aV)(C:fF):aj:=λV=>if V=N then E C else k
theorem jy {N:aV}{C:fF}:cN N C N=E C:=if_pos rfl
abbrev wI {ay:Type}(T:fP ay):iX (List ay):=⟨λm v F Y=>∃N c,v=.a0 N/\Y=cN N (.aG c)/\fy T F m c,zW T,λg ⟨N,c,e,I,V⟩=>⟨N,c,e,I,V.bJ g⟩,
 λy ⟨N,c,e,I,V⟩=>⟨N,c,e,qM y _ _ (by rw[I];exact jy),V.bJ lP⟩,
 λ⟨N,c,e,I,V⟩ b m t=>by rw[I]at t;unfold cN at t;split at t<;>cases t⟩
inductive hL:Type 1 where
 |nJ
 |aK {ay:Type}(T:fP ay) (S:ay)
 |pF {ay:Type}(bl:iX ay) (S:ay)
abbrev wJ:=List (Nat×hL)
abbrev gV:=List hL
def hL.P:hL->h2->aj->aj->Prop
 |.nJ,_,_,_=>True|.aK T S,C,F,_=>∃v,C=E v/\T.bp S v F|.pF bl S,C,F,Y=>∃v,C=E v/\bl.bl S v F Y
def hL.Z:hL->h2->aj->Prop
 |.nJ,_,_=>True|.aK T S,C,F=>∃v,C=E v/\T.bp S v F|.pF bl S,C,F=>∃v,C=E v/\bl.bL.bp S v F
def cY:gV->bU->aj->aj->Prop
 |[],[],_,_=>True|A::L,C::o,F,Y=>∃ab af,cG ab af Y/\A.P C F ab/\cY L o F af|_,_,_,_=>False
def gW (L:gV)(o:bU)(F:aj):Prop:=∀(O:Nat) (A:hL),L[O]?=E A->A.Z (o[O]?.join) F
theorem hL.P.bJ {A:hL}{C:h2}{F a4 Y:aj}(g:bu F a4)(V:A.P C F Y):A.P C a4 Y:=by
 cases A with
 |nJ=>exact V|aK T S=>obtain⟨v,e,G⟩:=V;exact⟨v,e,T.bJ g G⟩|pF bl S=>obtain⟨v,e,G⟩:=V;exact⟨v,e,bl.bJ g G⟩
theorem hL.Z.bJ {A:hL}{C:h2}{F a4:aj}(g:bu F a4)(V:A.Z C F):A.Z C a4:=by
 cases A with
 |nJ=>exact V|aK T S=>obtain⟨v,e,G⟩:=V;exact⟨v,e,T.bJ g G⟩|pF bl S=>obtain⟨v,e,G⟩:=V;exact⟨v,e,bl.bL.bJ g G⟩
theorem gW.bJ {L:gV}{o:bU}{F a4:aj}(g:bu F a4)(V:gW L o F):gW L o a4:=λO A e=>(V O A e).bJ g
theorem cY.bJ:∀{L:gV}{o:bU}{F a4 Y:aj},bu F a4->cY L o F Y->cY L o a4 Y
 |[],[],_,_,_,_,V=>V|A::L,C::o,F,a4,Y,g,a=>by obtain⟨ab,af,j,N,G⟩:=a;exact⟨ab,af,j,N.bJ g,G.bJ g⟩
 |[],_::_,_,_,_,_,V=>V.elim|_::_,[],_,_,_,_,V=>V.elim
theorem cG.s {ab af Y:aj}(j:cG ab af Y):bu ab Y:=λN C e=>by
 rcases j N with⟨S,b⟩|⟨S,b⟩
 ·simp_all
 rwa[b]
theorem cG.G {ab af Y:aj}(j:cG ab af Y):bu af Y:=λN C e=>by
 rcases j N with⟨S,b⟩|⟨S,b⟩
 ·rwa[b]
 grind
theorem cG.fQ {ab af Y:aj}(j:cG ab af Y):cS ab af:=λN=>by
 rcases j N with⟨S,b⟩|⟨S,b⟩
 ·exact .inl S
 exact .inr S
theorem fH {ab af:aj}(y:cS ab af):cG ab af (aH ab af):=λN=>by
 unfold aH;rcases y N with S |S
 ·rw[S];exact .inl ⟨rfl,rfl⟩
 ·refine .inr ⟨S,?_⟩
  cases ab N with
  |none=>exact S|some C=>rfl
theorem cY.at:∀{L:gV}{o:bU}{F Y:aj}(O:Nat) {A:hL},cY L o F Y->L[O]?=E A ->
  ∃C ab af,o[O]?=E C/\cG ab af Y/\A.P C F ab/\∀bc bS d aE,cG d af aE->bc.P bS F d->cY (L.set O bc) (o.set O bS) F aE
 |[],_,_,_,_,_,_,e=>by cases e
 |A::L,[],_,_,_,_,V,_=>V.elim
 |A::L,C::o,F,Y,0,n,h,e=>by
  obtain⟨ab,af,j,N,G⟩:=h;cases e;exact⟨C,ab,af,rfl,j,N,λbc bS d aE f eW=>⟨d,af,f,eW,G⟩⟩
 |A::L,C::o,F,Y,O+1,n,h,e=>by
  obtain⟨ab,af,j,N,G⟩:=h;obtain⟨l,i,a,aN,c,m,w⟩:=cY.at O G (by simpa using e)
  have r:cS ab i:=λN=>by
   rcases j.fQ N with S |S
   ·exact .inl S
   ·exact .inr (c.s.ck S)
  have q:cS ab a:=λN=>by
   rcases j.fQ N with S |S
   ·exact .inl S
   ·exact .inr (c.G.ck S)
  refine⟨l,i,aH ab a,by simpa using aN,λN=>?_,m,λbc bS g aE f eW=>?_⟩
  ·rcases j N with⟨S,b⟩|⟨S,b⟩
   ·rcases c N with⟨Q,y⟩|⟨Q,y⟩
    ·refine .inl ⟨Q,?_⟩;unfold aH;rw[S,b,y]
    ·refine .inr ⟨?_,by rw[b,y]⟩;unfold aH;rw[S,Q]
   ·refine .inl ⟨c.s.ck S,?_⟩
    have:a N=k:=c.G.ck S;unfold aH;rw[b];cases ab N with
    |none=>rw[this]|some u=>rfl
  ·have c_:cS g a:=λN=>by
    rcases f N with⟨S,b⟩|⟨S,b⟩
    ·exact .inl S
    ·right;unfold aH at S
     grind
   refine⟨ab,aH g a,λN=>?_,N,w bc bS g _ (fH c_) eW⟩
   rcases f N with⟨S,b⟩|⟨S,b⟩
   ·unfold aH at b ⊢
    cases I:ab N with
    |none=>rw[I]at b;exact .inl ⟨rfl,by rw[b,S]⟩|some u=>
     rw[I]at b;refine .inr ⟨?_,b⟩;rw[S];rcases q N with t |t
     ·rw[t]at I;cases I
     ·exact t
   ·unfold aH at S
    cases I:ab N with
    |some u=>rw[I]at S;cases S|none=>
     rw[I]at S;refine .inl ⟨rfl,?_⟩;unfold aH;rw[b];cases g N with
     |none=>exact S.symm|some u=>rfl
theorem cY.qN {L:gV}{o:bU}{F Y:aj}(y:cS F Y)(V:cY L o F Y):gW L o (aH F Y):=by
 intro O A e;obtain⟨C,ab,af,aN,j,N,_⟩:=V.at O e;rw[aN];cases A with
 |nJ=>trivial|aK T S=>obtain⟨v,az,G⟩:=N;exact⟨v,az,T.bJ lP G⟩|pF bl S=>
  obtain⟨v,az,G⟩:=N;refine⟨v,az,bl.bL.bJ (λN u I=>?_) (bl.h4 (λN=>by
  rcases y N with S |S
  ·exact .inl S
  exact .inr (j.s.ck S)) G)⟩
  unfold aH at I ⊢;cases t:F N with
  |some r=>rwa[t]at I|none=>rw[t]at I;exact j.s _ _ I
end L2
namespace L2
open PySem PySem.Spec PyProof.Rows
def qL.bp:qL->aL->aj->Prop
 |.O z,v,_=>v=.d z|.N S b,v,R=>∃V,v=.a0 V/\R V=E (.a_ [.d S,.d b])
theorem qL.eT {X:qL}{v:aL}{R aq:aj}(g:sr R aq)(Y:X.bp v R):X.bp v aq:=by
 cases X with
 |O z=>exact Y|N S b=>obtain⟨V,e,I⟩:=Y;exact⟨V,e,g _ _ I⟩
def zX (aI:List (Str×qL))(av:nA)(F:aj):Prop:=Paired (λS w=>S.1=w.1/\S.2.bp w.2 F) aI av
theorem zX.eT {aI:List (Str×qL)}{av:nA}{R aq:aj}(g:sr R aq)(Y:zX aI av R):zX aI av aq:=Ec (λ_ _ G=>⟨G.1,qL.eT g G.2⟩) Y
def kg (J:bD)(l:b4)(X:mm)(bk F R:aj):Prop:=match X with
 |.iW Q=>l (.ref (da J Q)) k R|.at Q aI=>∀bH av,bk bH=k->F bH=E (VL bH av)->zX aI av F->l (.ref (da J Q)) (E bH) R
theorem kg.iH {J:bD}{l:b4}{X:mm}{bk ar F R:aj}(A:bu bk ar)(Y:kg J l X bk F R):kg J l X ar F R:=by
 cases X with
 |iW Q=>exact Y|«at» Q aI=>exact λbH av e=>Y bH av (A.ck e)
def cp {ay:Type}(J:bD)(G:Mo ay)(l:b4)(F R:aj)(D:ay->aj->aj->Prop):Prop:=match G with
 |.i S=>∀a4 aq,fO F R a4 aq->D S a4 aq|.aW Q=>∀a4 aq,fO F R a4 aq->kg J l Q R a4 aq|.aQ=>False
section
variable {J:bD}{l:b4}{ay cQ fq:Type}{F R:aj}
theorem cp.aC {G:Mo ay}{w:ay->Mo cQ}{D:cQ->aj->aj->Prop}(Y:cp J (G.aC w) l F R D):cp J G l F R λS bB ar=>cp J (w S) l bB ar D:=by
 cases G with
 |i S=>
  intro bB ar X;have aE:cp J (w S) l F R D:=Y;cases e:w S with
  |i b=>rw[e]at aE;exact λao a5 t=>aE ao a5 (X.b_ t)|aW Q=>rw[e]at aE;exact λao a5 t=>(aE ao a5 (X.b_ t)).iH X.2.2.1|aQ=>rwa[e]at aE
 |_=>exact Y
theorem cp.c8 {G:Mo ay}{D a:ay->aj->aj->Prop}(Y:cp J G l F R D)(g:∀S a4 aq,fO F R a4 aq->D S a4 aq->a S a4 aq):cp J G l F R a:=by
 cases G with
 |i S=>exact λa4 aq X=>g S a4 aq X (Y a4 aq X)|_=>exact Y
theorem cp.i {S:ay}{D:ay->aj->aj->Prop}(a:bu F R)(Y:cp J (.i S) l F R D):D S F R:=Y F R (.fc a)
theorem cp.eS {z:Nat}{G:Mo ay}{D:ay->aj->aj->Prop}(Y:cp J (Mo.eS z G) l F R D):z<=cw/\cp J G l F R D:=by
 unfold Mo.eS at Y;split at Y
 ·trivial
 exact Y.elim
theorem cp.dW {N:Prop}[Decidable N]{G:Mo ay}{D:ay->aj->aj->Prop}(Y:cp J (Mo.dW N G) l F R D):N/\cp J G l F R D:=by
 unfold Mo.dW at Y;split at Y
 ·trivial
 exact Y.elim
theorem cp.e8 {X:Option ay}{D:ay->aj->aj->Prop}(Y:cp J (Mo.e8 X) l F R D):∃S,X=E S/\cp J (.i S) l F R D:=by
 cases X with
 |none=>exact Y.elim|some S=>exact⟨S,rfl,Y⟩
def zY (J:bD)(e:bN)(l:b4)(L:gV)(G:Mo ay)(T:fP ay):Prop:=
 ∀o F R (q:bX),gW L o F->bu F R->cp J G l F R (λS a4 aq=>∀v,T.bp S v a4->q v aq)->e o R q
def fs (bl:iX ay)(R:aj)(q:bX)(S:ay)(a4 aq:aj):Prop:=∀v Y,(∀N,Y N≠k->R N=k)->cS a4 Y->bu Y aq->bl.bl S v a4 Y->q v aq
def oE (J:bD)(e:bN)(l:b4)(L:gV)(G:Mo ay)(bl:iX ay):Prop:=
 ∀o F R (q:bX),gW L o F->bu F R->cp J G l F R (fs bl R q)->e o R q
def mn (J:bD)(n:f7)(l:b4)(L:gV)(G:mZ):Prop:=
 ∀o F R (q:Bool->aj->Prop),gW L o F->bu F R->cp J G l F R (λb _ aq=>q b aq)->n o R q
def K1 (J:bD)(n:fg)(l:b4)(L:gV)(G:Mo fq)(aJ:m1 fq):Prop:=
 ∀o F R (q:a3->aj->Prop),gW L o F->bu F R->cp J G l F R (λQ a4 aq=>∀c,aJ.bp Q c a4->q c aq)->n o R q
variable {L:gV}{e aN az:bN}{T:fP ay}{G:Mo ay}
theorem oE.bL {bl:iX ay}(Y:oE J e l L G bl):zY J e l L G bl.bL:=by
 intro o F R q a c V;refine Y o F R q a c ?_;cases G with
 |i S=>
  intro a4 aq X v aE d y A C;refine V (aH a4 aE) aq ⟨X.1.b_ lP,λN C e=>?_,X.2.2.1,λN S b=>?_⟩ v (bl.h4 y C)
  ·unfold aH at e
   cases I:a4 N with
   |some r=>rw[I]at e;cases e;exact X.2.1 _ _ I|none=>rw[I]at e;exact A _ _ e
  ·unfold aH at b
   cases I:a4 N with
   |some r=>exact X.2.2.2 N S (by rw[I];exact fE _)|none=>rw[I]at b;exact d N b
 |aW Q=>exact V|aQ=>exact V
def K2 (J:bD)(h:d0)(l:b4)(a:fP ay)(c:fP cQ)(g:ay->cQ->Mo fq)(bl:iX fq):Prop:=
 ∀S b X t F R (q:bX),bu F R->a.bp S X F->c.bp b t F->cp J (g S b) l F R (fs bl R q)->h X t R q
theorem fs.d1 {bl:iX ay}{R ar:aj}{q:bX}{S:ay}{a4 aq:aj}(g:bu R ar)(Y:fs bl R q S a4 aq):fs bl ar q S a4 aq:=
 λv D a y A C=>Y v D (λN I=>g.ck (a N I)) y A C
theorem Wd {h:d0}{a:fP ay}{c:fP cQ}{bl:iX fq}{g:ay->cQ->Mo fq}{bC:Mo ay}{bR:Mo cQ}(e:K2 J h l a c g bl)(ab:zY J aN l L bC a)(af:zY J az l L bR c):
  oE J (nE h aN az) l L (bC.aC λS=>bR.aC λb=>g S b) bl:=by
 intro o F R q d f V;exact ab o F R _ d f (V.aC.c8 λS bB ar x1 i j m=>af o bB ar _ (d.bJ x1.1) x1.2.1 (i.aC.c8 λb ao a5 x2 n r s=>e S b j r ao a5 q x2.2.1 (a.bJ x2.1 m) s (n.c8 λQ u v x3 t=>t.d1 (x1.2.2.1.b_ x2.2.2.1))))
noncomputable instance (O j:Int):Decidable (zi O j):=inferInstanceAs (Decidable (_\/_))
noncomputable instance (O j:Int):Decidable (SX O j):=inferInstanceAs (Decidable (_/\_))
noncomputable instance (O j:Int):Decidable (SY O j):=inferInstanceAs (Decidable (_/\_/\_))
theorem fy.dY {m aS:List ay}{c aa:a3}(S:fy T R m c)(b:fy T R aS aa):fy T R (m++aS) (c++aa):=by
 induction S with
 |nil=>exact b|cons G n a=>exact .cons G a
theorem fy.b6 {m:List ay}{c:a3}(S:fy T R m c):m.length=c.length:=Paired.length S
theorem fy.gQ {m:List ay}{c:a3}(S:fy T R m c)(O:Nat):(m[O]?=k/\c[O]?=k)\/∃X v,m[O]?=E X/\c[O]?=E v/\T.bp X v R:=by
 induction S generalizing O with
 |nil=>exact .inl ⟨rfl,rfl⟩|cons G n a=>
  cases O with
  |zero=>exact .inr ⟨_,_,rfl,rfl,G⟩|succ O=>simpa using a O
theorem fy.take {m:List ay}{c:a3}(S:fy T R m c)(z:Nat):fy T R (m.take z) (c.take z):=by
 induction S generalizing z with
 |nil=>rw[CD,CD];exact .nil|cons G n a=>
  cases z with
  |zero=>exact .nil|succ z=>exact .cons G (a z)
theorem fy.drop {m:List ay}{c:a3}(S:fy T R m c)(z:Nat):fy T R (m.drop z) (c.drop z):=by
 induction S generalizing z with
 |nil=>rw[Iu,Iu];exact .nil|cons G n a=>
  cases z with
  |zero=>exact .cons G n|succ z=>exact a z
theorem We {c:a3}{m:List ay}{N:aV}{a4 aq:aj}{q:bX}(a:R N=k)(af:aq N=E (.aG c))(d:a4 N=k)(f:fy T a4 m c)(V:fs (wI T) R q m a4 aq):q (.a0 N) aq:=by
 refine V (.a0 N) (cN N (.aG c)) (λb I=>?_) (λb=>?_) (λb C I=>?_) ⟨N,c,rfl,rfl,f⟩
 ·unfold cN at I;split at I
  ·rename_i e;rw[e];exact a
  ·exact absurd rfl I
 ·unfold cN;split
  ·rename_i e;rw[e];exact .inl d
  ·exact .inr rfl
 ·unfold cN at I;split at I
  ·rename_i e;rw[e];cases I;exact af
  ·cases I
theorem K3 {c:a3}{m:List ay}{N:aV}{q:bX}(b:bu F R)(a:R N=k)(d:fy T F m c)(V:cp J (.i m) l F R (fs (wI T) R q)):q (.a0 N) (b8 R N (.aG c)):=
 We a js (b.ck a) d (V F _ (.heap b (oD a _)))
def zZ (J:bD)(h:a3->aj->bX->Prop)(l:b4)(aJ:m1 fq)(g:fq->Mo ay)(bl:iX ay):Prop:=
 ∀Q c F R (q:bX),bu F R->aJ.bp Q c F->cp J (g Q) l F R (fs bl R q)->h c R q
theorem Wf {h:a3->aj->bX->Prop}{aJ:m1 fq}{g:fq->Mo ay}{bl:iX ay}{bE:fg}{G:Mo fq}(a:zZ J h l aJ g bl)(Y:K1 J bE l L G aJ):oE J (k1 h bE) l L (G.aC g) bl:=by
 intro o F R q b d V;exact Y o F R _ b d (V.aC.c8 λQ bB ar x1 e c f=>a Q c bB ar q x1.2.1 f (e.c8 λS ao a5 x2 i=>i.d1 x1.2.2.1))
theorem Wg {m:List ay}{c:a3}(G:fy T R m c){O:Int}{X:ay}(e:eb m O=E X):∃v,eb c O=E v/\T.bp X v R:=by
 unfold eb at e ⊢;rw[<- G.b6];cases aN:h8 _ O with
 |none=>simp_all|some j=>
  rcases G.gQ j with⟨S,b⟩|⟨t,v,S,b,Q⟩
  ·simp_all
  simp_all
end
section
variable {J:bD}{l:b4}{ay fq:Type}{F R:aj}{L:gV}{aN az:bN}{T:fP ay}{G:Mo ay}{n dP cv:f7}{b k2 kK:mZ}
theorem Wh (ab:mn J dP l L k2)(af:mn J cv l L kK):mn J (DX dP cv) l L (k2.aC λQ=>if Q then kK else .i ax):=by
 intro o F R q a b V;refine ab o F R _ a b (V.aC.c8 λS bB ar X D=>⟨λQ=>?_,λQ=>?_⟩)
 ·rw[if_pos Q]at D;exact af o bB ar _ (a.bJ X.1) X.2.1 D
 rw[if_neg (by rw[Q];decide)]at D;exact D.i X.2.1
theorem Wi {bC bR:Mo ay}{bl:iX ay}(c:mn J n l L b)(ab:oE J aN l L bC bl)(af:oE J az l L bR bl):oE J (zG n aN az) l L (b.aC λQ=>if Q then bC else bR) bl:=by
 intro o F R q a d V;refine c o F R _ a d (V.aC.c8 λS bB ar X D=>⟨λQ=>?_,λQ=>?_⟩)
 ·rw[if_pos Q]at D;exact ab o bB ar _ (a.bJ X.1) X.2.1 (D.c8 λS ao a5 t I=>I.d1 X.2.2.1)
 rw[if_neg (by rw[Q];decide)]at D;exact af o bB ar _ (a.bJ X.1) X.2.1 (D.c8 λS ao a5 t I=>I.d1 X.2.2.1)
theorem cp.pG {D:ay->aj->aj->Prop}(Y:cp J G l F R D):cp J G l F R λS bB ar=>∀ao a5,fO bB ar ao a5->D S ao a5:=by
 cases G with
 |i S=>exact λbB ar X ao a5 t=>Y ao a5 (X.b_ t)|_=>exact Y
def wK (J:bD)(n:mV)(l:b4)(L:gV)(G:Mo ea):Prop:=
 ∀o F R (q:ea->aj->Prop),gW L o F->bu F R->cp J G l F R (λb _ aq=>q b aq)->n o R q
theorem Wj:wK J zr l L (.i k):=λo F R q b a V=>V.i a
def eD (m:List ay)(a8 aB:ea):List ay:=(m.drop (HT.dJ m.length 0 a8)).take (HT.dJ m.length m.length aB-HT.dJ m.length 0 a8)
theorem Wk {m:List ay}{c:a3}(V:fy T R m c)(a8 aB:ea):fy T R (eD m a8 aB) (qG c a8 aB):=by
 unfold eD qG;rw[<- V.b6];exact(V.drop _).take _
theorem gU.fi {R:aj}{z h:Nat}{X t:aL}{b:Bool}(Y:gU J R z X t b)(g:z<=h):gU J R h X t b:=by
 induction g with
 |refl=>exact Y|step _ a=>exact .iH a
def Wl (J:bD)(h:aL->a3->aj->bX->Prop)(l:b4)(aJ:m1 fq)(g:bo->fq->Mo ay)(bl:iX ay):Prop:=
 ∀s Q c F R (q:bX),bu F R->aJ.bp Q c F->cp J (g s Q) l F R (fs bl R q)->h (eN s) c R q
end
section
variable {J:bD}{l:b4}{ay cQ:Type}{F R:aj}{L:gV}{e:bN}{T:fP ay}{G:Mo ay}
noncomputable def uB (L:gV)(cT:wJ):List hL:=cT.foldl (λL V=>L.set V.1 V.2) L
def qO (o:bU)(cT:y6):bU:=cT.foldl (λL V=>L.set V.1 V.2) o
inductive qP (F:aj):List (Nat×hL)->List (Nat×Option aL)->Prop
 |nil:qP F [] []
 |cons {ay:Type}{T:fP ay}{S:ay}{O:Nat}{v:aL}{cT c} (Y:T.bp S v F) (n:qP F cT c):qP F ((O,.aK T S)::cT) ((O,E v)::c)
def K4 (J:bD)(g:iE)(T:fP ay)(cT:ay->wJ):Prop:=
 ∀S v o F R (q:bU->aj->Prop),bu F R->T.bp S v F->(∀c,qP F (cT S) c->q (qO o c) R)->g v o R q
theorem Wm {o:bU}{O j:Nat}{C:h2}(Y:O<o.length):((o.set O C)[j]?).join=if O=j then C else(o[j]?).join:=by
 grind
theorem Wn {o:bU}{O:Nat}{A:hL}{C:h2}(a:L.length=o.length)(Y:gW L o F)(b:A.Z C F):gW (L.set O A) (o.set O C) F:=by
 intro j n e;rw[yr]at e;split at e
 ·grind
 ·rename_i I
  by_cases t:O<o.length
  ·rw[Wm t,if_neg I];exact Y j n e
  ·rw[List.set_eq_of_length_le (by lia)];exact Y j n e
theorem Wo {cT:wJ}{c:y6}(N:qP F cT c):∀{L:gV}{o:bU},L.length=o.length->gW L o F->gW (uB L cT) (qO o c) F/\(qO o c).length=o.length/\(uB L cT).length=L.length:=by
 induction N with
 |nil=>exact λa Y=>⟨Y,rfl,rfl⟩|cons d n e=>
  rename_i T S O v cT c
  intro L o a Y;obtain⟨f,b,Q⟩:=e  (o:=o.set O _) (by simp_all) (Wn (A:=.aK T S) a Y ⟨v,rfl,d⟩)
  exact⟨f,b.trans (by rw[vF]),Q.trans (by rw[vF])⟩
def Wq (L:gV)(is:bo):Prop:=∀O∈is,∀A,L[O]?=E A->A=.nJ
theorem Wr {cT:wJ}{c:y6}(N:qP F cT c){j:Nat}:∀{o:bU},j∉cT.map (·.1)->(qO o c)[j]?=o[j]?:=by
 induction N with
 |nil=>exact λ_=>rfl|cons d n b=>
  rename_i O v cT c
  intro o a;exact(b (o:=o.set O (E v)) λI=>a (fM _ I)).trans (jO (λI=>a (by rw[<- I];exact ek)))
structure uC (J:bD)(a:i8)(m:List ay)(T:fP ay)(bB:aj):Prop where
 eC:∀O R X,bu bB R->m[O]?=E X->a.eC O R/\∀v aq,a.zd O R v aq->∀F,bu bB F->bu F R->∃a4,fO F R a4 aq/\T.bp X v a4
 pw:∀R,bu bB R->a.pw m.length R
def uD (J:bD)(b:k0)(l:b4)(L:gV)(G:Mo (List ay))(T:fP ay):Prop:=
 ∀o F R (bp:i8->aj->Prop),gW L o F->bu F R->cp J G l F R (λm a4 aq=>∀a,uC J a m T a4->bp a aq)->b o R bp
noncomputable def gp (a8:Int)(z:Nat):List Int:=(fl z).map λ(O:Nat)=>a8+O
theorem Ws {a8:Int}{z:Nat}{bB:aj}:uC J (ov a8 z) (gp a8 z) uA bB:=by
 refine⟨λO R X b a=>?_,λR b=>?_⟩
 ·unfold gp at a
  rw[gC]at a;cases e:(fl z)[O]? with
  |none=>simp_all|some Q=>
   rw[e]at a;cases a;obtain⟨aB,e⟩:=hF.mp e;rw[Ig]at e;subst e;rw[qk]at aB;refine⟨aB,?_⟩;rintro v aq ⟨rfl,rfl⟩ F _ c;exact⟨F,.fc c,rfl⟩
 ·show z<=_
  unfold gp;simp_all
noncomputable def lQ (m:List ay):List (Int×ay):=(fl m.length).zip m |>.map λV=>((V.1:Int),V.2)
theorem Ed (m:List ay)(O:Nat):(lQ m)[O]?=(m[O]?).map λX=>((O:Int),X):=by
 unfold lQ;grind
theorem Ee (m:List ay):(lQ m).length=m.length:=by unfold lQ;simp_all
def k4 (w:ay->Mo (Option cQ)):List ay->List cQ->Mo (List cQ)
 |[],a=>.i a|X::m,a=>(w X).aC λC=>match C with |none=>k4 w m a |some t=>.eS (a.length+1) (k4 w m (a++[t]))
noncomputable def dg (bW:cx)(bL:jn)(L:gV):List hL:=bW.map (λ_=>hL.nJ)++bL.map λV=>(L[V.2]?).getD .nJ
theorem Wt {bW:cx}{bL:jn}{o:bU}(Y:gW L o F):gW (dg bW bL L) (oz bW bL o) F:=by
 intro O A e;unfold dg at e;unfold oz;by_cases aB:O<bW.length
 ·rw[tM (by simp_all),gC,gd aB]at e
  cases e;trivial
 ·rw[pe (by rw[ct];lia),ct,gC]at e
  rw[pe (by rw[ct];lia),ct,gC]
  cases I:bL[O-bW.length]? with
  |none=>simp_all|some V=>
   rw[I]at e;have e  := by simpa using e
   show hL.Z A (o[V.2]?).join F
   cases t:L[V.2]? with
   |none=>rw[t]at e;rw[<- e];trivial|some n=>rw[t]at e;cases e;exact Y _ _ t
theorem Wu {bW:cx}{bL:jn}{o:bU}:(dg bW bL L).length=(oz bW bL o).length:=by unfold dg oz;simp
def mq (Q:mZ)(w:Mo cQ):Mo (Option cQ):=(Q.aC λb=>if b then w.aC λt=>.i (E t)else .i k).r1
end
def dm (bA bk F Y R:aj):Prop:=fO bA bk F R/\cS F Y/\bu Y R/\(∀N,Y N≠k->bk N=k)/\∀N m,Y N≠E (.a_ m)
section
variable {J:bD}{l:b4}{ay:Type}{bA bk F Y R:aj}{e:bN}{G:Mo ay}{n:fY}
theorem dm.qQ (a:dm bA bk F Y R):bu (aH F Y) R:=λN C e=>by
 unfold aH at e;cases I:F N with
 |some r=>rw[I]at e;cases e;exact a.1.2.1 _ _ I|none=>rw[I]at e;exact a.2.2.1 _ _ e
def f9 (ah Y:aj):aj:=λN=>match Y N with |none=>ah N |some _=>k
theorem uE {ah Y:aj}{N:aV}(e:Y N=k):f9 ah Y N=ah N:=by unfold f9;rw[e]
theorem dm.d1 (g:dm bA bk F Y R){a aq:aj}(X:fO (aH F Y) R a aq):dm bA bk (f9 a Y) Y aq/\bu F (f9 a Y)/\sr a (f9 a Y):=by
 obtain⟨c,d,l,h,i⟩:=g;have f:bu F (f9 a Y):=λN C e=>by
  have j:Y N=k:=by
   rcases d N with I |I
   ·simp_all
   exact I
  rw[uE j];exact X.1 _ _ (lP _ _ e)
 refine⟨⟨⟨c.1.b_ f,λN C e=>?_,c.2.2.1.b_ X.2.2.1,λN S b=>?_⟩,λN=>?_,λN C e=>?_,h,i⟩,f,λN m e=>?_⟩
 ·unfold f9 at e
  split at e
  ·exact X.2.1 _ _ e
  cases e
 ·unfold f9 at b
  split at b
  ·cases t:aH F Y N with
   |none=>exact c.2.2.1.ck (X.2.2.2 N t b)|some C=>
    unfold aH at t;cases r:F N with
    |some _=>exact c.2.2.2 N S (by rw[r];exact fE _)|none=>simp_all
  trivial
 ·unfold f9
  cases I:Y N with
  |none=>exact .inr rfl|some C=>exact .inl rfl
 ·exact X.2.1 _ _ (X.1 _ _ (qM d _ _ e))
 ·unfold f9
  cases I:Y N with
  |none=>exact e|some C=>
   have:=X.1 _ _ (qM d _ _ I);simp_all
theorem kg.d1 {X:mm}(a:dm bA bk F Y R){b aq:aj}(t:fO (aH F Y) R b aq)(n:kg J l X bk (f9 b Y) aq):kg J l X R b aq:=by
 cases X with
 |iW Q=>exact n|«at» Q aI=>
  refine λbH av e V G=>n bH av (a.1.2.2.1.ck e) ?_ (G.eT (a.d1 t).2.2)
  rw[uE (a.2.2.1.ck e)];exact V
theorem dm.eU (a:dm bA bk F Y R){a4 aq:aj}(X:fO F R a4 aq):dm bA bk a4 Y aq:=by
 refine⟨a.1.b_ X,λN=>?_,a.2.2.1.b_ X.2.2.1,a.2.2.2.1,a.2.2.2.2⟩
 cases I:Y N with
 |none=>exact .inr rfl|some C=>
  left;rcases a.2.1 N with t |t
  ·cases r:a4 N with
   |none=>rfl|some bS=>have:=X.2.2.2 N t (by rw[r];exact fE _);rw[a.2.2.1 _ _ I]at this;cases this
  lia
theorem Ef {a Y:aj}(b:bu Y R)(c:∀N,a N≠k->R N=k):cS a Y:=λN=>by
 cases I:a N with
 |none=>exact .inl rfl|some r=>
  have:=c N (by rw[I];exact fE _)
  exact .inr (b.ck this)
theorem Wv {ay:Type}{s:List ay}{O:Nat}{C:ay}(Y:s[O]?=E C):s.set O C=s:=by
 obtain⟨aB,e⟩:=hF.mp Y;rw[<- e];exact List.set_getElem_self aB
theorem dm.Ww {bB ar:aj}(X:fO bA bk bB ar)(c:dm bA bk F Y R)(A:bu bB F):dm bB bk F Y R:=by
 obtain⟨a,d,e,f,g⟩:=c;refine⟨⟨A,a.2.1,a.2.2.1,λN S b=>a.2.2.2 N (X.1.ck S) b⟩,d,e,f,g⟩
theorem dm.z0 {bB ar:aj}(X:fO bA bk bB ar)(c:dm bB bk F Y R):dm bA bk F Y R:=by
 obtain⟨a,d,e,f,g⟩:=c;refine⟨⟨X.1.b_ a.1,a.2.1,a.2.2.1,λN S b=>?_⟩,d,e,f,g⟩
 cases I:bB N with
 |none=>exact a.2.2.2 N I b|some r=>exact X.2.2.2 N S (by rw[I];exact fE _)
variable {L:gV}
def uF (O j:Int):Prop:=0<j/\I9 O j=ax
noncomputable instance (O j:Int):Decidable (uF O j):=inferInstanceAs (Decidable (_/\_))
noncomputable instance (O j:Int):Decidable (IntMulOk O j):=inferInstanceAs (Decidable (¬_))
abbrev Wx:d0:=wq IntMulOk λO j=>.d (O*j)
abbrev Eg:d0:=wq uF λO j=>.d (O / j)
theorem Wy {H:bQ}:dj H (j4 .Mult) Wx:=DO (Dq λ_ _ _ _ _ _ _ a V=>mul_int V a)
theorem Wz {H:bQ}:dj H (j4 .FloorDiv) Eg:=DO (Dq λO j _ _ _ _ _ a V=>by
 have ab  := a.1;exact floordiv_int (by lia) (by rwa[Int.fdiv_eq_ediv_of_nonneg O (by lia)]) (.inl a.2))
theorem WA:mn J zE l L (.i ae):=λo F R q b a V=>V.i a
end
section
open PySem PySem.Spec PyProof.Rows in
theorem WB {S j:Int}(a:0<j)(Y:j.natAbs.log2<9000):uF S j:=by
 refine⟨a,?_⟩;unfold I9;lia
theorem log2_lt {z D:Nat}(Y:z<2 ^ D):z.log2<D\/z=0:=by
 by_cases a:z=0
 ·exact .inr a
 exact .inl ((Nat.log2_lt a).mpr Y)
theorem WC {S j:Int}(a:0<j)(Y:j<2 ^ 1000):uF S j:=by
 refine WB a ?_;have ab:j.natAbs<2 ^ 1000:=by
  grind
 rcases log2_lt ab with Y |Y
 ·lia
 ·rw[Y];decide
open PySem PySem.Spec PyProof.Rows in
theorem K5 {O j:Int}(Y : -(2 ^ 64)<O/\O<2 ^ 64 \/ -(2 ^ 64)<j/\j<2 ^ 64):IntMulOk O j:=zi.i Y
theorem oF (a8:Int)(z:Nat):(gp a8 z).length=z:=by unfold gp;simp_all
theorem K6 {a8 X:Int}{z:Nat}:X∈gp a8 z↔a8<=X/\X<a8+z:=by
 unfold gp;simp only[e3,lD];constructor
 ·lia
 rintro⟨ab,af⟩;exact⟨(X-a8).toNat,by lia,by lia⟩
end
section
variable {bA bk F Y R:aj}
theorem Eh {N:aV}{bS:fF}{n o aE:aj}(h:dm bA bk F Y R)(c:Y N≠k)(i:∀m,bS≠.a_ m)(aE:aj)(a:∀V,aE V=if V=N then E bS else Y V):dm bA bk F aE (b8 R N bS):=by
 obtain⟨b,d,j,e,l⟩:=h;have f:F N=k:=by
  rcases d N with I |I
  ·exact I
  ·exact absurd I c
 have g:bk N=k:=e N c;refine⟨⟨b.1,λV C I=>?_,λV C I=>?_,b.2.2.2⟩,λV=>?_,λV C I=>?_,λV I=>?_,λV aS I=>?_⟩
 ·unfold b8;split
  ·rename_i r;rw[r,f]at I;cases I
  ·exact b.2.1 _ _ I
 ·unfold b8;split
  ·rename_i r;rw[r,g]at I;cases I
  ·exact b.2.2.1 _ _ I
 ·rw[a];split
  ·rename_i r;rw[r];exact .inl f
  ·exact d V
 ·rw[a]at I;unfold b8
  split at I
  ·rename_i r;rw[if_pos r];exact I
  ·rename_i r;rw[if_neg r];exact j _ _ I
 ·rw[a]at I;split at I
  ·rename_i r;rw[r];exact g
  ·exact e V I
 ·rw[a]at I;split at I
  ·exact i aS (by injection I)
  ·exact l V aS I
@[irreducible] def su:Nat:=100000
end
open PySem.SeqAt
open PySem.AutoSeq1 (wpAny_loadPart')
open PySem.MeetsSeq PySem.MeetsSeq2 PySem.MeetsSeq3
section
variable {ay:Type}
theorem K7 {z y:Nat}{O:Int}(Y:0<=O):HT.dJ z y (E O)=min O.toNat z:=by
 unfold HT.dJ;lia
theorem sv {m:List ay}{O:Int}(Y:0<=O):eD m k (E O)=m.take O.toNat:=by
 unfold eD;rw[K7 Y,show HT.dJ _ 0 k=0 from rfl,mN,CF,<- List.take_take,yB]
theorem uG {m:List ay}{O:Int}(Y:0<=O):eD m (E O) k=m.drop O.toNat:=by
 unfold eD;rw[K7 Y];by_cases a:O.toNat<=m.length
 ·rw[yI a,List.take_of_length_le (by rw[qm];exact cM _)]
 rw[CE (by lia),vI,List.drop_eq_nil_of_le (by lia),CD]
theorem WD {m:List ay}{V:Int×ay}(Y:V∈lQ m):∃O:Nat,O<m.length/\V.1=O/\m[O]?=E V.2:=by
 obtain⟨O,aB,e⟩:=List.mem_iff_getElem.mp Y;rw[Ee]at aB;have:=Ed m O;grind
end
noncomputable def mr {ay:Type}(m:List ay)(z:Int):List ay:=(fV z.toNat m).flatten
def wL (h:Nat)(z:Int):Prop:=0<=z/\z<=100000/\h<=100000/\h*z.toNat<=100000
noncomputable instance (h:Nat) (z:Int):Decidable (wL h z):=inferInstanceAs (Decidable (_/\_))
def Ei:d0:=λX t R q=>match X,t with
 |.d O,.d j=>IntMulOk O j/\q (.d (O*j)) R|.f I,.d z=>wL I.cps.toList.length z/\q (eN (mr I.cps.toList z)) R|.a0 s,.d D=>∃m,R s=E (.aG m)/\wL m.length D/\∀N,R N=k->q (.a0 N) (b8 R N (.aG (mr m D)))|_,_=>False
theorem K8 (I:il)(z:Nat):(yH (λx1 x2=>x1++x2) #[] (fV z I)).toList=(fV z I.toList).flatten:=by
 have:∀(s:List _) (a:il),(s.foldl (λx1 x2=>x1++x2) a).toList=a.toList++(s.map CT).flatten:=by
  intro s;induction s with
  |nil=>intro a;simp
  |cons S s b=>simp_all
 rw[this];simp
theorem WE {H:bQ}:dj H (j4 .Mult) Ei:=by
 intro ag A o R X t v u q a c d Y
 cases X<;>cases t<;>first
  |exact Y.elim
  |exact Wy ag A o R _ _ v u q a c d Y
  | (obtain⟨m,g,⟨h,i,j,b⟩,V⟩:=Y
     exact Ut ag A o R _ _ v u q a c d ⟨_,_,m,rfl,rfl,g,by lia,by lia,lK b,V⟩)
  | (rename_i I z
     obtain⟨⟨h,i,j,b⟩,V⟩:=Y;obtain⟨n,rfl⟩:=c;obtain⟨r,rfl⟩:=d;have f:I.length=I.cps.toList.length:=by simp[mO]
     refine PySem.P.mul_str (by simp;lia) (λab af=>?_) (λab af=>?_) ?_
     ·rw[f]
      have l:0<z:=by lia
      have:(I.cps.toList.length:Int)*z<=2 ^ 63-1:=by
       have e:z=(z.toNat:Int):=by lia
       rw[e,<- Int.natCast_mul];lia
      have:=Int.le_ediv_of_mul_le l this;lia
     ·unfold Q6
      rw[f];have:=lK b;exact decide_eq_false (by lia)
     ·by_cases ab:z<1
      ·rw[if_pos ab]
       have:z=0:=by lia
       subst this;exact⟨jl _,eN [],R,a.fX _,⟨_,rfl⟩,V⟩
      ·rw [if_neg ab]
       by_cases af:(z == 1 ||I.length == 0)=ae
       ·rw[if_pos af]
        have e:mr I.cps.toList z=I.cps.toList:=by
         unfold mr;rw[pd]at af;rcases af with af |af
         ·have:z=1:=by simpa using af
          subst this;simp
         ·have:I.cps.toList=[]:=qf.mp (by rw[<- f];simpa using af)
          rw[this];simp
        rw[e]at V;refine⟨eN I.cps.toList,R,a,⟨n,?_⟩,V⟩;grind
       ·rw[if_neg af]
        refine⟨?_,eN (mr I.cps.toList z),R,a.fX _,⟨A.toks,?_⟩,V⟩
        ·have e:(⟨yH (λx1 x2=>x1++x2) #[] (fV z.toNat I.cps)⟩:Str).length=(fV z.toNat I.cps.toList).flatten.length:=by
          rw[<- K8];simp[mO]
         rw[e,Kg];exact lK (by rw[II];exact b)
        show vR _ _=vR _ _
        congr 1;unfold mr;rw[<- K8])
section
variable {ay:Type}{R:aj}{T:fP ay}
theorem WG {m:List ay}{c:a3}(a:fy T R m c)(z:Int):fy T R (mr m z) (mr c z):=by
 unfold mr;induction z.toNat with
 |zero=>exact .nil|succ h b=>exact a.dY b
noncomputable def oG (s:jm):List Str:=s.map λI=>⟨I.toArray⟩
end
theorem WH:isSubtype (pj "int") (pj "int")=pure ae:=by first |rfl |exact AutoSeq1.sub_int_int
theorem WI:typeLookup (pj "str") (rU "__int__")=pure k:=by kernel_rfl!
theorem WJ:typeLookup (pj "str") (rU "__index__")=pure k:=by kernel_rfl!
theorem WK:typeLookup (pj "str") (rU "__trunc__")=pure k:=by kernel_rfl!
theorem WL {n:Tok}{Q:Nat}(a:48<=Q)(ab:Q<=57):Meets (rE.«int.__new__» ⟨[.type "int",.str ⟨#[Q]⟩ n],[]⟩) (λ_ bp A=>bp (.ok (.ret (.int ((Q:Int)-48) A.toks))) {A with toks:=A.toks+1}):=by
 intro prog r p bp A Y;have b:=WH;have c:=PySem.F.madeHere_int;have d:=WI;have f:=WJ;have g:=WK
 wp_walk
 refine Eq.mp (congrArg (λn=>bM (model prog r) p.in1 n _ _ _) (?e:mkInt ((Q:Int)-48)=_)) ?_
 case e=>
  have:Q=48\/Q=49\/Q=50\/Q=51\/Q=52\/Q=53\/Q=54\/Q=55\/Q=56\/Q=57:=by lia
  clear Y b c d f g a ab;rcases this with rfl |rfl |rfl |rfl |rfl |rfl |rfl |rfl |rfl |rfl<;>kernel_rfl!
 wp_walk
 exact Y
noncomputable def K9 (I:bo):Bool:=match I with |[Q]=>decide (48<=Q/\Q<=57)|_=>ax
noncomputable def WM (I:bo):Int:=match I with |[Q]=>(Q:Int)-48 |_=>0
def z1:a3->aj->bX->Prop:=λm R q=>match m with
 |[.f I]=>K9 I.cps.toList=ae/\q (.d (WM I.cps.toList)) R|[.aM b]=>q (.d (if b=ae then 1 else 0)) R|_=>False
theorem WN {H:bQ}:iG H (.type "int") z1:=by
 intro ag A o R m aa q b G Y;unfold z1 at Y;split at Y
 ·rename_i I
  obtain⟨u,rfl,n,rfl⟩:=mg G;obtain⟨a,V⟩:=Y;unfold K9 at a;split at a
  ·rename_i Q c
   have d:I=⟨#[Q]⟩:=by rw[DL I,c]
   subst d;have a:=of_decide_eq_true a;refine call_int_1 (WL a.1 a.2) ?_;refine⟨?_,.d _,R,b.fX _,⟨_,rfl⟩,V⟩;exact rfl
  cases a
 ·obtain⟨u,rfl,e⟩:=mg G
  cases e;exact call_int_bool ⟨.d _,R,b.fX _,⟨_,rfl⟩,Y⟩
 exact Y.elim
end L2
namespace Att
open PySem PySem.W PySem.Calls PyProof.Rows
theorem WO {a:ef}(Y:WData.layableAll [WData.list (a.map WData.int)]=ae):∀X∈a,y3 X<=1048576:=by
 intro X b;exact PyData.bits_of_layable (layable_int (layableW_item (layableW_arg Y _ (fv.mpr rfl)) _ (e3.mpr ⟨X,b,rfl⟩)))
theorem WQ {s:OpenLaw}{z:Nat}{V:cW}{h:cx}{i:eu->Heap->Prop}{j:cF->Heap->Prop}{y:DefRec}
  (n:s.most=E z) (o:y.params.defaults=[])
  (q:∀(r:cF) (l a:aY) (a7 e:eu) (g6:aV) (C:iU) (f d g:aR) (S:aV) (c:cu) (b:ef),
   (∀X∈b,y3 X<=1048576) ->
   Ground V h [] i r l a7 e a.heap->j r a.heap ->
   a.heap.get? g6=E C->C.data=.func (docDef y.name y.params y.body y.scope f d g)->a.heap.CodeRec d y.name->a7 y.name=E (.ref g6) ->
   a.heap.get? S=E {cls:=.type "list",data:=.seq c.toArray}->IntsAre c b->b.length<=z->a.gens=#[] ->
   codeAny (model s.prog r) callerA (.call (.ref g6) ⟨[.ref S],[]⟩) (λG bc=>G=.ok (.ret (.bool ae))/\OldK a.heap bc.heap/\bc.os=a.os/\AllBare bc.gens) a):
  WalkO V h i j s.row.toRowW y [] (λw c=>Cq w c):=by
 intro r l a a7 e ah t g6 C f d g u v x A B m D F R T aI I J U K W;obtain rfl:u=.none:=Dflts.none m o;obtain rfl:v=.none:=Dflts.noKw m;obtain⟨S,c,b,rfl,rfl,L,M,N⟩:=Uv n I K;refine enter_call (codeAny_mono (q r _ a a7 e g6 C f d g S c b (WO J) ah t x (fd_plain A) B D L M N F) λG bc O=>?_)
 obtain⟨rfl,af,br,P⟩:=O;exact⟨.inl ⟨.bool ae,.bool ae,[],rfl,λ_=>rfl,.bool ae,Uw s _,λ_=>⟨Jq,λ_ Q=>(nomatch Q)⟩⟩,af,br,P⟩
end Att
namespace L2
open PySem PySem.Spec PyProof.Rows
theorem WR {s:CM}{z D:Nat}{V:cW}{g:cx}{h:eu->Heap->Prop}{d:cF->Heap->Prop}{y:DefRec}{J:Params->bD}{dk:cF->i_}{cf:cF->gH}{X:Str}
  (i:s.most=E z) (j:z<=cw) (l:y.params.defaults=[]) (m:gk D callerA) (n:[X]=ud) (o:∀N,zy V (J N)=ae)
  (q:∀(r:cF) (Y:Heap),d r Y->(J r.params).In Y)
  (F:∀(r:cF) (a7:eu) (g6:aV) (Y:Heap),(J r.params).In Y->Y.Ns fb a7->a7 y.name=E (.ref g6) ->
   ∃bG:hk,(∀(A:aY) (u:aR),BindsTo A bG ⟨[u],[]⟩ [(X,u)]) /\
    ∀bg:Heap,(J r.params).In bg->bg.Ns fb a7->gI s.prog r (J r.params) a7 bg (dk r) D g6 bG [X] (cf r))
  (t:∀(r:cF) (R:aj) (S:aV) (a:ef),a.length<=z->(∀X∈a,y3 X<=1048576)->DG R->dG (J r.params) R S (a.map aL.d)->cf r [.a0 S] R (λv _=>v=.aM ae) λ_ _ _=>False)
  (x:∀(r:cF) (R:aj) (A:aY) (e:aR) (bc:aY),dk r [] R A (λ_ _ _=>False) e bc->False):
  W.WalkO V g h d s.row.toRowW y [] (λw c=>Cq w c):=by
 refine Att.WQ i l λr Z B a7 aa g6 C ab ac af S c a G ah I ag ak al K L M f O=>?_
 have b:=q r _ I;obtain⟨bG,P,Q⟩:=F r a7 g6 _ b ah.T.g K;exact Ux b ah.T.g ah.T.b ah.T.builtins ah.T.nolimit ah.T.bmain O L M (jP f j) m n Q P (λR T U=>t r R S a f G T U) (λR e bc=>x r R B e bc) (Uy ah.T b (o _))
abbrev z2 (a:ef):Prop:=∀X∈a,y3 X<=1048576
open PySem PySem.Spec PyProof.Rows PySem.W
section
variable {ay cQ:Type}
def kh (lt:kX)(z:Nat):KasT ay->(ay->Prop)->Prop
 |.ret S,P=>P S|.ask O j D,P=>O<z/\j<z/\kh lt z (D (lt O j)) P
variable {lt:kX}{z:Nat}
theorem uH {w:ay->KasT cQ}{P:cQ->Prop}:∀(n:KasT ay),kh lt z n (λS=>kh lt z (w S) P)->kh lt z (n.bind w) P
 |.ret _,Y=>Y|.ask O j D,Y=>⟨Y.1,Y.2.1,uH _ Y.2.2⟩
theorem pH {P q:ay->Prop}(a:∀S,P S->q S):∀(n:KasT ay),kh lt z n P->kh lt z n q
 |.ret _,Y=>a _ Y|.ask O j D,Y=>⟨Y.1,Y.2.1,pH a _ Y.2.2⟩
theorem K_ {prog:cW}{r:cF}{p:dp}{eG:SortKind}{c:cu}{A:aY}{P:ay->Prop}{q:ay->aY->Prop}
  (a:∀O j (aJ:Bool->aY->Prop),O<z->j<z->aJ (lt O j) A->kas_ask prog r p eG c O j aJ A) (b:∀S,P S->q S A):∀n:KasT ay,kh lt z n P->n.kasWp (kas_ask prog r p eG c) q A
 |.ret S,Y=>b S Y|.ask O j D,Y=>a O j _ Y.1 Y.2.1 (K_ a b _ Y.2.2)
structure ki (lt:kX):Prop where
 nK:∀{S b},lt S b=ae->lt b S=ax
 k5:∀{S b Q},lt b S=ax->lt Q b=ax->lt Q S=ax
abbrev fi (lt:kX)(S b:Nat):Prop:=lt b S=ax
theorem ki.fc (r:ki lt)(S:Nat):fi lt S S:=by
 cases Y:lt S S with
 |false=>exact Y|true=>exact r.nK Y
abbrev iY (N:il)(z:Nat):Prop:=N.toList.Perm (fl z)
theorem sx {N:il}(Y:iY N z):N.size=z:=by have:=Y.length_eq;rwa[qk]at this
theorem oH {N:il}(Y:iY N z){O:Nat}(aB:O<z):N.getD O 0<z:=by
 have a:=sx Y;have:N.getD O 0=N[O]'(by lia):=by simp[I8,a,aB]
 rw[this];exact lD.mp (Y.mem_iff.mp (by simp))
theorem wM {N V:il}{O j:Nat}(Y:N[O]?=V[j]?):N.getD O 0=V.getD j 0:=by simp_all
theorem wN {N:il}(Y:iY N z)(O j:Nat):iY (kas_rev N O j) z:=(I6.mp (mirror_perm N O j _)).trans Y
theorem qR {N:il}{O j:Nat}(a:j<=N.size)(D:Nat):(kas_rev N O j).getD D 0=if O<=D/\D<j then N.getD (O+j-1-D) 0 else N.getD D 0:=by
 have:=getElem?_mirror_all  (i:=O) a D;split
 ·rename_i V;rw[if_pos V]at this;exact wM this
 rename_i V;rw[if_neg V]at this;exact wM this
def lR (lt:kX)(N:il)(D:Nat):Prop:=∀O j,O<=j->j<D->fi lt (N.getD O 0) (N.getD j 0)
def qS (lt:kX)(N:il)(D:Nat):Prop:=∀O j,O<=j->j<D->fi lt (N.getD j 0) (N.getD O 0)
theorem lR.cN (r:ki lt)(N:il):lR lt N 1:=λO j S b=>by
 obtain rfl:O=j:=by lia
 exact r.fc _
theorem Ej (r:ki lt){N:il}(b:iY N z):∀(w h:Nat),1<=h->h+w<=z->lR lt N h->kh lt z (kas_asc N w h) (λG=>h<=G/\G<=h+w/\lR lt N G/\(G<h+w->lt (N.getD G 0) (N.getD (G-1) 0)=ae))
 |0,h,ab,c,a=>⟨cM _,cM _,a,λY=>absurd Y (rM _)⟩|w+1,h,ab,c,a=>by
  refine⟨oH b (by lia),oH b (by lia),?_⟩
  show kh lt z (if lt (N.getD h 0) (N.getD (h-1) 0)=ae then KasT.ret h else kas_asc N w (h+1)) _
  cases Y:lt (N.getD h 0) (N.getD (h-1) 0)with
  |true=>rw[if_pos rfl];exact⟨cM _,by lia,a,λ_=>Y⟩|false=>
   refine pH (λG V=>⟨by lia,by lia,V.2.2.1,λI=>V.2.2.2 (by lia)⟩) _ (Ej r b w (h+1) (by lia) (by lia) λO j d f=>?_)
   by_cases e:j<h
   ·exact a O j d e
   ·obtain rfl:j=h:=by lia
    by_cases az:O=j
    ·subst az;exact r.fc _
    ·exact r.k5 (a O (j-1) (by lia) (by lia)) Y
theorem La (r:ki lt){N:il}{h V:Nat}(d:h<=N.size)(g:V+1<=h)(a:qS lt N h)(e:∀O,h-(V+1)<=O->O<h->fi lt (N.getD O 0) (N.getD (h-1) 0)):qS lt (kas_rev N (h-(V+1)) h) h:=by
 intro O j f c;have bC:=qR (N:=N) (O:=h-(V+1)) d O;have bR:=qR (N:=N) (O:=h-(V+1)) d j;show lt _ _=ax
 rw[bC,bR];by_cases S:h-(V+1)<=O
 ·rw[if_pos ⟨S,by omega⟩,if_pos ⟨by omega,c⟩]
  exact r.k5 (e _ (by omega) (by omega)) (a _ (h-1) (by omega) (by omega))
 ·rw[if_neg (λI=>S I.1)]
  by_cases b:h-(V+1)<=j
  ·rw[if_pos ⟨b,c⟩];exact a _ _ (by omega) (by omega)
  ·rw[if_neg (λI=>b I.1)];exact a _ _ f c
theorem Ek (r:ki lt):∀(w:Nat) (N:il) (h V:Nat),iY N z->V+1<=h->h+w<=z->qS lt N h->(∀O,h-(V+1)<=O->O<h->fi lt (N.getD O 0) (N.getD (h-1) 0)) ->
  kh lt z (kas_desc w N h V) (λG=>iY G.1 z/\G.2.2+1<=G.2.1/\G.2.1<=h+w/\qS lt G.1 G.2.1/\∀O,G.2.1-(G.2.2+1)<=O->O<G.2.1->fi lt (G.1.getD O 0) (G.1.getD (G.2.1-1) 0))
 |0,N,h,V,a,ab,m,c,f=>⟨a,ab,cM _,c,f⟩|w+1,N,h,V,a,ab,m,c,f=>by
  have t:=sx a;refine⟨oH a (by lia),oH a (by lia),?_⟩
  cases Y:lt (N.getD h 0) (N.getD (h-1) 0)with
  |true=>
   dsimp only;rw[if_pos rfl];have i:∀d:il,iY d z->qS lt d h->d.getD h 0=N.getD h 0->(∀O,O<h->fi lt (N.getD (h-1) 0) (d.getD O 0))->kh lt z (kas_desc w d (h+1) 0) (λG=>iY G.1 z/\G.2.2+1<=G.2.1/\G.2.1<=h+(w+1)/\qS lt G.1 G.2.1/\∀O,G.2.1-(G.2.2+1)<=O->O<G.2.1->fi lt (G.1.getD O 0) (G.1.getD (G.2.1-1) 0)):=by
    intro d n o aN q;refine pH (λG V=>⟨V.1,V.2.1,by lia,V.2.2.2⟩) _ (Ek r w d (h+1) 0 n (by lia) (by lia) (λO j g s=>?_) λO S b=>?_)
    ·by_cases e:j<h
     ·exact o O j g e
     ·obtain rfl:j=h:=by lia
      by_cases az:O=j
      ·subst az;exact r.fc _
      ·rw[aN];exact r.k5 (r.nK Y) (q O (by lia))
    ·obtain rfl:O=h:=by lia
     exact r.fc _
   by_cases l:V > 0
   ·rw[if_pos l]
    refine i _ (wN a _ _) (La r (by lia) ab c f) ?_ λO aB=>?_
    ·rw[qR (by lia),if_neg (by lia)]
    ·rw[qR (by lia)]
     split
     ·exact c _ _ (by lia) (by lia)
     ·exact c _ _ (by lia) (by lia)
   ·rw[if_neg l]
    exact i N a c rfl λO aB=>c _ _ (by lia) (by lia)
  |false=>
   dsimp only;rw[if_neg (by decide)]
   refine⟨oH a (by lia),oH a (by lia),?_⟩
   cases af:lt (N.getD (h-1) 0) (N.getD h 0)with
   |true=>dsimp only;rw[if_pos rfl];exact⟨a,ab,by show h<=h+(w+1);lia,c,f⟩|false=>
    dsimp only;rw[if_neg (by decide)]
    refine pH (λG V=>⟨V.1,V.2.1,by lia,V.2.2.2⟩) _ (Ek r w N (h+1) (V+1) a (by lia) (by lia) (λO j g s=>?_) λO S b=>?_)
    ·by_cases e:j<h
     ·exact c O j g e
     ·obtain rfl:j=h:=by lia
      by_cases az:O=j
      ·subst az;exact r.fc _
      ·exact r.k5 af (c O (j-1) (by lia) (by lia))
    ·show fi lt (N.getD O 0) (N.getD h 0)
     by_cases e:O=h
     ·subst e;exact r.fc _
     ·exact r.k5 (f O (by lia) (by lia)) Y
abbrev El (lt:kX)(z:Nat)(G:Nat×il):Prop:=iY G.2 z/\G.1<=z/\lR lt G.2 G.1
theorem Lb (r:ki lt){N:il}{h:Nat}(a:iY N z)(ab:1<=h)(c:h<=z)(b:qS lt N h):kh lt z (kas_tail3 h z N) (El lt z):=by
 have d:=sx a;refine uH _ (pH (λG V=>?_) _ (Ej r (wN a 0 h) _ h ab (by omega) λO j e f=>?_))
 ·exact⟨wN a 0 h,by show G<=z;omega,V.2.2.1⟩
 ·rw[qR (by omega),qR (by omega),if_pos (by omega),if_pos (by omega)]
  exact b _ _ (by omega) (by omega)
theorem Lc (r:ki lt){N:il}{h:Nat}(d:iY N z)(i:h+1<=z)(e:qS lt N (h+1)):kh lt z (kas_descPart h z N) (El lt z):=by
 refine uH _ (pH (λG V=>?_) _ (Ek r _ N _ 0 d (by lia) (by lia) e λO S b=>?_))
 ·obtain⟨a,f,j,c,g⟩:=V
  have l:=sx a;by_cases I:G.2.2 > 0
  ·rw[if_pos I]
   exact Lb r (wN a _ _) (by lia) (by lia) (La r (by lia) f c g)
  ·rw[if_neg I]
   exact Lb r a (by lia) (by lia) c
 ·obtain rfl:O=h:=by lia
  exact r.fc _
theorem WS (r:ki lt){N:il}(a:iY N z)(n:1<=z):kh lt z (kas_count z N) (El lt z):=by
 have o:=sx a;refine uH _ (pH (λh V=>?_) _ (Ej r a (z-1) 1 (cM _) (by lia) (lR.cN r N)))
 obtain⟨q,s,c,g⟩:=V;by_cases e:h=z
 ·rw[if_pos (by simp[e])];exact⟨a,by show h<=z;lia,c⟩
 ·rw [if_neg (by simp[e])]
  have d:=g (by lia)
  by_cases I:h > 1
  ·rw [if_pos I]
   refine⟨oH a (by lia),oH a (by lia),?_⟩
   cases Q:lt (N.getD 0 0) (N.getD (h-1) 0)with
   |true=>dsimp only;rw[if_pos rfl];exact⟨a,by show h<=z;lia,c⟩|false=>
    dsimp only;rw[if_neg (by decide)]
    have f:∀S b,S<h->b<h->fi lt (N.getD S 0) (N.getD b 0):=λS b t i=>r.k5 (r.k5 (c S (h-1) (by lia) (by lia)) Q) (c 0 b (by lia) i)
    refine Lc r (wN a 0 h) (by lia) λO j l m=>?_
    rw[qR (by lia),qR (by lia)]
    by_cases S:j<h
    ·rw[if_pos (by lia),if_pos (by lia)];exact f _ _ (by lia) (by lia)
    ·obtain rfl:j=h:=by lia
     rw[if_neg (by lia)]
     by_cases b:O<j
     ·rw[if_pos (by lia)];exact r.k5 (r.nK d) (f _ _ (by lia) (by lia))
     ·obtain rfl:O=j:=by lia
      rw[if_neg (by lia)];exact r.fc _
  ·rw[if_neg I]
   obtain rfl:h=1:=by lia
   refine Lc r a (by lia) λO j l m=>?_
   by_cases S:O=j
   ·subst S;exact r.fc _
   ·obtain rfl:O=0:=by lia
    obtain rfl:j=1:=by lia
    exact r.nK d
theorem Em (r:ki lt){N:il}{D:Nat}(a:iY N z)(g:D<z)(c:lR lt N D):∀(w s G:Nat),s<=G->G<=D->G-s<=w->(∀O,O<s->fi lt (N.getD O 0) (N.getD D 0))->(∀O,G<=O->O<D->fi lt (N.getD D 0) (N.getD O 0)) ->
  kh lt z (kas_place N D w s G) (λh=>h<=D/\(∀O,O<h->fi lt (N.getD O 0) (N.getD D 0))/\∀O,h<=O->O<D->fi lt (N.getD D 0) (N.getD O 0))
 |0,s,G,ab,af,br,d,f=>⟨by show s<=D;omega,d,λO S b=>f O (by omega) b⟩|w+1,s,G,ab,af,br,d,f=>by
  unfold kas_place;by_cases e:s ≥ G
  ·rw[if_pos e];exact⟨by show s<=D;omega,d,λO S b=>f O (by omega) b⟩
  ·rw[if_neg e]
   refine⟨oH a g,oH a (by omega),?_⟩
   cases Q:lt (N.getD D 0) _ with
   |true=>
    dsimp only;rw[if_pos rfl];refine Em r a g c w s ((s+G) / 2) (by omega) (by omega) (by omega) d λO S b=>?_
    exact r.k5 (r.nK Q) (c _ _ S b)
   |false=>
    dsimp only;refine Em r a g c w ((s+G) / 2+1) G (by omega) af (by omega) (λO aB=>?_) f
    exact r.k5 (c O ((s+G) / 2) (by omega) (by omega)) Q
theorem Ld (r:ki lt):∀(w:Nat) (N:il) (D:Nat),iY N z->D+w=z->lR lt N D->kh lt z (kas_bin w N D) (λG=>iY G z/\lR lt G z)
 |0,N,D,c,e,a=>⟨c,(show D=z by lia) ▸ a⟩|w+1,N,D,c,e,a=>by
  have i:=sx c;refine uH _ (pH (λs V=>?_) _ (Em r c (by lia) a D 0 D (by lia) (cM _) (by lia) (λO aB=>absurd aB (by lia)) λO S b=>absurd b (by lia)))
  obtain⟨l,f,g⟩:=V;have d:∀O,(bubble N D (D-s)).getD O 0=if O=s then N.getD D 0 else if s<O/\O<=D then N.getD (O-1) 0 else N.getD O 0:=λO=>by
   have:=getElem?_bubble (xs:=N) (src:=D) (by lia) (D-s) (by lia) O
   rw[show D-(D-s)=s by lia]at this
   split
   ·rename_i I;rw[if_pos I]at this;exact wM this
   ·rename_i I
    rw[if_neg I]at this;split
    ·rename_i t;rw[if_pos t]at this;exact wM this
    ·rename_i t;rw[if_neg t]at this;exact wM this
  refine Ld r w _ (D+1) ((I6.mp (bubble_perm N D _)).trans c) (by lia) λO j h m=>?_
  rw[d,d];by_cases aN:O=s
  ·rw[if_pos aN]
   by_cases az:j=s
   ·rw[if_pos az];exact r.fc _
   ·rw[if_neg az,if_pos (by lia)];exact g _ (by lia) (by lia)
  ·rw[if_neg aN]
   by_cases az:j=s
   ·rw[if_pos az,if_neg (by lia)];exact f _ (by lia)
   ·rw[if_neg az]
    by_cases n:s<O
    ·rw[if_pos (by lia),if_pos (by lia)];exact a _ _ (by lia) (by lia)
    ·rw[if_neg (by lia)]
     by_cases o:s<j
     ·rw[if_pos (by lia)];exact a _ _ (by lia) (by lia)
     ·rw[if_neg (by lia)];exact a _ _ h (by lia)
theorem WT (r:ki lt)(a:1<=z):kh lt z (kas_sort z) (λG=>iY G z/\lR lt G z):=by
 refine uH _ (pH (λG V=>?_) _ (WS r (by simp[iY]) a))
 obtain⟨b,d,c⟩:=V;by_cases e:G.1<z
 ·rw[if_pos e]
  refine Ld r _ _ _ b (by lia) ?_
  by_cases aN:G.1=0
  ·rw[aN];exact lR.cN r _
  ·rwa[Nat.max_eq_left (by lia)]
 ·rw[if_neg e]
  obtain e:G.1=z:=by lia
  rw[e]at c;trivial
end
section
variable {prog:cW}{r:cF}{p:dp}{l:aR->aY->Prop}{A:aY}{c:cu}{lt:kX}
def Le (prog:cW)(r:cF)(c:cu)(lt:kX)(A:aY):Prop:=
 ∃eG,(∀(p:dp) (aJ:SortKind->aY->Prop),aJ eG A->bM (model prog r) p (keyKind' c.toArray) aJ (λ_ _=>False) A) /\
  ∀(p:dp) O j (aJ:Bool->aY->Prop),O<c.length->j<c.length->aJ (lt O j) A->kas_ask prog r p eG c O j aJ A
def sy (lt:kX)(z:Nat)(N:bo):Prop:=N.Perm (fl z)/\N.Pairwise (fi lt)
theorem WU {z:Nat}{N:il}(Y:iY N z/\lR lt N z):sy lt z N.toList:=by
 refine⟨Y.1,List.pairwise_iff_getElem.mpr λO j aB b c=>?_⟩
 have d:=sx Y.1;rw[y1]at aB b;have:=Y.2 O j (by lia) (by lia)
 have e:∀D (a:D<N.size),N.getD D 0=N.toList[D]'(by simpa using a):=λD a=>by simp[I8,a]
 rwa[e O aB,e j b]at this
def z3 (b:Nat):Prop:=b<=1000/\∀{prog:cW}{r:cF}{p:dp}{l:aR->aY->Prop}{A:aY}{c:cu}{lt:kX}{eG:SortKind},2<=c.length->c.length<b->ki lt ->
 (∀(p:dp) O j (aJ:Bool->aY->Prop),O<c.length->j<c.length->aJ (lt O j) A->kas_ask prog r p eG c O j aJ A) ->
 bM (model prog r) p ((sortRuns').run (SortSt.mk' eG (c.toArray.zip c.toArray) #[] 7 k)) (λG bc=>bc=A/\∃N:bo,(arrOf G.2).map (·.2)=(N.map λO=>c.getD O kF).toArray/\failedOf G.2=k/\sy lt c.length N) l A
theorem WV:z3 64:=by
 refine⟨by decide,λ{prog r p l A c lt eG} f g h i=>?_⟩
 refine kC (kat_run (Q:=λa bc=>bc=A/\∃N:il,N.size=c.length/\arrOf a=N.map _/\failedOf a=k/\(iY N _/\lR lt N _)) (G:=λN bc=>bc=A/\(iY N _/\lR lt N _))
   rfl f g (λeW a bc j m n b=>⟨b.1,eW,j,m,n,b.2⟩) (K_  (i p) (λN d=>⟨rfl,d⟩) _ (WT h (by lia)))) ?_ λ_ _ e=>e
 rintro⟨⟨⟩,a⟩ bc ⟨rfl,N,d,o,q,s⟩;exact⟨rfl,N.toList,kat_snds rfl o,q,WU s⟩
theorem WW {b:Nat}(o:z3 b){S:aV}{z:Nat}{P:Cr->aY->Prop}(f:A.heap.get? S=E (seqObj "list" c.toArray z))(x:c.length<b)(y:ki lt)
  (hs:2<=c.length->∀aE:Heap,(∀b C,b≠S->A.heap.get? b=E C->aE.get? b=E C)->Le prog r c lt {A with heap:=aE})
  (V:∀(aE:Heap) Q (N:bo),(∀b C,b≠S->A.heap.get? b=E C->aE.get? b=E C)->sy lt c.length N->aE.get? S=E (seqObj "list" (N.map λO=>c.getD O kF).toArray Q)->P (.done (.ret .none)) {A with heap:=aE}):
  bM (model prog r) p (rE.«list.sort» ⟨[.ref S],[]⟩) P l A:=by
 have M:=o.1;have R:S<A.heap.objs.size:=eK f;have bh:=Jo A.heap S (j9 λ_=>(#[]:Array aR))
 obtain⟨aN,q⟩:∃aN,(A.heap.update S (j9 λ_=>(#[]:Array aR))).get? S=E (seqObj "list" #[] aN):=⟨_,get?_update_seq f λ_=>#[]⟩
 have i:∀b C,b≠S->A.heap.get? b=E C->(((A.heap.update S (j9 λ_=>(#[]:Array aR))).push (seqObj "tuple" c.toArray 0)).push (seqObj "list" #[] 0)).get? b=E C:=λb C g e=>
  el _ (el _ ((bh.2 b g).trans e))
 have h:(((A.heap.update S (j9 λ_=>(#[]:Array aR))).push (seqObj "tuple" c.toArray 0)).push (seqObj "list" #[] 0)).get? S=E (seqObj "list" #[] aN):=el _ (el _ q)
 rw[list_sort_plain];refine bK (listItems_at f rfl ?_);refine bK (listUpdate_at f rfl ?_ (by rw[eQ,sizeLine_eq];lia) (jl _))
 refine bK (seqEpoch_at q rfl ?_);refine bK (wpAny_newTuple ?_ (by show c.length<=_;rw[sizeLine_eq];lia))
 refine bK (wpAny_newList ?_ (jl _));refine wpAny_holding ?_;show bM (model prog r) p _ P l {A with heap:=((A.heap.update S (j9 λ_=>(#[]:Array aR))).push (seqObj "tuple" c.toArray 0)).push (seqObj "list" #[] 0)}
 generalize T:((A.heap.update S (j9 λ_=>(#[]:Array aR))).push (seqObj "tuple" c.toArray 0)).push (seqObj "list" #[] 0)=af at i h
 dsimp only
 have t:∀(a:SortSt) (N:bo),(arrOf a).map (·.2)=(N.map λO=>c.getD O kF).toArray->failedOf a=k->sy lt c.length N->bM (model prog r) p (do
   let B:=(<- seqEpoch S) != aN
   Rf (.ref S) λ_=>(arrOf a).map (·.2)
   if let E e:=failedOf a then rule "list.sort.comparison-raised";throw e
   if B then rule "list.sort.modified";raiseError "ValueError" "list modified during sort"
   ret .none) P l {A with heap:=af}:=by
  intro a N j m u;rw[j,m];have D:(vK (N.map λO=>c.getD O kF)).size=c.length:=by rw[eQ,ct,u.1.length_eq,qk]
  have bj:=Jo af S (j9 λ_=>vK (N.map λO=>c.getD O kF))
  obtain⟨n,F⟩:∃n,(af.update S (j9 λ_=>vK (N.map λO=>c.getD O kF))).get? S=E (seqObj "list" (vK (N.map λO=>c.getD O kF)) n):=⟨_,get?_update_seq h λ_=>vK (N.map λO=>c.getD O kF)⟩
  refine bK (seqEpoch_at (s:={A with heap:=af}) h rfl ?_);refine bK (listUpdate_at (s:={A with heap:=af}) h rfl ?_ (jl _) (jP (tR D) (by rw[sizeLine_eq];lia)))
  simp only[bne_self_eq_false,Bool.false_eq_true,if_false];exact dx (V _ n N (λb C g e=>(bj.2 b g).trans (i b C g e)) u F)
 by_cases v:2<=c.length
 ·have d:¬c.toArray.size<2:=by rw[eQ];lia
  rw[if_neg d,if_neg d];obtain⟨eG,G,I⟩:=hs v af i;refine bK (kC (G p (λw bc=>w=eG/\bc={A with heap:=af}) ⟨rfl,rfl⟩) (λw U J=>?_) λ_ _ X=>X.elim)
  obtain⟨rfl,rfl⟩:=J;refine bK (kC (o.2 v x y I) ?_ λ_ _ e=>e)
  rintro⟨⟨⟩,a⟩ bc ⟨rfl,N,j,m,K⟩;exact t a N j m K
 ·have d:c.toArray.size<2:=by rw[eQ];lia
  rw[if_pos d,if_pos d];refine bK (dx ?_);refine bK (dx ?_);refine t _ (fl c.length) ?_ rfl ⟨Jr _,?_⟩
  ·show((c.toArray.zip c.toArray).map (·.2))=_
   apply y2.mp;rw[Array.toList_map,Array.toList_zip];have e:∀s:cu,(s.zip s).map (·.2)=s:=λs=>by
    induction s with
    |nil=>rfl|cons X s L=>rw[j7,eR,L]
   show(c.zip c).map (·.2)=(fl c.length).map λO=>c.getD O kF
   rw[e];apply Cy;intro O;by_cases aB:O<c.length
   ·simp[aB]
   ·simp[yv,aB,IH aB]
  ·rcases(show c.length=0\/c.length=1 by lia)with e |e
   ·rw[e];exact .nil
   ·rw[e];exact List.pairwise_singleton _ _
theorem WX {b:Nat}(g:z3 b){s:aV}{q:aR->aY->Prop}(j:A.heap.IsList s c.toArray)(n:c.length<b)(o:ki lt)
  (hs:2<=c.length->∀aE:Heap,(∀b C,A.heap.get? b=E C->aE.get? b=E C)->Le prog r c lt {A with heap:=aE})
  (V:∀(aE:Heap) Q (N:bo),(∀b C,A.heap.get? b=E C->aE.get? b=E C)->sy lt c.length N->aE.get? (A.heap.objs.size+1)=E (seqObj "list" (N.map λO=>c.getD O kF).toArray Q)->q (.ref (A.heap.objs.size+1)) {A with heap:=aE}):
  bM (model prog r) p (call (.builtin "sorted") [.ref s]) q l A:=by
 have w:=g.1;refine Calls.call_function_entry kind_sorted plain_sorted entry_sorted (args_sorted1 _) ?_;unfold rE.«sorted»;refine bK (m:=checkCount "sorted" 1 1 _) (dx ?_);refine bK (collect_list j ?_ (by rw[sizeLine_eq];lia))
 refine bK (wpAny_newList ?_ (by rw[sizeLine_eq];lia))
 have d:((A.heap.push (seqObj "list" #[] 0)).update A.heap.objs.size (j9 (·++c.toArray))).objs.size=A.heap.objs.size+1:=by
  rw[Heap.size_update,size_push']
 have h:(((A.heap.push (seqObj "list" #[] 0)).update A.heap.objs.size (j9 (·++c.toArray))).push (seqObj "list" c.toArray 0)).get? (A.heap.objs.size+1)=E (seqObj "list" c.toArray 0):=by
  rw[<- d];exact gf _ rfl
 have t:∀b C,A.heap.get? b=E C->(((A.heap.push (seqObj "list" #[] 0)).update A.heap.objs.size (j9 (·++c.toArray))).push (seqObj "list" c.toArray 0)).get? b=E C:=λb C V=>by
  have f:b<A.heap.objs.size:=eK V;rw[IC _ _ _ (by rw[d];exact gg (vN f)),Heap.get?_update_ne _ _ _ _ (gg f),IC _ _ _ (gg f)]
  exact V
 show bM _ _ _ _ _ {A with heap:=((A.heap.push (seqObj "list" #[] 0)).update A.heap.objs.size (j9 (·++c.toArray))).push (seqObj "list" c.toArray 0)}
 rw[d];have i:∀(aE:Heap),(∀b C,b≠A.heap.objs.size+1->(((A.heap.push (seqObj "list" #[] 0)).update A.heap.objs.size (j9 (·++c.toArray))).push (seqObj "list" c.toArray 0)).get? b=E C->aE.get? b=E C)->∀b C,A.heap.get? b=E C->aE.get? b=E C:=λaE a b C e=>
  a b C (gg (vN (eK e))) (t b C e)
 refine bK (wpAny_holding (wpAny_call_entry slot_list_sort ⟨_,h,rfl⟩ entry_list_sort ?body (args_list_sort _)))
 case body=>
  refine WW g (A:={A with heap:=((A.heap.push (seqObj "list" #[] 0)).update A.heap.objs.size (j9 (·++c.toArray))).push (seqObj "list" c.toArray 0)}) h n o (λaf aE a=>hs af aE (i aE a)) λaE Q N a u v=>?_
  exact⟨_,rfl,dx ⟨_,rfl,V aE Q N (i aE a) u v⟩⟩
end
noncomputable def kj:aL->Nat |.d _=>1 |.f _=>2 |_=>0
noncomputable def uI:aL->aL->Bool |.d S,.d b=>decide (S<b)|.f S,.f b=>decide (S.cps.toList<b.cps.toList)|_,_=>ax
noncomputable def sz:aL->aL->Bool |.d S,.d b=>S == b |.f S,.f b=>decide (S=b)|_,_=>ax
def sA:a3->a3->Bool
 |X::m,t::aS=>if sz X t then sA m aS else uI X t
 |_,_=>ax
section
variable {prog:cW}{r:cF}{p:dp}{l:aR->aY->Prop}{A:aY}{q:Bool->aY->Prop}
theorem sC {X:aL}(Y:kj X≠0):(∃O,X=.d O)\/∃I,X=.f I:=by
 cases X<;>first |exact .inl ⟨_,rfl⟩|exact .inr ⟨_,rfl⟩|exact absurd rfl Y
theorem Lf {X t:aL}{u v:aR}{b:Bool}(d:cc X u)(f:cc t v)(a:kj X=kj t)(c:kj X≠0)(V:q (uI X t) A):bM (model prog r) p (oneLt' b u v) q l A:=by
 rcases sC c with⟨O,rfl⟩|⟨I,rfl⟩
 ·rcases sC  (λe=>c (a.trans e))with⟨j,rfl⟩|⟨I,rfl⟩
  ·obtain⟨n,rfl⟩:=d
   obtain⟨g,rfl⟩:=f;cases b with
   |true=>exact oneLt_int V|false=>exact kat_one _ _ (Q_ V)
  ·cases a
 ·rcases sC  (λe=>c (a.trans e))with⟨j,rfl⟩|⟨h,rfl⟩
  ·cases a
  ·obtain⟨n,rfl⟩:=d
   obtain⟨g,rfl⟩:=f;cases b with
   |true=>exact oneLt_str V|false=>exact kat_one _ _ (Ra V)
theorem WY {X t:aL}{u v:aR}(c:cc X u)(d:cc t v)(a:kj X=kj t)(b:kj X≠0)(V:q (sz X t) A):bM (model prog r) p (eqBool u v) q l A:=by
 rcases sC b with⟨O,rfl⟩|⟨I,rfl⟩
 ·rcases sC  (λe=>b (a.trans e))with⟨j,rfl⟩|⟨I,rfl⟩
  ·obtain⟨n,rfl⟩:=c
   obtain⟨f,rfl⟩:=d;exact wpAny_eqBool_int V
  cases a
 ·rcases sC  (λe=>b (a.trans e))with⟨j,rfl⟩|⟨g,rfl⟩
  ·cases a
  ·obtain⟨n,rfl⟩:=c
   obtain⟨f,rfl⟩:=d;exact wpAny_eqBool_str V
theorem Lg {b:Bool}:∀{m aS:a3}{aa c:cu}(O:Nat),b3 m aa->b3 aS c->m.map kj=aS.map kj->(0:Nat)∉m.map kj->q (sA m aS) A->KatLex prog r p b ax q (aa.zip c) O A
 |[],[],_,_,O,.nil,.nil,_,_,V=>V|X::m,[],_,_,O,_,_,a,_,_=>by simp at a
 |[],X::m,_,_,O,_,_,a,_,_=>by simp at a
 |X::m,t::aS,_,_,O,.cons f G,.cons g j,a,d,V=>by
  injection a with h l;rw[eR]at d;have i:kj X≠0:=λe=>d (by rw[e];exact ek ..)
  rw[j7];refine kat_cons (WY f g h i (kat_go (λe=>kat_yes ?_) λe=>kat_no ?_))
  ·refine Lg (O+1) G j l (λe=>d (fM _ e)) ?_
   unfold sA at V;simp_all
  ·refine Lf f g h i ?_
   unfold sA at V;simp_all
end
def uJ (J:bD)(R:aj)(aS:a3)(lt:kX):Prop:=
 (∃D,D≠0/\(∀t∈aS,kj t=D)/\∀O j X t,aS[O]?=E X->aS[j]?=E t->lt O j=uI X t) \/
 (∃(a:Nat->a3) (b:bo),b≠[]/\0∉b/\(∀O t,aS[O]?=E t->∃S,t=.a0 S/\fx J R S (a O)/\(a O).map kj=b)/\∀O j,O<aS.length->j<aS.length->lt O j=sA (a O) (a j))
def uK (b:Nat)(J:bD):List aL->aj->bX->Prop:=λm R q=>match m with
 |[.a0 N]=>∃aS lt,dG J R N aS/\aS.length<b/\ki lt/\uJ J R aS lt/\∀a,sy lt aS.length a->∀s,R s=k->q (.a0 s) (b8 R s (.aG (a.map λO=>aS.getD O .a9)))|_=>False
noncomputable def sD (D:Nat):aR:=if D=1 then .type "int" else .type "str"
theorem Lh {a:Model}{Y:Heap}{X:aL}{u:aR}{D:Nat}(G:cc X u)(b:kj X=D)(c:D≠0):Looks a Y (typeOf u) (sD D):=by
 subst b;rcases sC c with⟨O,rfl⟩|⟨I,rfl⟩
 ·obtain⟨n,rfl⟩:=G
  exact .now
 ·obtain⟨n,rfl⟩:=G
  exact .now
theorem Li (D:Nat):(sD D != pj "tuple")=ae:=by unfold sD;split<;>decide +kernel
theorem Lj (D:Nat):(sD D == sD D)=ae:=by grind
theorem wO {aS:a3}{aa:cu}(G:b3 aS aa){O:Nat}(Y:O<aa.length):∃t,aS[O]?=E t/\cc t (aa.getD O kF)/\t∈aS:=by
 have b:=b3.dB G;have e:aS[O]?=E aS[O]:=gd _;obtain⟨u,a,c⟩:=b3.gQ G e;refine⟨_,e,?_,rH _⟩;rwa[mL,a]
theorem Lk {aS:a3}{aa:cu}(G:b3 aS aa):∀(a:bo),(∀O∈a,O<aa.length)->b3 (a.map λO=>aS.getD O .a9) (a.map λO=>aa.getD O kF)
 |[],_=>.nil|O::a,Y=>by
  obtain⟨t,e,c,_⟩:=wO G (Y O (ek ..));refine .cons ?_ (Lk G a λj b=>Y j (fM _ b))
  show cc (aS.getD O _) _
  rwa[mL,e]
section
variable {H:bQ}
theorem WZ {b:Nat}(am:z3 b):iG H (.builtin "sorted") (uK b H.J):=by
 have a1:=am.1;intro ag A o R m aa q r G Y;unfold uK at Y;split at Y
 ·rename_i N
  obtain⟨aS,lt,au,a2,aw,ay,V⟩:=Y;obtain⟨u,rfl,J⟩:=mg G;cases J;obtain⟨c,i,aA,a3⟩:=r.dV au;have aC:=b3.dB i;refine WX am aA.isList (by lia) aw (λaf aE K=>?_) λaE Q x K aB f=>?_
  ·rcases ay with⟨D,a,B,L⟩|⟨P,U,aD,an,aF,L⟩
   ·refine⟨oneType',λp aJ d=>?_,λp O j aJ aB W d=>?_⟩
    ·refine kas_kind af (T:=sD D) (λv g=>?_) (Li D) (Lj D) d
     obtain⟨O,aB⟩:=H9.mp g;obtain⟨Z,_⟩:=hF.mp aB;obtain⟨t,_,l,ab⟩:=wO i Z;rw[mL,aB]at l;exact Lh l (B t ab) a
    ·obtain⟨X,aW,J,ao⟩:=wO i aB
     obtain⟨t,aG,l,ab⟩:=wO i W;rw[L O j X t aW aG]at d;unfold kas_ask;rw[keyLt'_oneType];exact Lf J l (by rw[B X ao,B t ab]) (by rw[B X ao];exact a) d
   ·have ac:∀O,O<c.length->∃(S:aV) (C:iU) (iF:cu) (z:Nat),c[O]?=E (.ref S)/\aE.get? S=E C/\C.cls=.type "tuple" /\ C.data=.seq iF.toArray z/\b3 (P O) iF/\(P O).map kj=U:=λO aB=>by
     obtain⟨t,e,l,_⟩:=wO i aB;obtain⟨S,rfl,aH,a⟩:=aF O t e;obtain⟨iF,h,⟨C,f,F,z,n⟩,_⟩:=r.gj aH;refine⟨S,C,iF,z,?_,K _ _ f,F,n,h,a⟩;have:c.getD O kF=.ref S:=l;grind
    obtain⟨D,I,rfl⟩:∃D I,U=D::I:=by
     cases U with
     |nil=>exact absurd rfl aD|cons D I=>exact⟨D,I,rfl⟩
    have aI:D≠0:=λe=>an (by rw[e];exact ek ..)
    refine⟨tuples' ae,λp aJ d=>?_,λp O j aJ aB W d=>?_⟩
    ·have aK:∀(s:cu) (y:Nat),c.drop y=s->∃av,KatTups aE s av/\av.length=s.length/\∀v∈av,Looks (model H.cb H.r) aE (typeOf v) (sD D):=by
      intro s;induction s with
      |nil=>intro y _;exact⟨[],.nil,rfl,λv g=>by cases g⟩
      |cons v s aM=>
       intro y n;have ah:y<c.length:=by
        have:=congrArg ma n;rw[qm,ee]at this;lia
       obtain⟨S,C,iF,z,e,f,F,aN,h,a⟩:=ac y ah;have az:c.drop y=c[y]::c.drop (y+1):=rF ah;rw[n]at az;injection az with aP aQ;obtain⟨av,aj,ap,ak⟩:=aM (y+1) aQ.symm;rw[gd ah]at e;injection e with e;rw[aP,e];cases aq:P y with
       |nil=>rw[aq]at a;simp at a|cons X a4=>
        rw[aq]at h a;cases h with
        | @cons _ w _ a5 aR kc=>
         rw[eR]at a;injection a with aT al;refine⟨w::av,.cons f F aN (by simp) aj,by simp[ap],λv g=>?_⟩
         rcases df.mp g with rfl |g
         ·exact Lh aR aT aI
         ·exact ak v g
     obtain⟨av,aj,ap,ak⟩:=aK c 0 rfl;have:=kat_kind (M:=model H.cb H.r) (A:=p) (E:=λ_ _=>False) (s:={A with heap:=aE}) (Q:=aJ) aj (by lia) ak (Lj D) (by rw[Li];exact d)
     exact this
    ·obtain⟨S,C,iF,z,e,f,F,n,h,a⟩:=ac O aB
     obtain⟨aU,a6,ar,dC,az,aX,a7,aY,as,al⟩:=ac j W;unfold kas_ask;rw[mL,mL,e,az];have aZ:iF.length=ar.length:=by
      have a8:=b3.dB h;have aU:=b3.dB as;have:=congrArg ma (a.trans al.symm);rw[ct,ct]at this;lia
     refine kat_lt (s:={A with heap:=aE}) f n aX aY ?_;rw[show decide (iF.toArray.size<ar.toArray.size)=ax from decide_eq_false (by simp[aZ])]
     refine Lg 0 h as (a.trans al.symm) (by rw[a];exact an) ?_
     rw[<- L O j (by lia) (by lia)]
     exact d
  ·refine⟨.a0 (A.heap.objs.size+1),_,r.gR (C:=.aG (x.map λO=>aS.getD O .a9)) (d:=A.toks) K (oe _) ?_,rfl,V x (by rwa[aC]) _ (r.cA.fm (oe _))⟩
   have a0:∀O∈x,O<c.length:=λO Z=>lD.mp (aB.1.mem_iff.mp Z)
   refine⟨?_,_,Q,Lk i x a0,f⟩;rw[ct,aB.1.length_eq,qk,sizeLine_eq];lia
 ·exact Y.elim
variable {ay cQ:Type}
structure lS (lt:ay->ay->Bool):Prop where
 nK:∀{S b},lt S b=ae->lt b S=ax
 k5:∀{S b Q},lt b S=ax->lt Q b=ax->lt Q S=ax
 z4:∀{S b},lt S b=ax->lt b S=ax->S=b
noncomputable def kk (lt:ay->ay->Bool)(m:List ay):List ay:=m.mergeSort (λS b=>!lt b S)
theorem z5 (lt:ay->ay->Bool)(m:List ay):(kk lt m).Perm m:=List.mergeSort_perm _ _
theorem lS.W0 {lt:ay->ay->Bool}(C:lS lt)(S:ay):lt S S=ax:=by
 cases Y:lt S S with
 |false=>rfl|true=>rw[<- Y];exact C.nK Y
theorem Ll {lt:ay->ay->Bool}(C:lS lt)(m:List ay):(kk lt m).Pairwise λS b=>lt b S=ax:=by
 have:=List.pairwise_mergeSort (le:=λS b=>!lt b S) (λS b Q ab af=>by simp only[Bool.not_eq_true']at *;exact C.k5 ab af) (λS b=>by
  cases Y:lt b S with
  |false=>simp|true=>simp[C.nK Y]) m
 exact this.imp (λY=>by simpa using Y)
theorem Lm {lt:ay->ay->Bool}(C:lS lt):∀{aD aS:List ay},aD.Perm aS->aD.Pairwise (λS b=>lt b S=ax)->aS.Pairwise (λS b=>lt b S=ax)->aD=aS
 |[],aS,a,_,_=>by simp_all
 |r::aD,[],a,_,_=>by simp_all
 |r::aD,t::aS,a,ab,af=>by
  obtain⟨f,g⟩:=Cx.mp ab;obtain⟨k2,kK⟩:=Cx.mp af;have e:r=t:=by
   have c  := a.mem_iff.mp (ek ..);have d  := a.mem_iff.mpr (ek ..);rcases df.mp c with e |c
   ·exact e
   ·rcases df.mp d with e |d
    ·exact e.symm
    exact C.z4 (k2 r c) (f t d)
  subst e;rw[Lm C (List.Perm.cons_inv a) g kK]
theorem z6 {lt:ay->ay->Bool}(C:lS lt){aD m:List ay}(a:aD.Perm m)(c:aD.Pairwise λS b=>lt b S=ax):aD=kk lt m:=
 Lm C (a.trans (z5 lt m).symm) c (Ll C m)
noncomputable def sE (S b:Int):Bool:=decide (S<b)
noncomputable def sF [DecidableEq ay](s:ay->ay->Bool)(h:cQ->cQ->Bool)(X t:ay×cQ):Bool:=if X.1=t.1 then h X.2 t.2 else s X.1 t.1
theorem qT:lS sE:=by
 unfold sE;refine⟨λY=>?_,λY aE=>?_,λY aE=>?_⟩<;>simp only[decide_eq_true_eq,decide_eq_false_iff_not]at*<;> lia
theorem Ln [DecidableEq ay]{s:ay->ay->Bool}{h:cQ->cQ->Bool}(a:lS s)(c:lS h):lS (sF s h):=by
 unfold sF;refine⟨λ{S b} Y=>?_,λ{S b Q} Y aE=>?_,λ{S b} Y aE=>?_⟩
 ·by_cases e:S.1=b.1
  ·rw[if_pos e]at Y;rw[if_pos e.symm];exact c.nK Y
  rw[if_neg e]at Y;rw[if_neg (λI=>e I.symm)];exact a.nK Y
 ·by_cases e:b.1=S.1
  ·rw[if_pos e]at Y
   by_cases az:Q.1=b.1
   ·rw[if_pos az]at aE;rw[if_pos (az.trans e)];exact c.k5 Y aE
   ·rw[if_neg az]at aE;rwa[if_neg (λI=>az (I.trans e.symm)),<- e]
  ·rw[if_neg e]at Y
   by_cases az:Q.1=b.1
   ·rwa[if_neg (λI=>e (az.symm.trans I)),az]
   ·rw[if_neg az]at aE
    by_cases d:Q.1=S.1
    ·exfalso
     rw[d]at aE;exact e (a.z4 Y aE)
    rw[if_neg d];exact a.k5 Y aE
 ·by_cases e:S.1=b.1
  ·rw[if_pos e]at Y;rw[if_pos e.symm]at aE
   exact C1 e (c.z4 Y aE)
  ·rw[if_neg e]at Y;rw[if_neg (λI=>e I.symm)]at aE
   exact absurd (a.z4 Y aE) e
variable {fq:Type}{J:bD}{l:b4}
def En (T:fP ay)(D:Nat)(lt:ay->ay->Bool):Prop:=D≠0/\∀S v F,T.bp S v F->kj v=D/\∀b u a4,T.bp b u a4->uI v u=lt S b/\(sz v u=ae↔S=b)
theorem Lo:En uA 1 sE:=by
 refine⟨by decide,λS v F Y=>?_⟩
 subst Y;refine⟨rfl,λb u a4 aE=>?_⟩
 subst aE;exact⟨rfl,by simp[sz]⟩
def z7 (aJ:m1 fq)(a:bo)(lt:fq->fq->Bool):Prop:=a≠[]/\0∉a/\∀Q c F,aJ.bp Q c F->c.map kj=a/\∀y aa a4,aJ.bp y aa a4->sA c aa=lt Q y
theorem W2 {T:fP ay}{D:Nat}{lt:ay->ay->Bool}(w:En T D lt)(C:lS lt):z7 (zV T) [D] lt:=by
 refine⟨by simp,λY=>w.1 (fv.mp Y).symm,?_⟩
 rintro Q c F ⟨v,rfl,a⟩;obtain⟨e,g⟩:=w.2 Q v F a;refine⟨by rw[List.map_singleton,e],?_⟩
 rintro y aa a4 ⟨u,rfl,b⟩;obtain⟨d,f⟩:=g y u a4 b;show(if sz v u=ae then ax else uI v u)=_
 by_cases I:sz v u=ae
 ·rw[if_pos I,f.mp I];exact(C.W0 y).symm
 rw[if_neg I,d]
theorem W3 [DecidableEq ay]{T:fP ay}{aJ:m1 fq}{D:Nat}{b:bo}{lt:ay->ay->Bool}{a:fq->fq->Bool}(w:En T D lt)(s:z7 aJ b a):z7 (K0 T aJ) (D::b) (sF lt a):=by
 refine⟨by simp,λY=>?_,?_⟩
 ·rcases df.mp Y with Y |Y
  ·exact w.1 Y.symm
  ·exact s.2.1 Y
 ·rintro Q c F ⟨v,aa,rfl,d,f⟩
  obtain⟨e,g⟩:=w.2 Q.1 v F d;obtain⟨az,j⟩:=s.2.2 Q.2 aa F f;refine⟨by rw[eR,e,az],?_⟩
  rintro y aD a4 ⟨u,h,rfl,i,l⟩;obtain⟨m,n⟩:=g y.1 u a4 i;show(if sz v u=ae then sA aa h else uI v u)=sF lt a Q y
  unfold sF;grind
theorem Eo {T:fP ay}{R:aj}:∀{m:List ay}{c:a3},fy T R m c->∀(O:Nat) (v:aL),c[O]?=E v->∃X,m[O]?=E X/\T.bp X v R
 |_,_,.nil,O,v,e=>by simp at e
 |_,_,.cons S n,0,v,e=>by simp at e;subst e;exact⟨_,rfl,S⟩
 |_,_,.cons S n,O+1,v,e=>Eo n O v (by simpa using e)
theorem Lp {T:fP ay}{R:aj}{m:List ay}{c:a3}(G:fy T R m c)(y:ay):∀(a:bo),(∀O∈a,O<c.length)->fy T R (a.map λO=>m.getD O y) (a.map λO=>c.getD O .a9)
 |[],_=>.nil|O::a,Y=>by
  have aB:=Y O (ek ..);obtain⟨X,e,d⟩:=Eo G O c[O] (gd aB);refine .cons ?_ (Lp G y a λj b=>Y j (fM _ b))
  grind
theorem W4 {lt:ay->ay->Bool}(C:lS lt){m:List ay}{y:ay}{a:bo}(Y:sy (λO j=>lt (m.getD O y) (m.getD j y)) m.length a):(a.map λO=>m.getD O y)=kk lt m:=by
 refine z6 C ?_ ?_
 ·have e:(fl m.length).map (λO=>m.getD O y)=m:=by
   apply Cy;grind
  have:=Y.1.map (λO=>m.getD O y)
  rwa[e]at this
 ·exact tP.mpr (Y.2.imp λV=>V)
theorem W5 {lt:ay->ay->Bool}(C:lS lt)(w:Nat->ay):ki λO j=>lt (w O) (w j):=⟨C.nK,C.k5⟩
theorem W6 {b:Nat}(g:0<b){T:fP ay}{lt:ay->ay->Bool}(C:lS lt)(h:∀(y:ay) (m:List ay) (c:a3) (F:aj),fy T F m c->uJ J F c λO j=>lt (m.getD O y) (m.getD j y))(i:∀{F R:aj}{c s},bu F R->uJ J F c s->uJ J R c s):
  zZ J (uK b J) l (zV (zW T)) (λs=>.dW (s.length<b) (.i (kk lt s))) (wI T):=by
 rintro Q c F R q a ⟨v,rfl,N,aa,rfl,Y,G⟩ V;obtain⟨u,V⟩:=V.dW;have d:=Paired.length G;cases Q with
 |nil=>
  cases G;refine⟨[],λ_ _=>ax,.of (a _ _ Y),g,⟨(λY=>rfl),(λ_ _=>rfl)⟩,.inl ⟨1,by decide,(λt n=>by cases n),(λO j X t e=>by simp at e)⟩,λf aB s d=>?_⟩
  have  := by have:=aB.1.length_eq;simpa using this
  subst this;rw[show kk lt _=[] by simp[kk]]at V
  exact K3 a d  .nil V
 |cons X m=>
  refine⟨aa,λO j=>lt _ _,.of (a _ _ Y),by lia,W5 C _,i a (h X _ aa F G),λf aB s o=>?_⟩
  rw[<- d]at aB;rw[<- (W4 C aB)]at V;refine K3 a o (Lp G X f λO r=>?_) V
  have:=lD.mp (aB.1.mem_iff.mp r);lia
theorem W7 {F R:aj}{c:a3}{s:kX}(a:bu F R)(Y:uJ J F c s):uJ J R c s:=by
 rcases Y with Y |⟨d,f,S,b,Q,y⟩
 ·exact .inl Y
 ·refine .inr ⟨d,f,S,b,λO t e=>?_,y⟩
  obtain⟨N,aN,az,g⟩:=Q O t e;exact⟨N,aN,a.a_ az,g⟩
theorem W8 {b:Nat}{aJ:m1 fq}{f:bo}{lt:fq->fq->Bool}(s:z7 aJ f lt)(C:lS lt)(h:0<b:=by decide):zZ J (uK b J) l (zV (zW (Eb aJ))) (λs=>.dW (s.length<b) (.i (kk lt s))) (wI (Eb aJ)):=by
 refine W6 h C (λy m c F G=>?_) W7
 have a:∀O:Nat,∃a:a3,∀t:aL,c[O]?=E t->∃(S:aV) (Q:fq),m[O]?=E Q/\t=aL.a0 S/\fx J F S a/\aJ.bp Q a F:=λO=>by
  cases e:c[O]? with
  |none=>exact⟨[],λt Y=>by cases Y⟩|some t=>
   obtain⟨X,aW,N,aa,rfl,i,d⟩:=Eo G O t e;refine⟨aa,λr Y=>?_⟩
   injection Y with Y;subst Y;exact⟨N,X,aW,rfl,.of i,d⟩
 refine .inr ⟨λO=>Classical.choose (a O),f,s.1,s.2.1,λO t e=>?_,λO j aB n=>?_⟩
 ·obtain⟨S,Q,ec,rfl,g,d⟩:=CV (a O) t e
  exact⟨S,rfl,g,(s.2.2 Q _ F d).1⟩
 ·obtain⟨S,Q,ec,_,g,d⟩:=CV (a O) _ (gd aB)
  obtain⟨pI,cR,o,_,u,q⟩:=CV (a j) _ (gd n);show lt _ _=_
  rw[mL,mL,ec,o];exact((s.2.2 Q _ F d).2 cR _ F q).symm
end
end L2
universe u
namespace L2
open PySem PySem.Spec PyProof.Rows
open PySem PySem.Spec PyProof.Rows PySem.W
section
variable {prog:cW}{r:cF}{p:dp}{l:aR->aY->Prop}{A:aY}{T:String}{kc c_:aV}{z:Nat}{jb:Nat->aR->Prop}{Lq:Heap->Prop}
theorem W9 {bp:cu->aY->Prop}(h:KdlSrc prog r T kc c_ z jb Lq)(m:p.handled=k)(i:Lq A.heap)(n:z<=cw)
  (j:∀(aE:Heap) (c:Nat) (a:g5),A.heap.objs.size<aE.objs.size->(∀b C,A.heap.get? b=E C->aE.get? b=E C)->ItemsOf jb a z->bp a.toList {A with heap:=aE,toks:=c}):
  bM (model prog r) p (collect (.ref kc)) bp l A:=by
 obtain⟨o,q⟩:=h.there _ i;unfold collect;refine bK (wpAny_runValue (codeAny_builtin entry_proto_collect' ?_));rw[Around.under_plainId PySem.F.plain_proto_collect _];show bM _ p.in1 (newList []>>=λs=>again (.builtin "list.__iadd__" ⟨[s,.ref kc],[]⟩)) _ _ A;refine bK (wpAny_newObj_type ?_)
 refine dx ⟨plainId_quiet Je _,codeAny_builtin entry_list_iadd' ?_⟩;rw[Around.under_plainId Je _];have u:(A.heap.push {cls:=.type "list",data:=.seq ([]:List aR).toArray}).get? A.heap.objs.size=E {cls:=.type "list",data:=.seq #[]}:=gf _ rfl;show bM _ p.in1 (Rd (.ref A.heap.objs.size) (.ref kc) (.ref A.heap.objs.size)) _ _ _
 have v:=kdl_extend (A:=p) (s:={A with heap:=A.heap.push {cls:=.type "list",data:=.seq ([]:List aR).toArray}})
  (R:=λ(V:Result) (bc:aY)=>∃(aE:Heap) (c:Nat) (a:g5) (Q:Nat),V=.ok (.ret (.ref A.heap.objs.size))/\bc={A with heap:=aE,toks:=c}/\(∀b C,A.heap.get? b=E C->aE.get? b=E C)/\aE.get? A.heap.objs.size=E {cls:=.type "list",dict:=k,data:=.seq a Q,slots:=#[]}/\ItemsOf jb a z)
  h m (h.keep _ _ i λb _ C e=>el _ e) A.heap.objs.size (rN o) (rN q) (.ref A.heap.objs.size) 0 u
  (λaE c a Q f d g=>⟨aE,c,a,Q,rfl,rfl,λb C e=>f b C (gg (eK e)) (el _ e),d,g⟩) n
 refine kC v (λx bc X=>?_) λe bc X=>?_
 ·cases x with
  |done w=>
   obtain⟨aE,c,a,Q,e,rfl,f,d,g⟩:=X;cases e;show bM _ p (load A.heap.objs.size>>=_) _ _ _
   exact bK (wpAny_load d (dx (j aE c a (eK d) f g)))
  |again B=>
   refine⟨X.1,codeAny_mono X.2 λV bj t=>?_⟩;obtain⟨aE,c,a,Q,rfl,rfl,f,d,g⟩:=t
   show bM _ p (load A.heap.objs.size>>=_) _ _ _;exact bK (wpAny_load d (dx (j aE c a (eK d) f g)))
 ·obtain⟨_,_,_,_,y,_⟩:=X;cases y
end
section
theorem Lr {P:cW}{r:cF}{D:d9}{u:aR}(Y:(kG P r).is D u=ae):cc (h3 D) u:=by
 rcases oi Y with⟨O,n,rfl,rfl⟩|⟨X,n,rfl,rfl⟩<;>exact⟨_,rfl⟩
end
structure uL (I eL to O j:aV)(w g:jT):Prop where
 Ls:eL≠I
 sG:to≠I
 z8:O≠I
 Ep:j≠I
 W_:eL≠to
 Xa:eL≠O
 Xb:eL≠j
 Lu:to≠O
 Xc:to≠j
 k2:O≠j
 kK:I∉w
 Er:I∉g
 Lv:to∉w
 Es:to∉g
 Xd:j∉w
 Lw:O∉g
section
variable {prog:cW}{r:cF}{p:dp}{l:aR->aY->Prop}{A:aY}{I eL to O j:aV}{w g:jT}{ez dC D:Nat}{uM pJ:Nat->aR->Prop}{nL oI:Nat->Heap->Prop}{S b:aR}
theorem Xe {q:aR->aY->Prop}(N:Draws prog r p O w ez uM nL)(P:Draws prog r p j g dC pJ oI)(a:uL I eL to O j w g)
  (o:IsZip A.heap I eL to .none) (aq:ij A.heap eL (.ref O) (.ref j)) (ar:ij A.heap to S b) (as:nL D A.heap) (au:oI D A.heap) (av:D<ez) (aw:D<dC)
  (ay:∀X t aE aA,uM D X->pJ D t->IsZip aE I eL to (rawInt A.heap.objs.size)->ij aE to X t->nL (D+1) aE->oI (D+1) aE->ij aE A.heap.objs.size X t->aE.objs.size=A.heap.objs.size+1 ->
   (∀Q C,Q≠I->Q≠to->Q≠O->Q≠j->A.heap.get? Q=E C->aE.get? Q=E C)->q (.ref A.heap.objs.size) {A with heap:=aE,toks:=aA}):
  bM (model prog r) p (rE.«zip.__next__» ⟨[.ref I],[]⟩) (λaB bc=>∃v,aB=.done (.ret v)/\q v bc) l A:=by
 obtain⟨R,f,c_,aP,h⟩:=A;show bM _ _ (field (.ref I) 2>>=_) _ _ _;refine bK (nv o rfl (x:=.bool ax) rfl ?_)
 show bM _ _ (field (.ref I) 3>>=_) _ _ _;refine bK (nv o rfl (x:=.ref eL) rfl ?_)
 refine bK (wpAny_seqItems aq rfl ?_);show bM _ _ (yS (.ref I)>>=_) _ _ _
 refine bK ?_;unfold yS;refine bK (nv o rfl (x:=.none) rfl (dx ?_));simp only[if_true];refine bK (wpAny_rule ?_);refine bK (nv o rfl (x:=.ref to) rfl ?_);refine bK (tK o (by simp) λT (aC:IsZip T I eL to .ellipsis) aN=>?_)
 have z:ny I R T:=aN.extBut;refine bK ?_;simp only[Ij,Io,yE,Ir];refine bK (bK (wpAny_onRaise ?_));show bM _ _ (yT (.ref O)>>=_) _ _ _
 refine bK (N.item D _ _ _ av (N.frame D _ _ as λQ d C e=>z Q C (λV=>a.kK (V ▸ d)) e) λX u cv aD bj az=>dx ?_)
 have B:ny O T u:=az.extBut;have Y:ij u to S b:=B _ _ a.Lu (z _ _ a.sG ar);refine bK (wpAny_seqItems (s:=⟨u,f,c_,cv,h⟩) Y rfl ?_);refine bK (wpAny_updateSeq_pair (s:=⟨u,f,c_,cv,h⟩) Y λF (aF:ij F to X b) Z=>?_)
 have G:ny to u F:=Z.extBut;refine bK (wpAny_letGo (dx ?_));refine bK (bK (wpAny_onRaise ?_));show bM _ _ (yT (.ref j)>>=_) _ _ _
 refine bK (P.item D ⟨F,f,c_,cv,h⟩ _ _ aw (P.frame D _ _ au λQ d C e=>G Q C (λV=>a.Es (V ▸ d)) (B Q C (λV=>a.Lw (V ▸ d)) (z Q C (λV=>a.Er (V ▸ d)) e))) λt y m aG aH aa=>dx ?_)
 have J:ny j F y:=aa.extBut;have ab:ij y to X b:=J _ _ a.Xc aF;refine bK (wpAny_seqItems (s:=⟨y,f,c_,m,h⟩) ab rfl ?_);refine bK (wpAny_updateSeq_pair (s:=⟨y,f,c_,m,h⟩) ab λc (ac:ij c to X t) af=>?_)
 have K:ny to y c:=af.extBut;refine bK (wpAny_letGo (dx (dx ?_)));refine bK (wpAny_seqItems (s:=⟨c,f,c_,m,h⟩) ac rfl ?_);refine bK (wpAny_newTuple ?_);have ag:c.objs.size=R.objs.size:=by rw[af.1,aa.1,Z.1,az.1,aN.1]
 have ah:IsZip c I eL to .ellipsis:=K _ _ a.sG.symm (J _ _ a.Ep.symm (G _ _ a.sG.symm (B _ _ a.z8.symm aC)));have aI:∀Q C,Q≠I->Q≠to->Q≠O->Q≠j->R.get? Q=E C->c.get? Q=E C:=λQ C i L U W e=>
  K Q C L (J Q C W (G Q C L (B Q C U (z Q C i e))))
 have aJ:I<c.objs.size:=eK ah;show bM _ _ (IU (.ref I) (.ref c.objs.size)>>=_) _ _ ⟨c.push _,f,c_,m,h⟩
 refine bK ?_;unfold IU;have aK:IsZip (c.push {cls:=.type "tuple",data:=.seq #[X,t]}) I eL to .ellipsis:=el _ ah;refine bK (tK (s:=⟨c.push _,f,c_,m,h⟩) aK (by simp) λaj (aM:IsZip aj I eL to (rawInt c.objs.size)) ak=>?_)
 refine tK (s:=⟨aj,f,c_,m,h⟩) aM (by simp) λn (al:IsZip n I eL to (rawInt c.objs.size)) am=>?_
 have an:∀Q C,Q≠I->(c.push {cls:=.type "tuple",data:=.seq #[X,t]}).get? Q=E C->n.get? Q=E C:=λQ C i e=>am.extBut _ _ i (ak.extBut _ _ i e)
 have M:∀Q C,Q≠I->c.get? Q=E C->n.get? Q=E C:=λQ C i e=>an Q C i (el _ e)
 have ao:ij n c.objs.size X t:=an _ _ (rN aJ) (gf _ rfl);have ap:n.objs.size=c.objs.size+1:=by rw[am.1,ak.1];exact qq ..
 rw[ag]at al ao ap;refine dx ⟨_,rfl,?_⟩;show q (.ref c.objs.size) ⟨n,f,c_,m,h⟩
 rw[ag];refine ay X t n m aD aG al (M _ _ a.sG ac) (N.frame _ _ _ bj λQ d C e=>?_) (P.frame _ _ _ aH λQ d C e=>?_) ao ap λQ C i L U W e=>M Q C i (aI Q C i L U W e)
 ·exact M Q C (λV=>a.kK (V ▸ d)) (K Q C (λV=>a.Lv (V ▸ d)) (J Q C (λV=>a.Xd (V ▸ d)) (G Q C (λV=>a.Lv (V ▸ d)) e)))
 ·exact M Q C (λV=>a.Er (V ▸ d)) (K Q C (λV=>a.Es (V ▸ d)) e)
theorem Xf {q:Cr->aY->Prop}(J:Draws prog r p O w ez uM nL)(R:Draws prog r p j g dC pJ oI)(a:uL I eL to O j w g)
  (h:IsZip A.heap I eL to .none) (ag:ij A.heap eL (.ref O) (.ref j)) (ah:ij A.heap to S b) (aj:nL D A.heap) (ak:oI D A.heap) (K:D=ez\/D<ez/\D=dC)
  (T:∀aE e al,(∀Q C,Q≠I->Q≠to->Q≠O->Q≠j->A.heap.get? Q=E C->aE.get? Q=E C)->(∃C,aE.get? e=E C/\C.cls=.type "StopIteration")->l (.ref e) {A with heap:=aE,toks:=al}):
  bM (model prog r) p (rE.«zip.__next__» ⟨[.ref I],[]⟩) q l A:=by
 obtain⟨am,i,c_,U,m⟩:=A;show bM _ _ (field (.ref I) 2>>=_) _ _ _;refine bK (nv h rfl (x:=.bool ax) rfl ?_)
 show bM _ _ (field (.ref I) 3>>=_) _ _ _;refine bK (nv h rfl (x:=.ref eL) rfl ?_)
 refine bK (wpAny_seqItems ag rfl ?_);show bM _ _ (yS (.ref I)>>=_) _ _ _
 refine bK ?_;unfold yS;refine bK (nv h rfl (x:=.none) rfl (dx ?_));simp only[if_true];refine bK (wpAny_rule ?_);refine bK (nv h rfl (x:=.ref to) rfl ?_);refine bK (tK h (by simp) λn (W:IsZip n I eL to .ellipsis) aN=>?_)
 have o:ny I am n:=aN.extBut;refine bK ?_;simp only[Ij,Io,yE,Ir];refine bK (bK (wpAny_onRaise ?_));show bM _ _ (yT (.ref O)>>=_) _ _ _
 have Y:nL D n:=J.frame D _ _ aj λQ t C e=>o Q C (λV=>a.kK (V ▸ t)) e
 rcases K with rfl |⟨K,rfl⟩
 ·refine bK (J.done _ _ _ Y λc e az L=>?_)
  obtain⟨u,v,y⟩:=L;have d:ny O n c:=az;have Z:IsZip c I eL to .ellipsis:=d _ _ a.z8.symm W;have M:e≠I:=λX=>by subst X;have z:c.get? e=E u:=v;rw[Z]at z;cases z;simp at y
  exact tK (s:=⟨c,i,c_,U,m⟩) Z (by simp) λf _ F=>T f e U (λQ C B _ N _ X=>F.extBut _ _ B (d Q C N (o Q C B X))) ⟨u,F.extBut _ _ M v,y⟩
 ·refine bK (J.item D _ _ _ K Y λX c cv ar bj az=>dx ?_)
  have d:ny O n c:=az.extBut;have aa:ij c to S b:=d _ _ a.Lu (o _ _ a.sG ah);refine bK (wpAny_seqItems (s:=⟨c,i,c_,cv,m⟩) aa rfl ?_);refine bK (wpAny_updateSeq_pair (s:=⟨c,i,c_,cv,m⟩) aa λf (as:ij f to X b) F=>?_)
  have P:ny to c f:=F.extBut;refine bK (wpAny_letGo (dx ?_));refine bK (bK (wpAny_onRaise ?_));show bM _ _ (yT (.ref j)>>=_) _ _ _
  refine bK (R.done ⟨f,i,c_,cv,m⟩ _ _ (R.frame D _ _ ak λQ t C e=>P Q C (λV=>a.Es (V ▸ t)) (d Q C (λV=>a.Lw (V ▸ t)) (o Q C (λV=>a.Er (V ▸ t)) e))) λG e an L=>?_)
  obtain⟨u,v,y⟩:=L;have ab:ny j f G:=an;have ac:IsZip G I eL to .ellipsis:=ab _ _ a.Ep.symm (P _ _ a.sG.symm (d _ _ a.z8.symm W));have M:e≠I:=λX=>by subst X;have z:G.get? e=E u:=v;rw[ac]at z;cases z;simp at y
  exact tK (s:=⟨G,i,c_,cv,m⟩) ac (by simp) λao _ af=>T ao e cv (λQ C B ap N aq X=>af.extBut _ _ B (ab Q C aq (P Q C ap (d Q C N (o Q C B X))))) ⟨u,af.extBut _ _ M v,y⟩
theorem Xg {q:qw->aY->Prop}(e:Draws prog r p.in1 O w ez uM nL)(f:Draws prog r p.in1 j g dC pJ oI)(h:uL I eL to O j w g)
  (c:IsZip A.heap I eL to .none) (i:ij A.heap eL (.ref O) (.ref j)) (m:ij A.heap to S b) (n:nL D A.heap) (o:oI D A.heap) (s:D<ez) (u:D<dC)
  (v:∀X t aE a,uM D X->pJ D t->IsZip aE I eL to (rawInt A.heap.objs.size)->ij aE to X t->nL (D+1) aE->oI (D+1) aE->ij aE A.heap.objs.size X t->aE.objs.size=A.heap.objs.size+1 ->
   (∀Q C,Q≠I->Q≠to->Q≠O->Q≠j->A.heap.get? Q=E C->aE.get? Q=E C)->q (E (.ref A.heap.objs.size)) {A with heap:=aE,toks:=a}):
  bM (model prog r) p (pyNext (.ref I)) q l A:=by
 have d:A.TypeIs (.ref I) _:=⟨_,c,rfl⟩;exact bK (wpAny_attempt (wpAny_callSpecial?_slot  d y4 (wpAny_call_entry y4 d Jj (Xe e f h c i m n o s u λX t aE a x c7 y z B F G J K=>dx (v X t aE a x c7 y z B F G J K)) (Ji _))))
theorem Xh {q:qw->aY->Prop}(f:Draws prog r p.in1 O w ez uM nL)(h:Draws prog r p.in1 j g dC pJ oI)(i:uL I eL to O j w g)
  (a:IsZip A.heap I eL to .none) (m:ij A.heap eL (.ref O) (.ref j)) (n:ij A.heap to S b) (o:nL D A.heap) (s:oI D A.heap) (t:D=ez\/D<ez/\D=dC)
  (u:∀aE c,(∀Q C,Q≠I->Q≠to->Q≠O->Q≠j->A.heap.get? Q=E C->aE.get? Q=E C)->q k {A with heap:=aE,toks:=c}):bM (model prog r) p (pyNext (.ref I)) q l A:=by
 have d:A.TypeIs (.ref I) _:=⟨_,a,rfl⟩;refine bK (wpAny_attempt (wpAny_callSpecial?_slot  d y4 (wpAny_call_entry y4 d Jj ?_ (Ji _))));refine Xf f h i a m n o s t λaE e c v x=>?_
 obtain⟨C,y,z⟩:=x;exact bK (wpAny_isInstance    ⟨C,y,z⟩ isSubtype_stop (dx (u _ _ v)))
end
noncomputable def Et (X:Str)(n:Tok):iU:={cls:=.type (hZ X),data:=.fields #[.str X n,.int 0 0]}
theorem Xi {prog:cW}{r:cF}{p:dp}{l:aR->aY->Prop}{A:aY}{X:Str}{n:Tok}{q:aR->aY->Prop}(Y:q (.ref A.heap.objs.size) {A with heap:=A.heap.push (Et X n)}):bM (model prog r) p (pyIter (.str X n)) q l A:=by
 unfold Et at Y;cases a:X.cps.all (·<128)
 ·rw[show hZ X="str_iterator" by simp[hZ,a]]at Y;exact wpAny_pyIter_wide a Y
 rw[show hZ X="str_ascii_iterator" by simp[hZ,a]]at Y;exact wpAny_pyIter_ascii a Y
noncomputable abbrev z9 (Y:Heap)(s:aV):Heap:=Y.push {cls:=.type "list_iterator",data:=.fields #[.ref s,.int 0 0]}
abbrev wQ (Y:Heap)(s:aV)(X:Str)(n:Tok):Heap:=(z9 Y s).push (Et X n)
abbrev z_ (Y:Heap)(s:aV)(X:Str)(n:Tok):Heap:=(wQ Y s X n).push {cls:=.type "tuple",data:=.seq #[.ref Y.objs.size,.ref (z9 Y s).objs.size]}
abbrev Aa (Y:Heap)(s:aV)(X:Str)(n:Tok):Heap:=(z_ Y s X n).push {cls:=.type "tuple",data:=.seq #[.none,.none]}
abbrev sH (Y:Heap)(s:aV)(X:Str)(n:Tok):Heap:=(Aa Y s X n).push {cls:=.type "zip",data:=.fields #[.none,.bool ax,.bool ax,.ref (wQ Y s X n).objs.size,.ref (z_ Y s X n).objs.size]}
theorem Xj (s:aV)(X:Str)(n:Tok)(m:g5):
  Meets (rE.«zip.__new__» ⟨[.type "zip",.ref s,.str X n],[]⟩) (λ_ bp A=>A.heap.IsList s m/\bp (.ok (.ret (.ref (Aa A.heap s X n).objs.size))) {A with heap:=sH A.heap s X n}):=
 .of_wp λprog r p bp A Y=>by
  obtain⟨a,Y⟩:=Y;have b:=sub_zip
  wp_walk using wpAny_pyIter_list a,Xi
  exact⟨_,rfl,Y⟩
section
variable {prog:cW}{r:cF}{p:dp}{l:aR->aY->Prop}{A:aY}
theorem Xk {s:aV}{X:Str}{n:Tok}{m:g5}{q:aR->aY->Prop}(i:A.heap.IsList s m)
  (Y:∀aE,IsZip aE (A.heap.objs.size+4) (A.heap.objs.size+2) (A.heap.objs.size+3) .none->ij aE (A.heap.objs.size+2) (.ref A.heap.objs.size) (.ref (A.heap.objs.size+1)) ->
   ij aE (A.heap.objs.size+3) .none .none->aE.IsListIter A.heap.objs.size s 0->aE.IsStrIter (A.heap.objs.size+1) (hZ X) X n 0 ->
   (∀Q C,A.heap.get? Q=E C->aE.get? Q=E C)->q (.ref (A.heap.objs.size+4)) {A with heap:=aE}):
  bM (model prog r) p (call (.type "zip") [.ref s,.str X n]) q l A:=by
 refine callType_new F.called_zip (by decide) (F.typeCall_zip_2 _ _) (F.newCall_zip_2 _ _) (λj=>F.args_object_init_3 j _ _) F.entry_zip_new (Xj s X n m) ⟨i,?_⟩
 have ez:(z9 A.heap s).objs.size=A.heap.objs.size+1:=qq ..;have dC:(wQ A.heap s X n).objs.size=A.heap.objs.size+2:=by rw[qq,ez]
 have a:(z_ A.heap s X n).objs.size=A.heap.objs.size+3:=by rw[qq,dC]
 have d:(Aa A.heap s X n).objs.size=A.heap.objs.size+4:=by rw[qq,a]
 have b:∀Q C,(wQ A.heap s X n).get? Q=E C->(sH A.heap s X n).get? Q=E C:=λQ C e=>el _ (el _ (el _ e))
 have c:(sH A.heap s X n).get? (Aa A.heap s X n).objs.size=E _:=gf _ rfl;have f:(sH A.heap s X n).get? (z_ A.heap s X n).objs.size=E _:=el _ (gf _ rfl);have g:(sH A.heap s X n).get? (wQ A.heap s X n).objs.size=E _:=el _ (el _ (gf _ rfl));have h:(sH A.heap s X n).get? (z9 A.heap s).objs.size=E _:=b _ _ (gf _ rfl);have o:(sH A.heap s X n).get? A.heap.objs.size=E _:=b _ _ (el _ (gf _ rfl));show _/\_
 rw[dC,a,d]at c;rw[ez,dC]at g;rw[a]at f;rw[ez]at h;rw[d];exact⟨⟨_,c,rfl⟩,Y _ c g f ⟨_,o,rfl,rfl⟩ ⟨_,h,rfl,rfl⟩ λQ C e=>b Q C (el _ (el _ e))⟩
end
def Ab (J:bD)(s:aV)(z:Nat)(w:Nat->aL):i8:=
 ⟨λO R=>∃m X,dG J R s m/\m[O]?=E X/\O<z,
  λO R v aq=>∃N X,(∀m,dG J R s m->m[O]?=E X)/\R N=k/\v=.a0 N/\aq=b8 R N (.a_ [X,w O]),
  λO R=>∃m,dG J R s m/\(O=m.length\/O<m.length/\O=z)⟩
theorem Xl {P:cW}{r:cF}{J:bD}{pD:ew}{hs:Nat}{pos:Pos}(I eL to c d s:aV)(h:Str)(n:Tok)(g:uL I eL to c d [c,s] [d])(aa:s≠c):
  px P r J (.Tuple pD hs pos) (Ab J s h.cps.size (lJ h)) [I,eL,to,c,d] I (λO Y=>IsZip Y I eL to .none/\ij Y eL (.ref c) (.ref d)/\(∃S b,ij Y to S b)/\Y.IsListIter c s O/\Y.IsStrIter d (hZ h) h n O) where
 mem:=by simp
 dI:=λO Y aU b a=>by
  obtain⟨j,i,⟨S,Q,q⟩,⟨aN,aP,aQ,aR⟩,⟨L,ac,aS,aT⟩⟩:=aU;grind
 e6:=λO Y aE aU D=>by
  obtain⟨j,i,⟨S,Q,q⟩,ab,L,ac,bR⟩:=aU;exact⟨D I (by simp) _ j,D eL (by simp) _ i,⟨S,Q,D to (by simp) _ q⟩,ab.at λC V=>D c (by simp) C V,L,D d (by simp) L ac,bR⟩
 item:=by
  intro H M hw T y O ag A o R l f U aU W;subst M hw T;obtain⟨m,X,F,z,al⟩:=W;obtain⟨K,Z,N,am⟩:=f.dV F;obtain⟨u,an,ao⟩:=Z.gQ z;obtain⟨j,i,⟨S,Q,q⟩,ab,af⟩:=aU;have lt:∀{Q C},A.heap.get? Q=E C->Q<A.heap.objs.size:=λe=>eK e
  have aW:=lt j;have aX:=lt i;have aY:=lt q;have aZ:c<A.heap.objs.size:=by obtain⟨C,e,_⟩:=id ab;exact lt e
  have a0:d<A.heap.objs.size:=by obtain⟨C,e,_⟩:=id af;exact lt e
  have ap:O<K.toArray.size:=by have:=(hF.mp an).1;simpa using this
  refine j_ (Xg (Draws.list (A:=H.p.in1) (show H.p.in1.handled=k from f.i.gi y) c s aa K.toArray) (Kk (n:=n) H.p.in1 (f.i.gi y)) g j i q ⟨ab,N.isList⟩ af ap al λB v br x a1 aq ar as au av aw a2 ah ay=>?_)
  obtain rfl:B=u:=by
   grind
  have az:cc (lJ h O) v:=Kj aq;refine⟨_,rfl,?_⟩;refine wpAny_letOwnedTupleGo_zip (s:={A with heap:=br,toks:=x}) ar λaj aA w=>?_
  replace w:rL I br aj:=w;have aB:R A.heap.objs.size=k:=f.cA.fm (cM _);have aC:a6 H ag o (b8 R A.heap.objs.size (.a_ [X,lJ h O])) {A with heap:=A.heap.push {cls:=.type "tuple",data:=.seq #[B,v]},toks:=x}:=by
   refine f.gR (λb u V=>el _ V) (cM _) ⟨?_,[B,v],.cons ao (.cons az .nil),⟨_,gf _ rfl,rfl,_,rfl⟩⟩
   show 2<=cw
   decide
  have aD:∀b∈[I,eL,to,c,d],b<A.heap.objs.size:=λb a=>by
   grind
  have ak:∀b∈[I,eL,to,c,d],kd H ag (b8 R A.heap.objs.size (.a_ [X,lJ h O])) b:=λb a=>by
   obtain⟨aF,G⟩:=U b a;refine⟨?_,G⟩;rw[fN (gg (aD b a))];exact aF
  have aG:a6 H ag o (b8 R A.heap.objs.size (.a_ [X,lJ h O])) {A with heap:=aj,toks:=x}:=by
   refine a6.DI (A:={A with heap:=A.heap.push {cls:=.type "tuple",data:=.seq #[B,v]},toks:=x}) (c:=[I,eL,to,c,d]) aC (λb C a V=>?_) ak
   have ez:b≠I:=λe=>a (by simp[e])
   have dC:b≠to:=λe=>a (by simp[e])
   have aH:b≠c:=λe=>a (by simp[e])
   have aI:b≠d:=λe=>a (by simp[e])
   refine(w.2 b ez).trans ?_;rcases IB V with⟨rfl,rfl⟩|cL
   ·exact aw
   ·exact ah b C ez dC aH aI cL
  refine⟨.a0 A.heap.objs.size,_,aG,rfl,⟨A.heap.objs.size,X,λa3 aJ=>by rw[f.r6 aJ F];exact z,aB,rfl,rfl⟩,⟨aA,?_,⟨B,v,?_⟩,?_,?_⟩,λb a=>(ak b a).1⟩
  ·exact(w.2 eL g.Ls).trans (ah eL _ g.Ls g.W_ g.Xa g.Xb i)
  ·exact(w.2 to g.sG).trans as
  ·exact au.1.extBut w.extBut g.z8
  ·exact av.extBut w.extBut g.Ep
 done:=by
  intro H M hw T y O ag A o R l f U aU W;subst M hw T;obtain⟨m,F,z⟩:=W;obtain⟨K,Z,N,am⟩:=f.dV F;obtain⟨j,i,⟨S,Q,q⟩,ab,af⟩:=aU;have aK:=Z.dB;refine j_ (Xh (Draws.list (A:=H.p.in1) (show H.p.in1.handled=k from f.i.gi y) c s aa K.toArray) (Kk (n:=n) H.p.in1 (f.i.gi y)) g j i q ⟨ab,N.isList⟩ af (by rw[aK]at z;simpa using z) λaE x aM ay=>⟨rfl,?_⟩)
  exact a6.DI (A:=A) (g:=x) (c:=[I,eL,to,c,d]) f (λb C a V=>aM b C (λe=>a (by simp[e])) (λe=>a (by simp[e])) (λe=>a (by simp[e])) (λe=>a (by simp[e])) V) U
 r_:=λ_ _ _ _ _ aU Y=>wpAny_pyIter_zip aU.1 Y
theorem Xm {bw s:Nat}(d:s<bw):uL (bw+4) (bw+2) (bw+3) bw (bw+1) [bw,s] [bw+1]:=by
 have V:∀{S b:Nat},S≠b->(S:aV)≠(b:aV):=λY=>Y
 have a:∀{S b:Nat},S≠b->(S:aV)∉([b]:List aV):=λY e=>Y (fv.mp e)
 have c:∀{S b Q:Nat},S≠b->S≠Q->(S:aV)∉([b,Q]:List aV):=λab af e=>by
  grind
 exact⟨V (by lia),V (by lia),V (by lia),V (by lia),V (by lia),V (by lia),V (by lia),V (by lia),V (by lia),V (by lia),c (by lia) (by lia),a (by lia),c (by lia) (by lia),a (by lia),c (by lia) (by lia),a (by lia)⟩
section
variable {ay:Type}
def kl (bl:iX ay)(F:aj):List ay->a3->aj->Prop
 |[],[],Y=>∀N,Y N=k|X::m,v::c,Y=>∃ab af,cG ab af Y/\bl.bl X v F ab/\kl bl F m c af|_,_,_=>False
variable {bl:iX ay}
theorem kl.bJ:∀{m:List ay}{c:a3}{F a4 Y:aj},bu F a4->kl bl F m c Y->kl bl a4 m c Y
 |[],[],_,_,_,_,V=>V|X::m,v::c,F,a4,Y,g,a=>by obtain⟨ab,af,j,C,G⟩:=a;exact⟨ab,af,j,bl.bJ g C,G.bJ g⟩
 |[],_::_,_,_,_,_,V=>V.elim|_::_,[],_,_,_,_,V=>V.elim
theorem kl.lO:∀{m:List ay}{c:a3}{F Y:aj},kl bl F m c Y->∀N aS,Y N≠E (.a_ aS)
 |[],[],_,_,V,N,aS=>by rw[V N];lia
 |X::m,v::c,F,Y,a,N,aS=>by
  obtain⟨ab,af,j,C,G⟩:=a;rcases j N with⟨_,b⟩|⟨_,b⟩
  ·rw[b];exact G.lO N aS
  rw[b];exact bl.lO C N aS
 |[],_::_,_,_,V,_,_=>V.elim|_::_,[],_,_,V,_,_=>V.elim
theorem kl.b6:∀{m:List ay}{c:a3}{F Y:aj},kl bl F m c Y->m.length=c.length
 |[],[],_,_,_=>rfl|X::m,v::c,F,Y,a=>by obtain⟨ab,af,j,C,G⟩:=a;rw[ee,ee,G.b6]
 |[],_::_,_,_,V=>V.elim|_::_,[],_,_,V=>V.elim
theorem Eu {F ab Y:aj}(y:cS F Y)(A:bu ab Y):bu (aH F ab) (aH F Y):=λN C e=>by
 unfold aH at e ⊢;cases I:F N with
 |some r=>rwa[I]at e|none=>rw[I]at e;exact A _ _ e
theorem kl.k6:∀{m:List ay}{c:a3}{F Y ah:aj},cS F Y->bu (aH F Y) ah->kl bl F m c Y->fy bl.bL ah m c
 |[],[],_,_,_,_,_,_=>.nil|X::m,v::c,F,Y,ah,y,g,a=>by
  obtain⟨ab,af,j,C,G⟩:=a;have b:cS F ab:=λN=>by
   rcases y N with I |I
   ·exact .inl I
   ·exact .inr (j.s.ck I)
  have d:cS F af:=λN=>by
   rcases y N with I |I
   ·exact .inl I
   ·exact .inr (j.G.ck I)
  exact .cons (bl.bL.bJ ((Eu y j.s).b_ g) (bl.h4 b C)) (G.k6 d ((Eu y j.G).b_ g))
 |[],_::_,_,_,_,_,_,V=>V.elim|_::_,[],_,_,_,_,_,V=>V.elim
theorem jc {ab af Y:aj}(j:cG ab af Y):cG af ab Y:=λN=>by
 rcases j N with⟨S,b⟩|⟨S,b⟩
 ·exact .inr ⟨S,b⟩
 exact .inl ⟨S,b⟩
theorem iI {ab af a br Y:aj}(j:cG ab af a)(D:cG a br Y):∃c,cG af br c/\cG ab c Y:=by
 have y:cS af br:=λN=>by
  rcases D.fQ N with I |I
  ·exact .inl (j.G.ck I)
  ·exact .inr I
 refine⟨aH af br,fH y,λN=>?_⟩
 unfold aH;rcases D N with⟨S,b⟩|⟨S,b⟩
 ·refine .inl ⟨j.s.ck S,?_⟩
  rw[j.G.ck S];exact b
 ·rcases j N with⟨Q,e⟩|⟨Q,e⟩
  ·grind
  ·refine .inr ⟨?_,by rw[b,e]⟩
   rw[Q];exact S
theorem kl.snoc:∀{m:List ay}{c:a3}{F Y:aj}{X:ay}{v:aL}{a:aj},kl bl F m c Y->bl.bl X v F a->cS Y a->kl bl F (m++[X]) (c++[v]) (aH Y a)
 |[],[],F,Y,X,v,a,V,C,y=>by
  refine⟨a,λ_=>k,λN=>.inr ⟨rfl,?_⟩,C,λ_=>rfl⟩
  unfold aH;rw[V N]
 |t::m,r::c,F,Y,X,v,a,g,C,y=>by
  obtain⟨ab,af,j,i,G⟩:=g;obtain⟨h,d,f⟩:=iI j (fH y);have l:cS af a:=d.fQ;have e:h=aH af a:=by
   funext N;unfold aH;rcases d N with⟨S,b⟩|⟨S,b⟩
   ·rw[S];exact b
   ·grind
  rw[e]at f;exact⟨ab,_,f,i,G.snoc C l⟩
 |[],_::_,_,_,_,_,_,V,_,_=>V.elim|_::_,[],_,_,_,_,_,V,_,_=>V.elim
abbrev uN (bl:iX ay):iX (List ay):=⟨λm v F Y=>∃N c af,v=.a0 N/\cG (cN N (.aG c)) af Y/\kl bl F m c af,zW bl.bL,λg ⟨N,c,af,e,j,V⟩=>⟨N,c,af,e,j,V.bJ g⟩,
 λ{S v F Y} y ⟨N,c,af,e,j,V⟩=>⟨N,c,e,qM y _ _ (j.s _ _ jy),V.k6 (λb=>by
  rcases y b with I |I
  ·exact .inl I
  ·exact .inr (j.G.ck I)) (Eu y j.G)⟩,
 λ⟨N,c,af,e,j,V⟩ b m t=>by
  rcases j b with⟨_,I⟩|⟨_,I⟩
  ·rw[I]at t;exact V.lO b m t
  ·rw[I]at t;unfold cN at t;split at t<;>cases t⟩
end
def Lx (aJ:aV)(dH:bN)(w:Str):bN:=λo R q=>dH o R λX ar=>match X with
 |.a0 S=>∃bH av v,ar S=E (.e1 aJ bH av)/\av.lookup w=E v/\q v ar|_=>False
def Ew (aJ:aV)(dH uO:bN)(w:Str):fY:=λa o R=>uO o R λt ar=>dH o ar λX a5=>match X with
 |.a0 S=>∃bH av,a5 S=E (.e1 aJ bH av)/\av.length<1000/\a.de o (b8 a5 S (.e1 aJ bH (ir w t av)))|_=>False
def pK (P:cW)(r:cF)(J:bD)(a7:eu)(bg:Heap)(dk:i_)(D:Nat)(aJ:aV)(h:Str)(aF:cx)(cf:gH):Prop:=
 ∃w bG,gI P r J a7 bg dk D w bG aF cf/\lG J aJ/\zo J aJ h w/\h7 J bG aF []
def sI (P:cW)(r:cF)(J:bD)(a7:eu)(bg:Heap)(dk:i_)(D:Nat)(X:Str)(aJ:aV)(aF:cx)(cf:gH):Prop:=
 ∃w bG,gI P r J a7 bg dk D w bG aF cf/\wh J aJ w/\a7 X=E (.ref aJ)/\h7 J bG aF []
section
variable {H:bQ}{e ke C:bI}{w X:Str}{pos r8:Pos}{bE uO:bN}{aJ:aV}
theorem Xn (Q:lG H.J aJ)(z:pA H.J aJ w)(b:bt H e bE)(c:attributeBase e w H.x (eval e H.x)=eval e H.x:=by rfl):bt H (.Attribute e w pos) (Lx aJ bE w):=by
 intro ag A o R q d Y;refine Tx c (b9 (b ag A o R _ d Y) λu bh f=>?_)
 obtain⟨X,ar,g,h,a⟩:=f;cases X with
 |a0 S=>
  obtain⟨bH,av,v,i,s,V⟩:=a;obtain rfl:u=jR S:=h;exact Tu g i Q z s λm bj j l=>⟨v,ar,j,l,V⟩
 |_=>exact a.elim
theorem Xo (Q:lG H.J aJ)(z:pA H.J aJ w)(b:bt H C bE)(c:bt H ke uO)(d:swapsWith ke (E (.Attribute C w r8)) pos.line H.x=pure ax:=by rfl):ju H (.Assign [.Attribute C w r8] ke pos) (Ew aJ bE uO w):=by
 intro ag A o R r e Y;refine plainObj_wpAny_Assign_Attribute (b9 (c ag A o R _ e Y) λu bh ⟨t,ar,f,g,V⟩=>b9 (b ag bh o ar _ f V) λh bj i=>?_) d
 obtain⟨X,a5,j,l,a⟩:=i;cases X with
 |a0 S=>
  obtain⟨bH,av,m,s,n⟩:=a;obtain rfl:h=jR S:=l;exact Tv j m Q z s g λv q=>⟨o,_,q,n⟩
 |_=>exact a.elim
end
theorem Ly:∀{a:cx}{c:a3}{w:Str},w∉a->(a.zip c).lookup w=k
 |[],_,_,_=>rfl|z::a,[],_,_=>rfl|z::a,r::c,w,Y=>by
  rw[j7,Ik,(show(w == z)=ax from beq_eq_false_iff_ne.mpr λI=>Y (I ▸ ek ..))]
  exact Ly λI=>Y (fM _ I)
theorem Lz:∀{a:cx}{c:a3}{w:Str}(v:aL),w∉a->c.length=a.length->ir w v (a.zip c)=(a++[w]).zip (c++[v])
 |[],[],w,v,_,_=>rfl|[],_::_,_,_,_,Y=>by simp at Y
 |_::_,[],_,_,_,Y=>by simp at Y
 |z::a,r::c,w,v,Y,b=>by
  rw[j7,ir,if_neg (show¬z=w from λI=>Y (I ▸ ek ..)),Lz v (λI=>Y (fM _ I)) (by simpa using b)];rfl
section
variable {ay:Type}
theorem wR {F ab af Y:aj}(y:cS F Y)(j:cG ab af Y):cS F ab:=λN=>by
 rcases y N with I |I
 ·exact .inl I
 exact .inr (j.s.ck I)
theorem Ac {F ab af Y:aj}(y:cS F Y)(j:cG ab af Y):cS F af:=λN=>by
 rcases y N with I |I
 ·exact .inl I
 exact .inr (j.G.ck I)
def jz (N bH:aV)(C:fF):aj:=λV=>if V=N then E C else if V=bH then E (.e4 N)else k
theorem Ad {N bH:aV}{C:fF}:jz N bH C N=E C:=if_pos rfl
noncomputable abbrev Xp (u:aL)(bl:iX ay):iX ay:=⟨λS v F Y=>v=u/\bl.bl S v F Y,bl.bL,λg V=>⟨V.1,bl.bJ g V.2⟩,λy V=>bl.h4 y V.2,λV=>bl.lO V.2⟩
theorem LA {b n h S Y:aj}(a:cG b n h)(j:cG S h Y):cG n (aH S b) Y:=λV=>by
 rcases j V with⟨X,t⟩|⟨X,t⟩
 ·rcases a V with⟨Q,e⟩|⟨Q,e⟩
  ·right
   refine⟨by unfold aH;rw[X,Q],by rw[t,e]⟩
  ·left
   refine⟨Q,by unfold aH;rw[X,t,e]⟩
 ·left
  refine⟨a.G.ck X,?_⟩;unfold aH;rw[t];cases I:S V with
  |none=>exact(a.s.ck X).symm ▸ rfl|some r=>rfl
theorem LB {S b n h Y:aj}(a:cG b n h)(j:cG S h Y):cS S b:=λV=>by
 rcases j.fQ V with I |I
 ·exact .inl I
 exact .inr (a.s.ck I)
variable {bA bk F Y R:aj}
theorem wU {D:aj}(a:dm bA bk F Y R)(A:bu D Y):dm bA bk F D R:=by
 refine⟨a.1,λN=>?_,A.b_ a.2.2.1,λN I=>a.2.2.2.1 N λt=>I (A.ck t),λN m I=>a.2.2.2.2 N m (A _ _ I)⟩
 rcases a.2.1 N with I |I
 ·exact .inl I
 exact .inr (A.ck I)
theorem Xq {Y:aj}(N:aV)(I:Y N≠k):f9 R Y N=k:=by
 unfold f9;cases t:Y N with
 |none=>exact absurd t I|some r=>rfl
theorem Xr:bu (f9 R Y) R:=λN C I=>by
 unfold f9 at I;split at I
 ·exact I
 cases I
theorem uP (a:bu F R)(c:cS F Y)(d:bu Y R)(e:∀N m,Y N≠E (.a_ m)):dm F (f9 R Y) F Y R:=by
 refine⟨⟨bu.fc _,a,Xr,λN S b=>absurd S b⟩,c,d,Xq,e⟩
end
noncomputable def qU (a s:bo):List bo:=(Txt.split ⟨s.toArray⟩ ⟨a.toArray⟩).map λN=>N.cps.toList
noncomputable def gx (a:bo):List bo->bo
 |[]=>[]|[N]=>N|N::V::G=>N++a++gx a (V::G)
theorem Ex (t:Str):∀aF:cx,(yY t aF).cps.toList=gx t.cps.toList (aF.map λN=>N.cps.toList)
 |[]=>rfl|[N]=>rfl|N::V::G=>by
  show(N++t++yY t _).cps.toList=_
  rw[wo,wo,Ex t _];rfl
theorem LC {X:Str}{Q e S b:Nat}(f:∀D,X.cps.toList[D]?=E Q->X.cps.toList[D+1]?=E e)(l:b<=X.length)(g:∀D,S<=D->D<b->¬rW X ⟨#[Q,e]⟩ X.length D):Q∉(rR X S b).cps.toList:=by
 intro c;rw[yZ]at c;obtain⟨j,a⟩:=tO c;have d  := by
  have ab:=(hF.mp a).1;rw[lB]at ab;exact hY ab (Nat.min_le_left _ _)
 rw[ys d,Ih]at a;have af:=f _ a;refine g _ (Cp _ _) (Nat.add_lt_of_lt_sub' d) ⟨?_,?_⟩
 ·exact(hF.mp af).1
 ·show(X.cps.extract _ (S+j+2) == #[Q,e])=ae
  rw[beq_iff_eq];apply y2.mp;rw[Array.toList_extract];rw[List.extract_eq_drop_take,ID];obtain⟨h,aN⟩:=hF.mp a;obtain⟨i,az⟩:=hF.mp af;rw[rF h,rF i,aN,az];rfl
theorem LD {X:Str}{Q e:Nat}(a:∀D,X.cps.toList[D]?=E Q->X.cps.toList[D+1]?=E e):∀(d:bo) (S w:Nat),StrLaws.ChainG X ⟨#[Q,e]⟩ X.length S d w->(∀D,w<=D->¬rW X ⟨#[Q,e]⟩ X.length D)->∀N∈StrLaws.partsFrom X 2 S d,Q∉N.cps.toList
 |[],S,w,Y,b,N,c=>by
  obtain rfl:w=S:=Y;rw[fv.mp c];exact LC a (cM _) λD ab _=>b D ab
 |y::G,S,w,Y,b,N,c=>by
  rcases df.mp c with rfl |f
  ·exact LC a (by have:=Y.2.1.1;lia) Y.2.2.1
  exact LD a G _ w Y.2.2.2 b N f
theorem Ey {Q e:Nat}(a:e≠Q):∀{N:bo}{aF:jm},(∀V∈N::aF,Q∉V)->eX Q (gx [Q,e] (N::aF))=N::aF.map (λV=>e::V)
 |N,[],Y=>ux Q N (Y N (ek ..))|N,V::G,Y=>by
  show eX Q (N++[Q,e]++gx _ _)=_
  rw[od];show eX Q (N++Q::(e::gx _ _))=_
  rw[wC Q N _ (Y N (ek ..)),eX,if_neg a,Ey a   λI b=>Y I (fM _ b)]
  rfl
theorem Xs {Q e:Nat}(b:e≠Q){aF a:jm}(ab:aF≠[])(af:a≠[])(c:∀V∈aF,Q∉V)(d:∀V∈a,Q∉V)(Y:gx [Q,e] aF=gx [Q,e] a):aF=a:=by
 cases aF with
 |nil=>exact absurd rfl ab|cons N aF=>
  cases a with
  |nil=>exact absurd rfl af|cons V a=>
   have S:=Ey b c;rw[Y,Ey b d]at S;injection S with f g;have h:∀{m aS:List _},m.map (λV=>e::V)=aS.map (λV=>e::V)->m=aS:=by
    intro m;induction m with
    |nil=>simp_all|cons X m i=>
     intro aS Y;cases aS with
     |nil=>cases Y|cons t aS=>
      injection Y with ab af;injection ab with _ ab;rw[ab,i af]
   rw[f,h g]
theorem LF {Q e:Nat}(a:e≠Q){s:bo}(b:∀D,s[D]?=E Q->s[D+1]?=E e):∀{N:bo},Q∉N->∀D,(N++Q::e::s)[D]?=E Q->(N++Q::e::s)[D+1]?=E e
 |[],_,0,_=>rfl|[],_,1,Y=>absurd (jQ Y) a|[],_,h+2,Y=>b h Y|S::N,w,0,Y=>absurd (by rw[jQ Y];exact ek ..) w|S::N,w,D+1,Y=>LF a b (λI=>w (fM _ I)) D Y
theorem LG {Q e:Nat}(a:e≠Q):∀{aF:jm},(∀V∈aF,Q∉V)->∀D,(gx [Q,e] aF)[D]?=E Q->(gx [Q,e] aF)[D+1]?=E e
 |[],_,D,Y=>by simp[gx]at Y
 |[N],w,D,Y=>absurd (qh Y) (w N (ek ..))|N::V::G,w,D,Y=>by
  rw[(show gx _ _=N++Q::e::gx _ _ from od ..)]at Y ⊢
  exact LF a (LG a  λI b=>w I (fM _ b)) (w N (ek ..)) D Y
theorem Xt (a:bo)(aF:jm):wy a (oG aF)=gx a aF:=by
 have:=Ex ⟨a.toArray⟩ (oG aF);unfold wy;refine Eq.trans ?_ (this.trans ?_)
 ·rw[eq_of_beq (Q9   rfl)]
 ·unfold oG
  rw[gr];congr 1;exact(qi λN _=>rfl).trans (vM _)
section
variable {H:bQ}
def Ae:aL->a3->aj->bX->Prop:=λX m R q=>match X,m with
 |.f s,[.f t]=>s.cps.toList.length<=100000/\t.cps.toList≠[]/\∀N,R N=k->q (.a0 N) (b8 R N (.aG ((qU t.cps.toList s.cps.toList).map eN)))|_,_=>False
theorem Xu:oy H "str.split" Ae:=by
 intro ag A o R X m v aa q c d f Y;unfold Ae at Y;split at Y
 ·rename_i s t
  obtain⟨D,rfl⟩:=d;obtain⟨u,rfl,g⟩:=f.cN;obtain⟨r,rfl⟩:=g;obtain⟨h,i,V⟩:=Y;have j:s.length=s.cps.toList.length:=by simp[mO]
  have l:(t.length == 0)=ax:=by
   have:t.length≠0:=λe=>i (by
    have az:t.cps.toList.length=0:=by simpa [mO]using e
    exact qf.mp az)
   simpa using this
  have w:=split_le s t;refine j_ ?_;refine LX.VW l (λa n e=>?_) (by rw[j];exact lK h) (by
   rw[len_partsBetween];have:=StrLaws.occ_length_le s t 0 s.length (s.length+1);rw[sizeLine_eq];lia)
  intro x;have aN:qU t.cps.toList s.cps.toList=(Txt.split s t).map λN=>N.cps.toList:=rfl
  have az:(qU t.cps.toList s.cps.toList).map eN=a.map λN=>eN N.1.cps.toList:=by
   rw[aN,<- e,gr,gr];rfl
  have y:(qU t.cps.toList s.cps.toList).length<=100002:=by
   rw[aN,ct];lia
  refine⟨.a0 A.heap.objs.size,_,c.gR  (d:=n) (λb z V=>el _ V) (cM _) ?_,rfl,V _ (c.cA.fm (cM _))⟩
  refine⟨by rw[ct,sizeLine_eq];lia,strValues a,0,?_,gf _ rfl⟩
  rw[az];exact KN a
 ·exact Y.elim
def Af (J:bD)(n:bN):f7:=λo R q=>n o R λX aq=>match X with
 |.aM D=>q D aq|.a0 S=>∃m,dG J aq S m/\q (!m.isEmpty) aq|_=>False
theorem LH {e:bI}{n:bN}(Y:bt H e n)(f:∀c,isTrue e H.x c=(do let v <- c;standAt e.pos;holding [v] (truthy v)):=by intro _;rfl):hq H e (Af H.J n):=by
 intro ag A o R q g hw;refine isTrue_plain (b9 (Y ag A o R _ g hw) λv bh h=>?_) (f _)
 obtain⟨X,ar,a,bC,b⟩:=h;cases X with
 |aM Q=>cases bC;exact kV ⟨ar,a,b⟩|a0 S=>
  cases bC;obtain⟨m,i,V⟩:=b;obtain⟨j,d,N,l⟩:=a.dV i;refine wpAny_truthy_list N.isList (by rw[eQ,<- d.dB];rw[sizeLine_eq]at l;lia) ?_
  refine⟨ar,a.fX _,?_⟩
  simpa [(show j.isEmpty=m.isEmpty by cases d<;>rfl)]using V
 |_=>exact b.elim
variable {prog:cW}{r:cF}{p:dp}{l:aR->aY->Prop}{A:aY}
theorem Xv {s:aV}{X t:aR}{q:cu->aY->Prop}(f:p.handled=k)(a:A.heap.IsList s #[X,t])(V:∀ab,ny A.heap.objs.size A.heap ab->q [X,t] {A with heap:=ab}):
  bM (model prog r) p (unpackItems (.ref s) 2 k) q l A:=by
 have ne:s≠A.heap.objs.size:=by obtain⟨C,g,_⟩:=a;exact gg (eK g)
 unfold unpackItems notIterableAtAll;refine bK (bK (wpAny_specialOf a.typeIs slot_list_iter.lookup (dx ?_)));rw[if_neg (by decide)]
 refine bK (wpAny_holding (wpAny_pyIter_list a ?_));refine bK (wpAny_holding ?_);show bM _ _ (pyNext _>>=_) _ _ _;refine bK (wpAny_pyNext_list_item ⟨_,gf _ rfl,rfl,rfl⟩ (a.push _) rfl λab h aN=>?_)
 have d  := (a.push _).extBut aN.extBut ne;refine bK (wpAny_holding ?_);refine bK (wpAny_pyNext_list_item (s:={A with heap:=ab}) h d rfl λaf i az=>?_)
 refine bK (wpAny_holding (dx (dx (dx ?_))));rw[if_neg (by simp)]
 refine bK (wpAny_holding (wpAny_pyNext_list_end (s:={A with heap:=af}) f i (d.extBut az.extBut ne) rfl λbr j=>?_))
 exact dx (V br λb C c e=>j b C c (az.extBut b C c (aN.extBut b C c (el _ e))))
end
section
variable {H:bQ}
def LI (J:bD)(n:jv):iE:=λv o R q=>match v with |.a0 S=>∃X t,dG J R S [X,t]/\n [X,t] o R q |_=>False
theorem Xw {aw:ew}{D:Nat}{n:jv}{pos:Pos}(g:H.fo=ae)(Y:nD H aw n)
  (h:(jN aw H.x).length=2:=by rfl) (i:(jN aw H.x).findIdx? (·.1)=k:=by rfl):jU H (.Tuple aw D pos) (LI H.J n):=by
 intro ag A o R v u q f G hw;cases v with
 |a0 S=>
  obtain⟨X,t,j,hw⟩:=hw;cases G;obtain⟨l,a,m,_⟩:=f.dV j;obtain⟨c,d,rfl⟩:∃c d,l=[c,d]:=by
   obtain⟨c,n,rfl⟩:=j5 a.dB.symm;obtain⟨d,u,rfl⟩:=j5 (fD a.dB.symm);cases qf.mp (fD (fD a.dB.symm));exact⟨c,d,rfl⟩
  refine bK (wpAny_standAt ?_);unfold unpack;rw[h,i];refine bK (wpAny_holding (Xv (f.i.gi g) m.isList λab r=>?_))
  exact Y ag _ o R _ _ q (f.iB (a:=A.toks) λb C e=>r b C (gg (eK e)) e) a hw
 |_=>exact hw.elim
end
section
variable {J:bD}{l:b4}{ay cQ:Type}{bA bk F Y:aj}{L:gV}{e dH:bN}{T:fP ay}{G:Mo ay}{n:fY}{o:bU}{w h:Str}{O z r j:Nat}
theorem Xx {bW:cx}{bL:jn}{ap:k0}{g:iE}{ht:f7}{dH:bN}{G:Mo (List ay)}{cT:ay->wJ}{Q:ay->mZ}{w:ay->Mo cQ}{u:iX cQ}
  (aB:uD J ap l L G T) (aV:K4 J g T cT) (aX:∀S,Wq (dg bW bL L) ((cT S).map (·.1))) (aY:∀S,mn J ht jw (uB (dg bW bL L) (cT S)) (Q S)) (aZ:∀S,oE J dH jw (uB (dg bW bL L) (cT S)) (w S) u):
  oE J (wm bW bL ap g ht dH) l L (G.aC λm=>k4 (λX=>mq (Q X) (w X)) m []) (uN u):=by
 intro o bA bk q as a0 V;refine aB o bA bk _ as a0 (V.aC.c8 λm bB ar x1 a1 bv au d B=>?_)
 have a2:=as.bJ x1.1
 refine⟨λO h aS x aq=>h=m.length-O/\O<=m.length/\∃n f a,fO bB ar f aq/\f d=k/\a d=k/\aq d=E (.aG aS)/\kl u f n aS a/\cS f a/\bu a aq/\(∀N,a N≠k->ar N=k)/\gW (dg bW bL L) x bB/\x.length=(dg bW bL L).length/\cp J (k4 (λX=>mq (Q X) (w X)) (m.drop O) n) l bB ar (fs (uN u) bk q),
  ⟨_,rfl,jl _,[],bB,λ_=>k,.heap x1.2.1 (oD B _),x1.2.1.ck B,rfl,js,λ_=>rfl,λ_=>.inr rfl,(λN C I=>by cases I),λN I=>absurd rfl I,Wt a2,Wu.symm,a1⟩,?_⟩
 rintro O h aS x aq ⟨rfl,aB,n,f,a,s,av,D,aw,F,az,aA,aa,aC,ac,p⟩;by_cases K:O<m.length
 ·right
  have aW:m[O]?=E m[O]:=gd K;obtain⟨a3,a4⟩:=au.eC O aq m[O] (s.1.b_ s.2.1) aW;refine⟨a3,λag ah M=>O+1<=m.length/\∃n f a,fO bB ar f M/\f d=k/\a d=k/\M d=E (.aG ag)/\kl u f n ag a/\cS f a/\bu a M/\(∀N,a N≠k->ar N=k)/\gW (dg bW bL L) ah bB/\ah.length=(dg bW bL L).length/\cp J (k4 (λX=>mq (Q X) (w X)) (m.drop (O+1)) n) l bB ar (fs (uN u) bk q),λag ah M I=>⟨m.length-(O+1),by omega,rfl,I⟩,λv a5 a6=>?_⟩
  obtain⟨ao,x2,a7⟩:=a4 v a5 a6 f s.1 s.2.1;have ak:∀{P R y U:aj},fO P R y U->P d=k->R d=E (.aG aS)->cS P a->bu a R->(y d=k/\U d=E (.aG aS))/\cS y a/\bu a U:=by
   intro P R y U X ab af br aD;refine⟨⟨?_,X.2.2.1 _ _ af⟩,λN=>?_,aD.b_ X.2.2.1⟩
   ·cases I:y d with
    |none=>rfl|some C=>have:=X.2.2.2 d ab (by rw[I];exact fE _);rw[af]at this;cases this
   ·cases t:a N with
    |none=>exact .inr rfl|some r=>
     left;rcases br N with I |I
     ·cases a8:y N with
      |none=>rfl|some C=>have:=X.2.2.2 N I (by rw[a8];exact fE _);rw[aD _ _ t]at this;cases this
     ·rw[I]at t;cases t
  obtain⟨⟨a9,a_⟩,ba,bb⟩:=ak x2 av aw az aA;refine aV m[O] v x ao a5 _ x2.2.1 a7 λc aE=>?_
  have bc:gW (dg bW bL L) x ao:=aC.bJ (s.1.b_ x2.1);obtain⟨aF,aG,bw⟩:=Wo aE ac.symm bc;have aI:gW (dg bW bL L) (qO x c) bB:=by
   have bd:=aX m[O];refine λj A e=>?_
   by_cases aJ:∃V∈(cT m[O]).map (·.1),V=j
   ·obtain⟨V,al,rfl⟩:=aJ
    rw[bd V al A e];trivial
   ·have:((qO x c)[j]?)=x[j]?:=Wr aE (λal=>aJ ⟨j,al,rfl⟩)
    rw[this];exact aC j A e
  have be:m.drop O=m[O]::m.drop (O+1):=rF K;rw[be]at p;unfold k4 at p;cases ec:Q m[O]with
  |aQ=>unfold mq at p;rw[ec]at p;exact p.elim|aW bf=>unfold mq at p;rw[ec]at p;exact p.elim|i bg=>
   refine aY m[O] _ ao a5 _ aF x2.2.1 ?_;rw[ec];intro aK bh x3;obtain⟨⟨aM,aN⟩,aP,am⟩:=ak x3 a9 a_ ba bb;have an:=(s.b_ x2).b_ x3;cases bg with
   |false=>
    rw[if_neg (by decide)]
    refine⟨K,n,aK,a,an,aM,D,aN,F.bJ (x2.1.b_ x3.1),aP,am,aa,aI,by rw[aG];exact ac,?_⟩
    unfold mq at p;rw[ec]at p;exact p
   |true=>
    rw[if_pos rfl];cases W:w m[O]with
    |aQ=>unfold mq at p;rw[ec,W]at p;exact p.elim|aW bf=>unfold mq at p;rw[ec,W]at p;exact p.elim|i t=>
     unfold mq at p;rw[ec,W]at p;have z:cp J (Mo.eS (n.length+1) (k4 (λX=>mq (Q X) (w X)) (m.drop (O+1)) (n++[t]))) l bB ar (fs (uN u) bk q):=p
     obtain⟨bx,z⟩:=z.eS;refine aZ m[O] _ aK bh _ (aF.bJ x3.1) x3.2.1 ?_;rw[W];intro bi bz x4 bC Y aR bj bl bm;obtain⟨⟨aT,bn⟩,bo,bp⟩:=ak x4 aM aN aP am;have bD:=F.b6;have aU:Y d=k:=by
      grind
     have bq:cS a Y:=λN=>by
      cases I:Y N with
      |none=>exact .inr rfl|some r=>exact .inl (am.ck (aR N (by rw[I];exact fE _)))
     have Z:=an.b_ x4;refine⟨bn,by omega,K,n++[t],bi,aH a Y,?_,aT,by unfold aH;rw[D];exact aU,js,(F.bJ ((x2.1.b_ x3.1).b_ x4.1)).snoc bm bq,λN=>?_,λN C I=>?_,λN I=>?_,aI,by rw[aG];exact ac,z⟩
     ·refine⟨Z.1,λb C I=>?_,λb C I=>?_,Z.2.2.2⟩
      ·unfold b8;split
       ·rename_i r;rw[r,aT]at I;cases I
       ·exact Z.2.1 _ _ I
      ·unfold b8;split
       ·rename_i r;rw[r,B]at I;cases I
       ·exact Z.2.2.1 _ _ I
     ·unfold aH
      cases I:a N with
      |some r=>
       rcases bo N with t |t
       ·exact .inl t
       ·rw[t]at I;cases I
      |none=>exact bj N
     ·have bs:N≠d:=λr=>by
       unfold aH at I;rw[r,D,aU]at I;cases I
      unfold b8;rw[if_neg bs];unfold aH at I;cases r:a N with
      |some bS=>rw[r]at I;cases I;exact bp _ _ r|none=>rw[r]at I;exact bl _ _ I
     ·unfold aH at I
      cases r:a N with
      |some bS=>exact aa N (by rw[r];exact fE _)|none=>rw[r]at I;exact an.2.2.1.ck (aR N I)
 ·left
  have e:O=m.length:=by omega
  subst e;refine⟨au.pw aq (s.1.b_ s.2.1),?_⟩;rw[vI]at p;have z:fs (uN u) bk q n f aq:=p f aq s;have bt:cS (cN d (.aG aS)) a:=λN=>by
   unfold cN;split
   ·rename_i r;rw[r];exact .inr D
   ·exact .inl rfl
  refine z (.a0 d) (aH (cN d (.aG aS)) a) (λN I=>?_) (λN=>?_) (λN C I=>?_) ⟨d,aS,a,rfl,fH bt,F⟩
  ·unfold aH cN at I
   by_cases r:N=d
   ·rw[r];exact x1.2.2.1.ck B
   ·simp only[if_neg r]at I;exact x1.2.2.1.ck (aa N I)
  ·by_cases r:N=d
   ·rw[r];exact .inl av
   ·unfold aH cN;simp only[if_neg r];exact az N
  ·unfold aH cN at I
   by_cases r:N=d
   ·simp only[if_pos r]at I;rw[r];cases I;exact aw
   ·simp only[if_neg r]at I;exact aA _ _ I
section
open PySem PySem.Spec PyProof.Rows PySem.W
end
theorem kM {ay:Type}{aa:List ay}{z:Nat}(Y:aa.length=z+1):∃S n,aa=S::n/\n.length=z:=by
 cases aa with
 |nil=>cases Y|cons S n=>exact⟨S,n,rfl,fD Y⟩
theorem g7.Ez {X b:Str}{aU:d4}{w:aV}{bG:hk}{aF:cx}(i:aF.length=1)(F:g7 J X b aU w bG)(Y:∀(c d e:aR) (f:gv) (g h:aR) (a:aR),bindArgs (W.fnOf X b (kL aU) (iV aU) (fZ aU) .none c d e f g h) ⟨[a],[]⟩=pure (aF.zip [a])):h7 J bG aF []:=by
 refine F.DH λc d e f g h aa j=>?_
 obtain⟨a,dP,rfl,ab⟩:=kM (j.trans i);simp_all
theorem g7.wV {X c:Str}{aU:d4}{w:aV}{bG:hk}{aF:cx}(j:aF.length=2)(F:g7 J X c aU w bG)(Y:∀(d e f:aR) (g:gv) (h i:aR) (a b:aR),bindArgs (W.fnOf X c (kL aU) (iV aU) (fZ aU) .none d e f g h i) ⟨[a,b],[]⟩=pure (aF.zip [a,b])):h7 J bG aF []:=by
 refine F.DH λd e f g h i aa l=>?_
 obtain⟨a,dP,rfl,ab⟩:=kM (l.trans j);obtain⟨b,cv,rfl,af⟩:=kM ab;simp_all
theorem g7.LJ {X d:Str}{aU:d4}{w:aV}{bG:hk}{aF:cx}(l:aF.length=3)(F:g7 J X d aU w bG)(Y:∀(e f g:aR) (h:gv) (i j:aR) (a b c:aR),bindArgs (W.fnOf X d (kL aU) (iV aU) (fZ aU) .none e f g h i j) ⟨[a,b,c],[]⟩=pure (aF.zip [a,b,c])):h7 J bG aF []:=by
 refine F.DH λe f g h i j aa m=>?_
 obtain⟨a,dP,rfl,ab⟩:=kM (m.trans l);obtain⟨b,cv,rfl,af⟩:=kM ab;obtain⟨c,n,rfl,br⟩:=kM af;simp_all
end
def EA (lL fW Ag:bN):bN:=λo R q=>lL o R λX ar=>(match X with |.a0 S=>∃ba,ar S=E (.ey ba)|_=>False)/\fW o ar λt a5=>Ag o a5 λI a=>sq X t a λS ba D=>
 match g8 ba D with |some v=>q v a |none=>ba.length<cw/\q I (b8 a S (.ey (jx ba D I)))
section
variable {H:bQ}{C e w:bI}{fp hI:Pos}{lL fW Ag:bN}
theorem Xy (ah:H.p.units+60<cLine)(x:bt H C lL)(y:bt H e fW)(z:bt H w Ag)(h:KU H C "setdefault" fp e w hI:=by exact⟨rfl,rfl,rfl,rfl⟩):bt H (.Call (.Attribute C "setdefault" fp) [e,w] [] hI) (EA lL fW Ag):=by
 intro ag A o R q B Y;refine wpAny_Call_method h.bg h.KV h.line PySem.F.plainAttrs_dict I_ PySem.F.type_dict_setdefault (b9 (x ag A o R _ B Y) λu bh F=>?_)
 obtain⟨X,ar,i,G,j,J⟩:=F;cases X with
 |a0 S=>
  obtain⟨K,L⟩:=j;obtain rfl:u=jR S:=G;obtain⟨dP,cv,_⟩:=V9 i (.inl ⟨K,.inl L⟩);refine⟨dP,cv,?_⟩;rw[h.KW];refine Calls.callWith_builtin rfl (Calls.evalArgs_plain (Calls.spliced_cons (b9 (y ag bh o ar _ i J) λaj bj ⟨t,a5,M,N,O⟩=>
   Calls.spliced_cons (b9 (z ag bj o a5 _ M O) λP ak ⟨I,Q,b,l,T⟩=>Calls.spliced_nil ?_))))
  obtain⟨pI,ba,D,U,rfl,m,V⟩:=KZ T;cases U;obtain⟨W,n,c,d,c_⟩:=KR b.cA m;have Z:c.length<=cw:=by rw[<- d.dB];exact W
  have a:=d.cj D;refine call_meetsIn I_ c_.typeIs PySem.F.entry_dict_setdefault (PySem.F.args_dict_setdefault_3 _ _ _) (kt_meets_setdefault (kG H.cb H.r) S (uy N) n P) ⟨c,c_,Z,λv aa=>?_,λab aE r ac=>?_⟩
  ·rw[aa]at a
   cases g:g8 ba D with
   |none=>rw[g]at a;exact a.elim|some s=>rw[g]at a V;exact⟨s,Q,b.fX _,a,V⟩
  ·rw[ab]at a
   cases g:g8 ba D with
   |some s=>rw[g]at a;exact a.elim|none=>
    rw[g]at V;have af:(jx ba D I).length<=cw:=by have:=D7 ba D I;have:=V.1;lia
    have f:∃V,aE.get? S=E V:=let⟨V,_,_,f,_⟩:=r;⟨V,f⟩
    exact⟨I,_,D8 b (by rw[m];exact mb) ac f (KS af n (d.gn D l) r),l,V.2⟩
 |_=>exact j.elim
end
def wW (J:bD)(X V:Str)(aU:d4)(w:aV):Prop:=∃(b:aR) (c:gv) (d e f:aR) (g:gv) (a h:aR) (i:mP),
 J.lookup w=E ⟨b,c,.func (W.fnOf X V (kL aU) (iV aU) (fZ aU) .none d e f g a h),i⟩/\ph J a V=ae/\kE J (.ref w)=ae
def dn (J:bD)(X:Str)(aU:d4):Prop:=∃w,gu J fb X=E (E (.ref w))/\wW J X X aU w
def oJ (J:bD)(Q h V:Str)(aU:d4):Prop:=∃a w,gu J fb Q=E (E (.ref a))/\i6 J (.ref a) h=E (E (.ref w))/\rQ J (.ref w)=ae/\wW J h V aU w
def iJ (J:bD)(Q:Str):Prop:=∃a,gu J fb Q=E (E (.ref a))/\tT J a CQ=ae/\tS J a=ae/\yL J a=ae /\
 i6 J (.ref a) "__setattr__"=E (E (.builtin "object.__setattr__"))/\yN J a=ae/\kE J (.ref a)=ae
def uQ (J:bD)(Q S:Str):Prop:=∃a,gu J fb Q=E (E (.ref a))/\i6 J (.ref a) S=E k
def EB (J:bD)(X:Str):Prop:=gu J fb X=E k
def wX (J:bD)(X:Str)(v:aL):Prop:=∃u,gu J fb X=E (E u)/\cc v u
def sJ (J:bD)(X:Str):Prop:=∃Q,gu J fb X=E (E (.ref Q))
def k7 (J:bD)(a7:eu):Prop:=∃Y:Heap,J.In Y/\Y.Ns fb a7
section
variable {P:cW}{r:cF}{J:bD}{a7:eu}{bg:Heap}{dk:i_}{X V Q h S:Str}{aU:d4}{w:aV}{bG:hk}{aF:cx}{D:Nat}{cf:gH}{v:aL}
theorem dn.h9 {b:aR}{c:gv}{d e f:aR}{g:gv}{a h:aR}{i:mP}(Y:gu J fb X=E (E (.ref w)))(s:J.lookup w=E ⟨b,c,.func (W.fnOf X X (kL aU) (iV aU) (fZ aU) .none d e f g a h),i⟩)(Q:ph J a X=ae)(D:kE J (.ref w)=ae):dn J X aU:=⟨w,Y,b,c,d,e,f,g,a,h,i,s,Q,D⟩
theorem oJ.h9 {a:aV}{c:aR}{d:gv}{e f g:aR}{i:gv}{b j:aR}{l:mP}(Y:gu J fb Q=E (E (.ref a)))(ab:i6 J (.ref a) h=E (E (.ref w)))(af:rQ J (.ref w)=ae)(s:J.lookup w=E ⟨c,d,.func (W.fnOf h V (kL aU) (iV aU) (fZ aU) .none e f g i b j),l⟩)(br:ph J b V=ae)(D:kE J (.ref w)=ae):oJ J Q h V aU:=⟨a,w,Y,ab,af,c,d,e,f,g,i,b,j,l,s,br,D⟩
theorem iJ.h9 {a:aV}(Y:gu J fb Q=E (E (.ref a)))(ab:tT J a CQ=ae)(af:tS J a=ae)(br:yL J a=ae)(b:i6 J (.ref a) "__setattr__"=E (E (.builtin "object.__setattr__")))(c:yN J a=ae)(d:kE J (.ref a)=ae):iJ J Q:=⟨a,Y,ab,af,br,b,c,d⟩
theorem uQ.h9 {a:aV}(Y:gu J fb Q=E (E (.ref a)))(ab:i6 J (.ref a) S=E k):uQ J Q S:=⟨a,Y,ab⟩
theorem wX.h9 {u:aR}(Y:gu J fb X=E (E u))(ab:cc v u):wX J X v:=⟨u,Y,ab⟩
theorem sJ.h9 {a:aV}(Y:gu J fb X=E (E (.ref a))):sJ J X:=⟨a,Y⟩
theorem wW.EC (Y:wW J X V aU w):∃bG,g7 J X V aU w bG:=by
 obtain⟨a,b,c,d,e,f,g,h,i,s,Q,D⟩:=Y;exact⟨_,Kh s Q D⟩
theorem k7.Xz (a:k7 J a7)(Y:EB J X):si a7 X:=by
 obtain⟨_,H,ah⟩:=a;exact W.mg_none_of H ah Y
theorem k7.XA (a:k7 J a7)(Y:wX J X v):um a7 X v:=by
 obtain⟨_,H,ah⟩:=a;obtain⟨u,e,G⟩:=Y;exact⟨u,yQ H ah e,G⟩
theorem k7.nM (a:k7 J a7)(Y:sJ J X):a7 X=E (.ref (da J X)):=by
 obtain⟨_,H,ah⟩:=a;obtain⟨u,e⟩:=Y;rw[sj e];exact yQ H ah e
theorem k7.LK (a:k7 J a7)(Y:sJ J X):um a7 X (.a0 (da J X)):=⟨_,a.nM Y,rfl⟩
theorem iJ.cls (Y:iJ J Q):lG J (da J Q):=by
 obtain⟨b,e,ab,af,br,a,_⟩:=Y;rw[sj e];exact⟨ab,af,br,a⟩
theorem uQ.aQ (Y:uQ J Q S):pA J (da J Q) S:=by
 obtain⟨a,e,Y⟩:=Y;rwa[sj e]
abbrev wY (P:cW)(r:cF)(J:bD)(a7:eu)(bg:Heap)(dk:i_)(D:Nat)(X V:Str)(aU:d4)(aF:cx)(cf:gH):Prop:=∀w bG,g7 J X V aU w bG->gI P r J a7 bg dk D w bG aF cf/\h7 J bG aF []
theorem LL (a:k7 J a7)(F:dn J X aU)(Y:wY P r J a7 bg dk D X X aU aF cf):zP P r J a7 bg dk D X aF cf:=by
 obtain⟨_,H,ah⟩:=a;obtain⟨w,e,O⟩:=F;obtain⟨bG,F⟩:=O.EC;exact⟨w,bG,(Y w bG F).1,yQ H ah e,F.lH,(Y w bG F).2⟩
theorem Ah (aJ:iJ J Q)(F:oJ J Q h V aU)(Y:wY P r J a7 bg dk D h V aU aF cf):pK P r J a7 bg dk D (da J Q) h aF cf:=by
 obtain⟨b,w,e,az,a,O⟩:=F;obtain⟨bG,F⟩:=O.EC;exact⟨w,bG,(Y w bG F).1,aJ.cls,by rw[sj e];exact⟨az,a,F.lH⟩,(Y w bG F).2⟩
theorem XB (a:k7 J a7)(aJ:iJ J Q)(F:oJ J Q "__init__" V aU)(Y:wY P r J a7 bg dk D "__init__" V aU aF cf):sI P r J a7 bg dk D Q (da J Q) aF cf:=by
 obtain⟨g,w,e,az,b,O⟩:=F;obtain⟨bG,F⟩:=O.EC;obtain⟨h,c,_,_,_,_,d,f⟩:=aJ;cases e.symm.trans c;refine⟨w,bG,(Y w bG F).1,by rw[sj e];exact⟨d,az,b,f⟩,a.nM ⟨_,e⟩,(Y w bG F).2⟩
end
section
variable {J:bD}{X V:Str}{aU:d4}{aF:cx}
abbrev LM (J:bD)(X V:Str)(aU:d4)(aF:cx):Prop:=∀w bG,g7 J X V aU w bG->h7 J bG aF []
variable {s:PySem.W.OpenLaw}{r:cF}{a7:eu}{D:Nat}{cf:gH}{g6:aV}
theorem XC (h:k7 J a7)(F:dn J "law" aU)(i:a7 "law"=E (.ref g6))(j:∀(a b c:aR) (d:gv) (f g:aR) (A:aY) (v:aR),bindArgs (W.fnOf "law" "law" (kL aU) (iV aU) (fZ aU) .none a b c d f g) ⟨[v],[]⟩=pure [(X,v)])
  (Y:∀(bg:Heap) (w:aV) (bG:hk),g7 J "law" "law" aU w bG->gI s.prog r J a7 bg fe D w bG [X] cf):
  ∃bG:hk,(∀(A:aY) (v:aR),BindsTo A bG ⟨[v],[]⟩ [(X,v)])/\∀bg:Heap,J.In bg->bg.Ns fb a7->gI s.prog r J a7 bg fe D g6 bG [X] cf:=by
 obtain⟨_,H,ah⟩:=h;obtain⟨w,e,m,n,a,b,c,d,f,g,o,l,Q,hs⟩:=F;cases i.symm.trans (yQ H ah e);exact⟨_,λA v=>.of_eq (j a b c d f g A v),λbg _ _=>Y bg _ _ (Kh l Q hs)⟩
def wZ (J:bD):gH:=λc R q _=>∃(S:aV) (a:ef),c=[.a0 S]/\dG J R S (a.map aL.d)/\a.length<=63/\z2 a/\∀aq,q (.aM ae) aq
end
abbrev XD:=@PySem.F.slot_str_find
abbrev XE:=@PySem.F.type_str_find
abbrev XF:=@PySem.F.slot_str_index
abbrev XG:=@PySem.F.type_str_index
abbrev XH:=@PySem.F.slot_str_split
abbrev XI:=@PySem.F.type_str_split
abbrev XJ:=@PySem.F.slot_str_join
abbrev XK:=@PySem.F.type_str_join
abbrev uR:=@PySem.F.plainAttrs_list
abbrev LN:=@PySem.F.slot_list_append
abbrev LO:=@PySem.F.type_list_append
abbrev LP:=@PySem.F.slot_list_extend
abbrev LQ:=@PySem.F.type_list_extend
abbrev LR:=@PySem.F.slot_list_pop
abbrev LS:=@PySem.F.type_list_pop
section
variable {aU:SortSt}
structure jV (aU a:SortSt):Prop where
 D:kindOf a=kindOf aU
 S:arrOf a=arrOf aU
 N:pendingOf a=pendingOf aU
 w:failedOf a=failedOf aU
end
def ED (J:bD)(S:Str)(P:aV->Prop):Prop:=∃v,gu J fb S=E (E (.ref v))/\P v
theorem ED.h9 {J:bD}{S:Str}{P:aV->Prop}{v:aV}(Y:gu J fb S=E (E (.ref v)))(N:P v):ED J S P:=⟨v,Y,N⟩
def EE (J:bD)(S b:Str)(P:aV->aV->Prop):Prop:=∃v r,gu J fb S=E (E (.ref v))/\gu J fb b=E (E (.ref r))/\P v r
theorem EE.h9 {J:bD}{S b:Str}{P:aV->aV->Prop}{v r:aV}(Y:gu J fb S=E (E (.ref v)))(af:gu J fb b=E (E (.ref r)))(N:P v r):EE J S b P:=⟨v,r,Y,af,N⟩
open PySem.SeqAt
open PySem.AutoSeq1 (wpAny_loadPart')
open PySem.MeetsSeq PySem.MeetsSeq2 PySem.MeetsSeq3
section
variable {H:bQ}{ag:di}{o:bU}{R:aj}{A:aY}{p:dp}
theorem XM {X t:aL}{v u:aR}(c:cc X v)(a:cc t u)(g:gw X=ae)(e:gw t=ae):og p A v u (ja X t):=by
 cases X with
 |a9=>
  cases c;cases t with
  |a9=>cases a;exact SeqAt.RcAt.none_none|aM b=>cases a;exact SeqAt.RcAt.none_bool _|d b=>obtain⟨n,rfl⟩:=a;exact SeqAt.RcAt.none_int _ _|f b=>obtain⟨n,rfl⟩:=a;exact SeqAt.RcAt.none_str _ _|_=>cases e
 |aM S=>
  cases c;cases t with
  |a9=>cases a;exact SeqAt.RcAt.bool_none _|aM b=>cases a;exact SeqAt.RcAt.bool_bool _ _|d b=>obtain⟨n,rfl⟩:=a;exact SeqAt.RcAt.bool_int _ _ _|f b=>obtain⟨n,rfl⟩:=a;exact SeqAt.RcAt.bool_str _ _ _|_=>cases e
 |d S=>
  obtain⟨h,rfl⟩:=c;cases t with
  |a9=>cases a;exact SeqAt.RcAt.int_none _ _|aM b=>cases a;exact SeqAt.RcAt.int_bool _ _ _|d b=>obtain⟨n,rfl⟩:=a;exact SeqAt.RcAt.int_int _ _ _ _|f b=>obtain⟨n,rfl⟩:=a;exact SeqAt.RcAt.int_str _ _ _ _|_=>cases e
 |f S=>
  obtain⟨h,rfl⟩:=c;cases t with
  |a9=>cases a;exact SeqAt.RcAt.str_none _ _|aM b=>cases a;exact SeqAt.RcAt.str_bool _ _ _|d b=>obtain⟨n,rfl⟩:=a;exact SeqAt.RcAt.str_int _ _ _ _|f b=>obtain⟨n,rfl⟩:=a;exact SeqAt.RcAt.str_str _ _ _ _|_=>cases e
 |_=>cases g
theorem XN {X t:aL}{v u:aR}(c:cc X v)(a:cc t u)(g:gw X=ae)(e:gw t=ae):rV p A v u (!ja X t):=by
 cases X with
 |a9=>
  cases c;cases t with
  |a9=>cases a;exact Rn|aM b=>cases a;exact Ro _|d b=>obtain⟨n,rfl⟩:=a;exact RA _ _|f b=>obtain⟨n,rfl⟩:=a;exact RB _ _|_=>cases e
 |aM S=>
  cases c;cases t with
  |a9=>cases a;exact Rp _|aM b=>cases a;exact Rq _ _|d b=>obtain⟨n,rfl⟩:=a;exact RC _ _ _|f b=>obtain⟨n,rfl⟩:=a;exact RD _ _ _|_=>cases e
 |d S=>
  obtain⟨h,rfl⟩:=c;cases t with
  |a9=>cases a;exact RE _ _|aM b=>cases a;exact RF _ _ _|d b=>obtain⟨n,rfl⟩:=a;exact RM _ _ _ _|f b=>obtain⟨n,rfl⟩:=a;exact RN _ _ _ _|_=>cases e
 |f S=>
  obtain⟨h,rfl⟩:=c;cases t with
  |a9=>cases a;exact RG _ _|aM b=>cases a;exact RH _ _ _|d b=>obtain⟨n,rfl⟩:=a;exact RO _ _ _ _|f b=>obtain⟨n,rfl⟩:=a;exact RP _ _ _ _|_=>cases e
 |_=>cases g
theorem XO {N:aV}{g:g5}{t:aL}{u:aR}(a:A.heap.IsList N g)(c:cc t u)(h:gw t=ae)(e:p.units<cLine):og p A (.ref N) u ax:=by
 cases t with
 |a9=>cases c;exact SeqAt.RcAt.list_none a e|aM b=>cases c;exact SeqAt.RcAt.list_bool _ a e|d b=>obtain⟨n,rfl⟩:=c;exact SeqAt.RcAt.list_int _ _ a e|f b=>obtain⟨n,rfl⟩:=c;exact SeqAt.RcAt.list_str _ _ a e|_=>cases h
theorem XP {N:aV}{g:g5}{t:aL}{u:aR}(a:A.heap.IsList N g)(c:cc t u)(h:gw t=ae)(e:p.units<cLine):og p A u (.ref N) ax:=by
 cases t with
 |a9=>cases c;exact SeqAt.RcAt.none_list a e|aM b=>cases c;exact SeqAt.RcAt.bool_list _ a e|d b=>obtain⟨n,rfl⟩:=c;exact SeqAt.RcAt.int_list _ _ a e|f b=>obtain⟨n,rfl⟩:=c;exact SeqAt.RcAt.str_list _ _ a e|_=>cases h
theorem XQ {N:aV}{g:g5}{t:aL}{u:aR}(a:A.heap.IsTuple N g)(c:cc t u)(h:gw t=ae)(e:p.units<cLine):og p A (.ref N) u ax:=by
 cases t with
 |a9=>cases c;exact SeqAt.RcAt.tuple_none a e|aM b=>cases c;exact SeqAt.RcAt.tuple_bool _ a e|d b=>obtain⟨n,rfl⟩:=c;exact SeqAt.RcAt.tuple_int _ _ a e|f b=>obtain⟨n,rfl⟩:=c;exact SeqAt.RcAt.tuple_str _ _ a e|_=>cases h
theorem XR {N:aV}{g:g5}{t:aL}{u:aR}(a:A.heap.IsTuple N g)(c:cc t u)(h:gw t=ae)(e:p.units<cLine):og p A u (.ref N) ax:=by
 cases t with
 |a9=>cases c;exact SeqAt.RcAt.none_tuple a e|aM b=>cases c;exact SeqAt.RcAt.bool_tuple _ a e|d b=>obtain⟨n,rfl⟩:=c;exact SeqAt.RcAt.int_tuple _ _ a e|f b=>obtain⟨n,rfl⟩:=c;exact SeqAt.RcAt.str_tuple _ _ a e|_=>cases h
theorem XS {N:aV}{g:g5}{t:aL}{u:aR}(a:A.heap.IsList N g)(c:cc t u)(h:gw t=ae)(e:p.units<cLine):rV p A (.ref N) u ae:=by
 cases t with
 |a9=>cases c;exact Rr a e|aM b=>cases c;exact Rt _ a e|d b=>obtain⟨n,rfl⟩:=c;exact RI _ _ a e|f b=>obtain⟨n,rfl⟩:=c;exact RJ _ _ a e|_=>cases h
theorem XT {N:aV}{g:g5}{t:aL}{u:aR}(a:A.heap.IsList N g)(c:cc t u)(h:gw t=ae)(e:p.units<cLine):rV p A u (.ref N) ae:=by
 cases t with
 |a9=>cases c;exact Ru a e|aM b=>cases c;exact Rv _ a e|d b=>obtain⟨n,rfl⟩:=c;exact RK _ _ a e|f b=>obtain⟨n,rfl⟩:=c;exact RL _ _ a e|_=>cases h
theorem XU {N:aV}{g:g5}{t:aL}{u:aR}(a:A.heap.IsTuple N g)(c:cc t u)(h:gw t=ae)(e:p.units<cLine):rV p A (.ref N) u ae:=by
 cases t with
 |a9=>cases c;exact Rj a e|aM b=>cases c;exact Rk _ a e|d b=>obtain⟨n,rfl⟩:=c;exact Rw _ _ a e|f b=>obtain⟨n,rfl⟩:=c;exact Rx _ _ a e|_=>cases h
theorem XW {N:aV}{g:g5}{t:aL}{u:aR}(a:A.heap.IsTuple N g)(c:cc t u)(h:gw t=ae)(e:p.units<cLine):rV p A u (.ref N) ae:=by
 cases t with
 |a9=>cases c;exact Rl a e|aM b=>cases c;exact Rm _ a e|d b=>obtain⟨n,rfl⟩:=c;exact Ry _ _ a e|f b=>obtain⟨n,rfl⟩:=c;exact Rz _ _ a e|_=>cases h
theorem XX (g:a6 H ag o R A){z:Nat}{X t:aL}{b:Bool}(Y:gU H.J R z X t b):∀(p:dp) (v u:aR),p.units+z<cLine->cc X v->cc t u->og p A v u b:=by
 induction Y with
 |sm q h=>exact λp v u _ a c=>XM a c q h|aG e d i l Y m=>exact λp v u f a c=>(so g (.aG e d i l Y) p v u f a c).2 _ _ rfl rfl|qI d i l=>exact λp v u f a c=>(so g (.qI d i l) p v u f a c).2 _ _ rfl rfl|a_ e d i Y m=>exact λp v u f a c=>(so g (.a_ e d i Y) p v u f a c).2 _ _ rfl rfl|h6 d i=>exact λp v u f a c=>(so g (.h6 d i) p v u f a c).2 _ _ rfl rfl|hH d i=>exact λp v u f a c=>(so g (.hH d i) p v u f a c).2 _ _ rfl rfl|uu d h=>intro p v u f a c;cases a;obtain⟨n,_,j,_⟩:=g.dV d;exact XO j.isList c h (by lia)
 |uv d h=>intro p v u f a c;cases c;obtain⟨n,_,j,_⟩:=g.dV d;exact XP j.isList a h (by lia)
 |uw d h=>intro p v u f a c;cases a;obtain⟨n,_,j,_⟩:=g.gj d;exact XQ j c h (by lia)
 |ml d h=>intro p v u f a c;cases c;obtain⟨n,_,j,_⟩:=g.gj d;exact XR j a h (by lia)
 |iH Y m=>exact λp v u f a c=>m p v u (by lia) a c
def EF (J:bD):d0:=λX t R q=>∃z b,z<=50/\gU J R z X t b/\q (.aM b) R
theorem XY (e:H.p.units+60<cLine):dj H (eJ .Eq) (EF H.J):=by
 intro ag A o R X t v u q a c d Y;obtain⟨z,b,f,Y,V⟩:=Y;exact(XX a Y _ v u (by lia) c d) _ _ _ _ ⟨.aM b,R,a,rfl,V⟩
theorem XZ (g:a6 H ag o R A){z:Nat}{X t:aL}{b:Bool}(Y:gU H.J R z X t b):∀(p:dp) (v u:aR),p.units+z<cLine->cc X v->cc t u->rV p A v u (!b):=by
 induction Y with
 |sm q h=>exact λp v u _ a c=>XN a c q h|aG e d i l Y m=>exact λp v u f a c=>wB g (.aG e d i l Y) p v u f a c _ _ rfl rfl|qI d i l=>exact λp v u f a c=>wB g (.qI d i l) p v u f a c _ _ rfl rfl|a_ e d i Y m=>exact λp v u f a c=>wB g (.a_ e d i Y) p v u f a c _ _ rfl rfl|h6 d i=>exact λp v u f a c=>wB g (.h6 d i) p v u f a c _ _ rfl rfl|hH d i=>exact λp v u f a c=>wB g (.hH d i) p v u f a c _ _ rfl rfl|uu d h=>intro p v u f a c;cases a;obtain⟨n,_,j,_⟩:=g.dV d;exact XS j.isList c h (by lia)
 |uv d h=>intro p v u f a c;cases c;obtain⟨n,_,j,_⟩:=g.dV d;exact XT j.isList a h (by lia)
 |uw d h=>intro p v u f a c;cases a;obtain⟨n,_,j,_⟩:=g.gj d;exact XU j c h (by lia)
 |ml d h=>intro p v u f a c;cases c;obtain⟨n,_,j,_⟩:=g.gj d;exact XW j a h (by lia)
 |iH Y m=>exact λp v u f a c=>m p v u (by lia) a c
def EG (J:bD):d0:=λX t R q=>∃z b,z<=50/\gU J R z X t b/\q (.aM (!b)) R
theorem X0 (e:H.p.units+60<cLine):dj H (eJ .NotEq) (EG H.J):=by
 intro ag A o R X t v u q a c d Y;obtain⟨z,b,f,Y,V⟩:=Y;exact(XZ a Y _ v u (by lia) c d) _ _ _ _ ⟨.aM _,R,a,rfl,V⟩
end
def EH (J:bD)(Q h V:Str)(aU:d4):Prop:=∃a w,gu J fb Q=E (E (.ref a))/\yM J (.ref a) "__getattribute__"=E (E (.builtin "type.__getattribute__"))/\W.readsIn J a (.type "type")=ae/\W.findCls J (.ref a) (.type "type") h=E (.val (.ref w))/\wW J h V aU w
section
variable {J:bD}{V Q h:Str}{aU:d4}{w:aV}
theorem EH.h9 {a:aV}{c:aR}{d:gv}{e f g:aR}{i:gv}{b j:aR}{l:mP}(Y:gu J fb Q=E (E (.ref a)))(ab:yM J (.ref a) "__getattribute__"=E (E (.builtin "type.__getattribute__")))(af:W.readsIn J a (.type "type")=ae)(br:W.findCls J (.ref a) (.type "type") h=E (.val (.ref w)))
  (s:J.lookup w=E ⟨c,d,.func (W.fnOf h V (kL aU) (iV aU) (fZ aU) .none e f g i b j),l⟩) (m:ph J b V=ae) (n:kE J (.ref w)=ae):EH J Q h V aU:=⟨a,w,Y,ab,af,br,c,d,e,f,g,i,b,j,l,s,m,n⟩
end
noncomputable def mm.Q:mm->String
 |.iW Q=>Q|.at Q _=>Q
def X1 (J:bD)(a:String)(n:tW):Prop:=∀N∈n,(if N.2 then VN J (da J N.1) (da J a)else VM J (da J N.1) (da J a))=ae
structure sL (J:bD)(T:aV)(X a:Str)(aU:d4)(w:aV)(bG:hk):Prop where
 aW:∃(c:aR) (d:gv) (e f g:aR) (h:gv) (b i:aR) (j:mP),
  bG=W.fnOf X a (kL aU) (iV aU) (fZ aU) (.ref T) e f g h b i/\J.lookup w=E ⟨c,d,.func bG,j⟩/\ph J b a=ae
 lH:kE J (.ref w)=ae
noncomputable def EI:aL->aR->Bool
 |.a9,.none=>ae|.d O,.int j _=>O == j|.aM S,.bool b=>S == b|_,_=>ax
def Ai:a3->cu->Bool
 |[],[]=>ae|X::m,v::c=>EI X v && Ai m c|_,_=>ax
theorem X2 {X:aL}{v:aR}(Y:EI X v=ae):cc X v:=by
 unfold EI at Y;split at Y
 ·rfl
 ·exact⟨_,by rw[eq_of_beq Y]⟩
 ·rw[eq_of_beq Y];rfl
 cases Y
theorem LU:∀{m:a3}{c:cu},Ai m c=ae->b3 m c
 |[],[],_=>.nil|X::m,v::c,Y=>by
  unfold Ai at Y;obtain⟨S,b⟩:=kW.mp Y;exact .cons (X2 S) (LU b)
 |[],_::_,Y=>by cases Y
 |_::_,[],Y=>by cases Y
def w0 (J:bD)(Q h V:Str)(aU:d4)(fh:a3):Prop:=∃a w T bG b z c d e,gu J fb Q=E (E (.ref a))/\i6 J (.ref a) h=E (E (.ref w))/\rQ J (.ref w)=ae/\sL J T h V aU w bG /\
 J.lookup T=E ⟨c,d,.seq b z,e⟩/\b3 fh b.toList
section
variable {P:cW}{r:cF}{J:bD}{a7:eu}{bg:Heap}{dk:i_}{X V Q h:Str}{aU:d4}{w:aV}{bG:hk}{aF:cx}{D:Nat}{cf:gH}
theorem w0.h9 {a T:aV}{d e:aR}{f g:gv}{i j l:aR}{m:gv}{b n:aR}{o q:mP}{c:g5}{z:Nat}{fh:a3}(Y:gu J fb Q=E (E (.ref a)))(ab:i6 J (.ref a) h=E (E (.ref w)))(af:rQ J (.ref w)=ae)
  (s:J.lookup w=E ⟨d,f,.func (W.fnOf h V (kL aU) (iV aU) (fZ aU) (.ref T) i j l m b n),o⟩) (r:ph J b V=ae) (t:kE J (.ref w)=ae) (u:J.lookup T=E ⟨e,g,.seq c z,q⟩) (v:Ai fh c.toList=ae):w0 J Q h V aU fh:=
 ⟨a,w,T,_,c,z,e,g,q,Y,ab,af,⟨⟨d,f,i,j,l,m,b,n,o,rfl,s,r⟩,t⟩,u,LU v⟩
def LV (P:cW)(r:cF)(J:bD)(a7:eu)(bg:Heap)(dk:i_)(D:Nat)(X:Str)(aJ:aV)(aF:cx)(fh:a3)(cf:gH):Prop:=
 ∃w bG a,gI P r J a7 bg dk D w bG aF cf/\wh J aJ w/\a7 X=E (.ref aJ)/\b3 fh a/\h7 J bG aF a
abbrev LW (P:cW)(r:cF)(J:bD)(a7:eu)(bg:Heap)(dk:i_)(D:Nat)(X V:Str)(aU:d4)(aF:cx)(cf:gH):Prop:=∀T w bG,sL J T X V aU w bG->gI P r J a7 bg dk D w bG aF cf
end
section
variable {P:cW}{r:cF}{J:bD}{a7:eu}{bg:Heap}{V Q:Str}{aU:d4}{aF:cx}{D:Nat}
theorem X3 {dk:i_}{cf:gH}{fh:a3}(j:Nat)(h:k7 J a7)(aJ:iJ J Q)(F:w0 J Q "__init__" V aU fh)(i:∀T w bG a z b d f,sL J T "__init__" V aU w bG->J.lookup T=E ⟨b,d,.seq a z,f⟩->a.toList.length=fh.length->h7 J bG aF (a.toList.drop j))
  (Y:LW P r J a7 bg dk D "__init__" V aU aF cf):LV P r J a7 bg dk D Q (da J Q) aF (fh.drop j) cf:=by
 obtain⟨x,w,T,bG,a,z,b,d,f,e,az,l,F,o,g⟩:=F;obtain⟨y,q,_,_,_,_,s,t⟩:=aJ;cases e.symm.trans q;have u:∀{m:a3}{c:cu}(j:Nat),b3 m c->b3 (m.drop j) (c.drop j):=λ{m c} j G=>by
  induction j generalizing m c with
  |zero=>exact G|succ j v=>cases G with |nil=>exact .nil |cons S n=>exact v n
 exact⟨w,bG,a.toList.drop j,Y T w bG F,by rw[sj e];exact⟨s,az,l,t⟩,h.nM ⟨_,e⟩,u j g,i T w bG a z b d f F o g.dB.symm⟩
theorem X4 {a:g5}(Y:a.toList.length=5):∃b c d e f,a=#[b,c,d,e,f]:=by
 obtain⟨s⟩:=a;obtain⟨b,s,rfl⟩:=j5 Y;obtain⟨c,s,rfl⟩:=j5 (fD Y);obtain⟨d,s,rfl⟩:=j5 (fD (fD Y));obtain⟨e,s,rfl⟩:=j5 (fD (fD (fD Y)));obtain⟨f,rfl⟩:=qg.mp (fD (fD (fD (fD Y))));exact⟨b,c,d,e,f,rfl⟩
end
noncomputable def Aj:jm->cu->Bool
 |[],[]=>ae|X::m,.str I _::c=>I == ⟨X.toArray⟩ && Aj m c|_,_=>ax
theorem LY:∀{m:jm}{c:cu},Aj m c=ae->b3 (m.map eN) c
 |[],[],_=>.nil|X::m,v::c,Y=>by
  unfold Aj at Y;split at Y
  ·trivial
  ·rename_i aN az
   cases aN;cases az;obtain⟨S,b⟩:=kW.mp Y;exact .cons ⟨_,by rw[eq_of_beq S]⟩ (LY b)
  cases Y
 |[],_::_,Y=>by cases Y
 |_::_,[],Y=>by cases Y
def w1 (J:bD)(X:Str)(m:jm):Prop:=∀R:aj,fx J R (da J X) (m.map eN)
theorem w1.h9 {J:bD}{X:Str}{m:jm}{S:aV}{b:gv}{a:g5}{z:Nat}{c:mP}(Y:gu J fb X=E (E (.ref S)))(s:J.lookup S=E ⟨.type "tuple",b,.seq a z,c⟩)(d:Aj m a.toList=ae)(e:a.toList.length<=1000):w1 J X m:=λR=>by
 rw[sj Y];exact .inr ⟨_,a,z,s,rfl,rfl,jP e (by decide),LY d⟩
instance:Inhabited aL:=⟨.a9⟩
theorem X5 (s:bo):(fl s.length).filterMap (λD=>s[s.length-1-D]?)=s.reverse:=by
 have Y:(fl s.length).map (λD=>s[s.length-1-D]?)=s.reverse.map E:=by
  refine Ii (by simp) λO ab af=>?_
  simp_all
 have e:(fl s.length).filterMap (λD=>s[s.length-1-D]?)=((fl s.length).map (λD=>s[s.length-1-D]?)).filterMap id:=by
  rw[rG];rfl
 rw[e,Y,rG];exact Ib
theorem X6 (X:Str):(qt k k (-1) X.length).filterMap (X.cps[·]?)=X.cps.toList.reverse:=by
 have af:X.cps.toList.length=X.length:=rfl;unfold qt sliceRange;simp only;rw[if_neg (by decide),if_neg (by decide),if_neg (show¬-1 > 0 by decide),rG,<- X5]
 have a:(if(X.length:Int)-1 > -1 then((X.length:Int)-1 - -1 - -1-1) / - -1 else 0)=X.length:=by grind
 rw[a];refine D_ λD b=>?_
 show X.cps[(X.length-1 + -1*(D:Int)).toNat]?=X.cps.toList[X.length-1-D]?
 rw[show((X.length:Int)-1 + -1*D).toNat=X.length-1-D by lia]
 simp
def LZ (dH:bN)(iF:mV):bN:=λo R q=>dH o R λX ar=>iF o ar λC a5=>C=E (-1)/\match X with
 |.f I=>I.cps.toList.length<=cw/\q (eN I.cps.toList.reverse) a5|_=>False
section
variable {H:bQ}{e aU:bI}{dH:bN}{iF:mV}{pos c7:Pos}
theorem X7 (j:bt H e dH)(m:qF H (E aU) iF):bt H (.Subscript e (.Slice k k (E aU) c7) pos) (LZ dH iF):=by
 intro ag A o R q r Y;refine Subscript_ (b9 (j ag A o R _ r Y) λv bh a=>?_)
 obtain⟨X,ar,t,bC,w⟩:=a;have aA:∀(A:aY) (c:aR->aY->Prop),c .none A->bM (model H.cb H.r) H.p (evalPart k H.x) c H.e7 A:=λA c V=>by rw[evalPart_none];exact dx V
 refine wpAny_Slice (aA _ _ (aA _ _ ?_));refine b9 (m ag bh o ar _ t w) λF d a=>?_
 obtain⟨C,h,x,y,z,i⟩:=a;subst z;cases X with
 |f I=>
  obtain⟨B,V⟩:=i;obtain⟨n,rfl⟩:=bC;obtain⟨s,rfl,g⟩:=DM y;have D:a6 H ag o h {d with heap:=d.heap.push {cls:=.type "slice",data:=.fields #[.none,.none,partValue s]}}:=x.iB (a:=d.toks) λb G V=>el _ V
  refine tail_any  (typeIs_str _ _ _) Jh.lookup ?_ (by with_unfolding_all rfl)
  refine wpAny_getItem_str_slice (l:=k) (u:=k) (st:=s) ⟨_,gf _ rfl,rfl,rfl⟩ (by rw[g];rfl) ?_
  unfold sliceMade;rw[if_neg (by rw[g];simp)]
  have az:slicePicked I k k s=qt k k (-1) I.length:=by unfold slicePicked;rw[g];rfl
  rw[az,X6];refine⟨?_,eN I.cps.toList.reverse,h,D.fX _,⟨_,rfl⟩,V⟩;show I.cps.toList.reverse.toArray.size<=cw
  rw[eQ,Cv];exact B
 |_=>exact i.elim
end
section
variable {prog:cW}{r:cF}{p:dp}{l:aR->aY->Prop}
theorem X8 {A:aY}{s:aV}{X t I u v:aR}{q:cu->aY->Prop}(w:p.handled=k)(c:A.heap.IsList s #[X,t,I,u,v])
  (V:∀aE,(∀b C,b≠A.heap.objs.size->A.heap.get? b=E C->aE.get? b=E C)->q [X,t,I,u,v] {A with heap:=aE}):bM (model prog r) p (unpackItems (.ref s) 5 k) q l A:=by
 have ne:s≠A.heap.objs.size:=by obtain⟨C,x,_⟩:=c;exact gg (eK x)
 unfold unpackItems notIterableAtAll;refine bK (bK (wpAny_specialOf c.typeIs slot_list_iter.lookup (dx ?_)));rw[if_neg (by decide)]
 refine bK (wpAny_holding (wpAny_pyIter_list c ?_));have y:Heap.IsListIter (A.heap.push {cls:=.type "list_iterator",data:=.fields #[.ref s,.int 0 0]}) A.heap.objs.size s 0:=⟨_,gf _ rfl,rfl,rfl⟩;refine bK (wpAny_holding ?_);show bM _ _ (pyNext _>>=_) _ _ _;refine bK (wpAny_pyNext_list_item y (c.push _) rfl λab z aN=>?_)
 have d:ab.IsList s #[X,t,I,u,v]:=(c.push _).extBut aN.extBut ne;refine bK (wpAny_holding ?_);show bM _ _ (pyNext _>>=_) _ _ _;refine bK (wpAny_pyNext_list_item (s:={A with heap:=ab}) z d rfl λaf B az=>?_)
 have f:af.IsList s #[X,t,I,u,v]:=d.extBut az.extBut ne;refine bK (wpAny_holding ?_);show bM _ _ (pyNext _>>=_) _ _ _;refine bK (wpAny_pyNext_list_item (s:={A with heap:=af}) B f rfl λbr D g=>?_)
 have h:br.IsList s #[X,t,I,u,v]:=f.extBut g.extBut ne;refine bK (wpAny_holding ?_);show bM _ _ (pyNext _>>=_) _ _ _;refine bK (wpAny_pyNext_list_item (s:={A with heap:=br}) D h rfl λi F j=>?_)
 have m:i.IsList s #[X,t,I,u,v]:=h.extBut j.extBut ne;refine bK (wpAny_holding ?_);show bM _ _ (pyNext _>>=_) _ _ _;refine bK (wpAny_pyNext_list_item (s:={A with heap:=i}) F m rfl λn G o=>?_)
 have J:n.IsList s #[X,t,I,u,v]:=m.extBut o.extBut ne;refine bK (wpAny_holding (dx (dx (dx (dx (dx (dx ?_)))))));rw[if_neg (by simp)]
 refine bK (wpAny_holding (wpAny_pyNext_list_end (s:={A with heap:=n}) w G J rfl λK L=>?_))
 exact dx (V K λb C a e=>L b C a (o.extBut b C a (j.extBut b C a (g.extBut b C a (az.extBut b C a (aN.extBut b C a (el _ e)))))))
end
section
variable {H:bQ}
def EJ (J:bD)(n:jv):iE:=λv o R q=>match v with |.a0 S=>∃X t I u r,dG J R S [X,t,I,u,r]/\n [X,t,I,u,r] o R q |_=>False
theorem X9 {aw:ew}{D:Nat}{n:jv}{pos:Pos}(l:H.fo=ae)(Y:nD H aw n)
  (m:(jN aw H.x).length=5:=by rfl) (r:(jN aw H.x).findIdx? (·.1)=k:=by rfl):jU H (.Tuple aw D pos) (EJ H.J n):=by
 intro ag A o R v u q j G hw;cases v with
 |a0 S=>
  obtain⟨X,t,I,h,z,s,hw⟩:=hw;cases G;obtain⟨w,a,x,_⟩:=j.dV s;obtain⟨c,d,f,g,i,rfl⟩:∃c d f g i,w=[c,d,f,g,i]:=by
   obtain⟨c,F,rfl⟩:=j5 (a.dB.symm);obtain⟨d,dP,rfl⟩:=j5 (fD (a.dB.symm));obtain⟨f,cv,rfl⟩:=j5 (fD (fD (a.dB.symm)));obtain⟨g,J,rfl⟩:=j5 (fD (fD (fD (a.dB.symm))));obtain⟨i,K,rfl⟩:=j5 (fD (fD (fD (fD (a.dB.symm)))));cases qf.mp (fD (fD (fD (fD (fD (a.dB.symm))))));exact⟨c,d,f,g,i,rfl⟩
  rw[Q8];refine bK (wpAny_standAt ?_);unfold unpack;rw[m,r];refine bK (wpAny_holding (X8 (j.i.gi l) x.isList λab y=>?_))
  have B:a6 H ag o R {A with heap:=ab}:=j.iB (a:=A.toks) λb C e=>y b C (gg (eK e)) e
  exact Y ag _ o R _ _ q B a hw
 |_=>exact hw.elim
variable {J:bD}{X V:Str}{aU:d4}{w:aV}{bG:hk}
theorem X_ {aF:cx}{T:aV}{t:aR}{u:gv}{v:mP}{x:g5}{z:Nat}(y:aF.length=10)(F:sL J T X V aU w bG)(B:J.lookup T=E ⟨t,u,.seq x z,v⟩)
  (Y:∀(m n o:aR) (q:gv) (r s:aR) (a b c d e f g h i j:aR) (A:aY),(∃C,A.heap.get? T=E C/\C.data=.seq x z)->BindsTo A (W.fnOf X V (kL aU) (iV aU) (fZ aU) (.ref T) m n o q r s) ⟨[a,b,c,d,e,f,g,h,i,j],[]⟩ (aF.zip [a,b,c,d,e,f,g,h,i,j])):
  h7 J bG aF []:=by
 obtain⟨t,u,m,n,o,q,r,s,v,rfl,lk,P⟩:=F.aW;intro A aa D l;rw[y,dq]at l;have l:aa.length=10:=by simpa using l
 obtain⟨a,dP,rfl,ab⟩:=kM l;obtain⟨b,cv,rfl,af⟩:=kM ab;obtain⟨c,Q,rfl,br⟩:=kM af;obtain⟨d,R,rfl,G⟩:=kM br;obtain⟨e,S,rfl,I⟩:=kM G;obtain⟨f,U,rfl,K⟩:=kM I;obtain⟨g,Z,rfl,L⟩:=kM K;obtain⟨h,ac,rfl,M⟩:=kM L;obtain⟨i,ag,rfl,N⟩:=kM M;obtain⟨j,ah,rfl,O⟩:=kM N;cases qf.mp O;exact Y m n o q r s a b c d e f g h i j A ⟨_,D _ _ B,rfl⟩
variable {lt:kX}
def sl (lt:kX)(S b:Nat):Prop:=lt b S=ax/\(lt S b=ae\/S<b)
end
def Ya (J:bD)(Q P:aV):Bool:=match J.lookup Q with
 |some ⟨.type T,_,.fields c,_⟩=>T=="code" && c[11]?==E (.ref P) && (match c.getD 18 .none,c.getD 7 .none,c.getD 9 .none,c.getD 10 .none with |.str _ _,.int _ _,.bool _,.int _ _=>ae |_,_,_,_=>ax) && Q != P|_=>ax
def eY (J:bD)(pos:Pos):Prop:=∃Q P,CO J "put_in_order"=E (Q,P)/\Ya J Q P=ae/\pq J=E (P,pos,rU "put_in_order" ++ ".<locals>." ++ "<lambda>")
def pL (J:bD):Prop:=W.nsOkIn J cStatics=ae/\gu J cStatics sharingNotToldKey=E k
theorem pL.h9 {J:bD}(ab:W.nsOkIn J cStatics=ae)(af:gu J cStatics sharingNotToldKey=E k):pL J:=⟨ab,af⟩
theorem pL.aQ {J:bD}{Y:Heap}(z:pL J)(H:J.In Y):NoneBooked Y:=⟨_,.of_isNs (W.isNs_of_in H z.1),W.nsMap_none_of_in H z.1 z.2⟩
def L0 (t I:Str)(to:bN):bN:=λo R q=>to o R λv ar=>∃X:Str,v=.f X/\X.length+(X.length+1)*I.length<=16777216/\q (.f (Txt.replace X t I)) ar
section
variable {H:bQ}{C e:bI}{to:bN}{fp hI:Pos}
theorem Yb {t I:Str}{b c:Nat}{d c7:Pos}(e:pL H.J)(f:bt H C to)(h:KU H C "replace" fp (.Constant (.str t) b d) (.Constant (.str I) c c7) hI):
  bt H (.Call (.Attribute C "replace" fp) [.Constant (.str t) b d,.Constant (.str I) c c7] [] hI) (L0 t I to):=by
 intro ag A o R q g Y;refine wpAny_Call_method h.bg h.KV h.line Jg PySem.F.slot_str_replace PySem.F.type_str_replace (b9 (f ag A o R _ g Y) λu bh i=>?_)
 obtain⟨X,ar,a,j,s,aW,l,m⟩:=i;subst aW;obtain⟨n,rfl⟩:=j;refine⟨typeIs_str _ _ _,(λS I=>by cases I),?_⟩
 rw[h.KW];refine Calls.callWith_builtin rfl (Calls.evalArgs_plain (Calls.spliced_cons (Calls.Constant_str (Calls.spliced_cons (Calls.Constant_str (Calls.spliced_nil ?_))))));have v:=a.tk;exact j_ (SC.replaceA (s:={bh with toks:=bh.toks+1+1}) (by lia) (by grind) (by grind) l (λw D r=>⟨.f _,ar,a.fX _ (hY (Co _) r),⟨_,rfl⟩,m⟩) (e.aQ a.gS))
section
variable {prog:cW}{r:cF}{p:dp}{l:aR->aY->Prop}{A:aY}{X t:Str}{n u:Tok}{q:aR->aY->Prop}
abbrev w2 (q:aR->aY->Prop)(A:aY)(N:Str×Str×Str):Prop:=∀bE c5 iq D,q (.ref A.heap.objs.size) {A with toks:=D,heap:=A.heap.push {cls:=.type "tuple",data:=.seq [.str N.1 bE,.str N.2.1 c5,.str N.2.2 iq].toArray}}
theorem Yc (b:(t.length==0)=ax)(a:w2 q A (Txt.partition X t))(c:X.length<=cw):bM (model prog r) p (call (.builtin "str.partition") [.str X n,.str t u]) q l A:=by
 refine call_meets Jb (typeIs_str _ _ _) PySem.F.entry_str_partition (PySem.F.args_str_partition_2 _ _) (meets_str_partition X t n u b c) ?_;unfold w2 Txt.partition at a
 revert a
 cases tU X t 0 _ 1 with
 |_=>intro aE;exact aE _ _ _ _
theorem Yd (b:(t.length==0)=ax)(a:w2 q A (Txt.rpartition X t))(c:X.length<=cw):bM (model prog r) p (call (.builtin "str.rpartition") [.str X n,.str t u]) q l A:=by
 refine call_meets Ja (typeIs_str _ _ _) PySem.F.entry_str_rpartition (PySem.F.args_str_rpartition_2 _ _) (meets_str_rpartition X t n u b c) ?_;unfold w2 Txt.rpartition at a
 revert a
 cases Q5 X t 0 _ with
 |_=>intro aE;exact aE _ _ _ _
end
noncomputable def Ye (N:Str×Str×Str):List aL:=[.f N.1,.f N.2.1,.f N.2.2]
def uS (w:Str->Str->Str×Str×Str):aL->a3->aj->bX->Prop:=λX m R q=>∃s t:Str,X=.f s/\m=[.f t]/\(t.length == 0)=ax/\s.length<=cw/\∀N,R N=k->q (.a0 N) (b8 R N (.a_ (Ye (w s t))))
section
variable {H:bQ}{h:String}{w:Str->Str->Str×Str×Str}
theorem L1 (c:∀{prog:cW}{r:cF}{p:dp}{l:aR->aY->Prop}{A:aY}{X t:Str}{n u:Tok}{q:aR->aY->Prop},(t.length == 0)=ax->w2 q A (w X t)->X.length<=cw->bM (model prog r) p (call (.builtin h) [.str X n,.str t u]) q l A):oy H h (uS w):=by
 intro ag A o R X m v aa q a d e Y;obtain⟨s,t,rfl,rfl,f,g,V⟩:=Y;obtain⟨D,rfl⟩:=d;obtain⟨u,rfl,i⟩:=e.cN;obtain⟨j,rfl⟩:=i;refine j_ (c f (λbE c5 iq D=>?_) g)
 intro x;refine⟨.a0 _,_,a.gR   (λb y V=>el _ V) (cM _) ?_,rfl,V _ (a.cA.fm (cM _))⟩
 exact⟨by show 3<=cw;rw[sizeLine_eq];lia,_,.cons ⟨_,rfl⟩ (.cons ⟨_,rfl⟩ (.cons ⟨_,rfl⟩ .nil)),⟨_,gf _ rfl,rfl,_,rfl⟩⟩
theorem Yf:oy H "str.partition" (uS Txt.partition):=L1 Yc
theorem Yg:oy H "str.rpartition" (uS Txt.rpartition):=L1 Yd
end
def Yh (J:bD)(S:aV)(m:a3):Prop:=∃(C:iU) (a:g5) (z:Nat),J.lookup S=E C/\C.cls=.type "tuple" /\ C.data=.seq a z/\a.size<=cw/\b3 m a.toList
def L3 (J:bD):List DictEntry->List (bo×a3)->Prop
 |[],a=>a=[]|e::aw,a=>∃G b,a=G::b/\(∃n N,e.key=.str ⟨G.1.toArray⟩ n/\e.val=.ref N/\Yh J N G.2)/\L3 J aw b
def Yi (r:cF)(J:bD)(X:Str)(a:List (bo×a3)):Prop:=∃S aw z,gu J fb X=E (E (.ref S))/\J.lookup S=E ⟨.type "dict",k,.dict aw z,#[]⟩/\W.KeysLit r.params aw.toList/\(S==sysModules)=ax/\L3 J aw.toList a
end
end L2
namespace VI
open PySem PySem.Spec PyProof.Rows L2
inductive h_ where
 |a_ |aG |gy (a:List d9)|dI (Q:Str) (b:List Str)|dD |iu |pM (Q:String)
 deriving DecidableEq
inductive ai where
 |a9 |aM (b:Bool)|d (O:Int)|f (s:List Nat)|au (D:h_) (a:List ai)|aK (y:ai)|eM (v:aL)|eO
abbrev w3:=ai->ai->Option Bool
abbrev m2:=Mo (List ai)
abbrev jA:=Option ai
abbrev bf:=List ai
abbrev eA:=Mo ai
def Ak (J:cH)(S:aV)(m:a3):Prop:=∃(C:iU) (a:g5) (z:Nat),J.lookup S=E C/\C.cls=.type "tuple" /\ C.data=.seq a z/\a.size<=cw/\b3 m a.toList
def m3 (J:cH)(D:h_)(N:aV)(aa:a3)(R:aj):Prop:=match D with
 |.a_=>R N=E (.a_ aa)|.aG=>R N=E (.aG aa)|.dD=>dG J R N aa|.iu=>Ak J N aa|.pM Q=>aa=[]/\∃y,R N=E (VJ N (da J Q) y)|.gy a=>dZ R N (.ey (a.zip aa))/\a.length=aa.length/\a.Nodup|.dI Q b=>∃bH,R N=E (.e1 (da J Q) bH (b.zip aa))/\b.length=aa.length
theorem uT {R aq:aj}{N:aV}{u:fF}(g:bu R aq)(Y:dZ R N u):dZ aq N u:=Y.imp (g _ _) λ⟨C,e⟩=>⟨C,g _ _ e⟩
theorem m3.bJ {J:cH}{D:h_}{N:aV}{aa:a3}{R aq:aj}(g:bu R aq)(Y:m3 J D N aa R):m3 J D N aa aq:=by
 cases D with
 |dD=>exact g.seq Y|iu=>exact Y|pM Q=>exact⟨Y.1,Y.2.imp λ_ e=>g _ _ e⟩|gy a=>exact⟨uT g Y.1,Y.2⟩|dI Q b=>obtain⟨bH,e,s⟩:=Y;exact⟨bH,g _ _ e,s⟩|_=>exact g _ _ Y
mutual
def bz (J:cH):ai->aL->aj->Prop
 |.a9,v,_=>v=.a9|.aM b,v,_=>v=.aM b|.d O,v,_=>v=.d O|.f s,v,_=>v=eN s|.au D a,v,R=>∃N aa,v=.a0 N/\m3 J D N aa R/\b2 J a aa R|.aK y,v,R=>bz J y v R|.eM u,v,_=>v=u|.eO,_,_=>True
def b2 (J:cH):List ai->a3->aj->Prop
 |[],aa,_=>aa=[]|y::a,aa,R=>∃v c,aa=v::c/\bz J y v R/\b2 J a c R
end
def EK (J:cH)(R aq:aj):Prop:=∀D N aa,m3 J D N aa R->m3 J D N aa aq
theorem bz.iH {J:cH}{R aq:aj}(g:EK J R aq):∀{y:ai}{v:aL},bz J y v R->bz J y v aq
 |.a9,_,Y=>by assumption
 |.aM _,_,Y=>by assumption
 |.d _,_,Y=>by assumption
 |.f _,_,Y=>by trivial
 |.eM _,_,Y=>by assumption
 |.eO,_,Y=>by trivial
 |.aK y,_,Y=>by unfold bz at Y ⊢;exact bz.iH g Y
 |.au D a,_,Y=>by obtain⟨N,aa,e,z,G⟩:=Y;exact⟨N,aa,e,g _ _ _ z,eC G⟩
where eC:∀{a:bf}{aa:a3},b2 J a aa R->b2 J a aa aq
 |[],_,Y=>by assumption
 |y::a,_,Y=>by unfold b2 at Y ⊢;obtain⟨v,c,e,S,G⟩:=Y;exact⟨v,c,e,bz.iH g S,eC G⟩
theorem Al {J:cH}{R aq:aj}(g:bu R aq):EK J R aq:=λ_ _ _ z=>z.bJ g
theorem bz.bJ {J:cH}{R aq:aj}(g:bu R aq){y:ai}{v:aL}(Y:bz J y v R):bz J y v aq:=Y.iH (Al g)
theorem b2.bJ {J:cH}{R aq:aj}(g:bu R aq){a:bf}{aa:a3}(Y:b2 J a aa R):b2 J a aa aq:=bz.iH.eC (Al g) Y
theorem b2.k6 {J:cH}{R:aj}:∀{a:bf}{aa:a3},b2 J a aa R↔Paired (λy v=>bz J y v R) a aa
 |[],aa=>⟨λY=>by subst Y;exact .nil,λY=>by cases (Y);rfl⟩|y::a,aa=>⟨λY=>by obtain⟨v,c,rfl,S,G⟩:=Y;exact .cons S (b2.k6.mp G),λY=>by
  cases Y with |cons S G=>exact⟨_,_,rfl,S,b2.k6.mpr G⟩⟩
mutual
noncomputable def ai.eT:ai->Bool
 |.au .a_ a=>ai.lT a|.au .iu a=>ai.lT a|.au _ _=>ax|.aK y=>y.eT|.eM _=>ax|.eO=>ax|_=>ae
noncomputable def ai.lT:bf->Bool
 |[]=>ae|y::a=>y.eT && ai.lT a
end
mutual
def ai.ed:ai->Bool
 |.au _ a=>ai.k8 a|.aK y=>y.eT|.eM _=>ax|.eO=>ax|_=>ae
def ai.k8:bf->Bool
 |[]=>ae|y::a=>y.ed && ai.k8 a
end
def mu (J:cH)(D:h_)(N:aV)(aa:a3)(F Y:aj):Prop:=match D with
 |.a_=>F N=E (.a_ aa)/\∀V,Y V=k|.dD=>False|.pM _=>False|.iu=>Ak J N aa/\∀V,Y V=k|.aG=>Y=cN N (.aG aa)|.gy a=>Y=cN N (.ey (a.zip aa))/\a.length=aa.length/\a.Nodup|.dI Q b=>∃bH,bH≠N/\Y=jz N bH (.e1 (da J Q) bH (b.zip aa))/\b.length=aa.length
mutual
def bx (J:cH):ai->aL->aj->aj->Prop
 |.au D a,v,F,Y=>∃N aa b af,v=.a0 N/\mu J D N aa F b/\cG b af Y/\bF J a aa F af|y,v,F,Y=>(∀N,Y N=k)/\bz J y v F
def bF (J:cH):List ai->a3->aj->aj->Prop
 |[],aa,_,Y=>aa=[]/\∀N,Y N=k|y::a,aa,F,Y=>∃v c ab af,aa=v::c/\cG ab af Y/\bx J y v F ab/\bF J a c F af
end
section
variable {J:i5}{F a4 Y ab af R:aj}{y:ai}{a:bf}{v:aL}{aa:a3}{D:h_}{N:aV}
theorem jW {N V:aV}{C:fF}:cN N C V=if V=N then E C else k:=rfl
theorem mu.bJ (g:sr F a4)(Q:mu J D N aa F Y):mu J D N aa a4 Y:=by
 cases D with
 |a_=>exact⟨g _ _ Q.1,Q.2⟩|_=>exact Q
theorem mu.lO (Q:mu J D N aa F Y)(V:aV)(m:a3):Y V≠E (.a_ m):=by
 cases D with
 |dD=>exact fG Q|pM _=>exact fG Q|aG=>rw[Q,jW];simp_all|gy a=>rw[Q.1,jW];simp_all|dI cR b=>
  obtain⟨bH,z,e,s⟩:=Q;rw[e];unfold jz;lia |_=>rw[Q.2];simp_all
theorem mu.au (Q:mu J D N aa F Y)(g:bu F R)(a:bu Y R):m3 J D N aa R:=by
 cases D with
 |a_=>exact g _ _ Q.1|iu=>exact Q.1|dD=>exact fG Q|pM _=>exact fG Q|aG=>exact a _ _ (by rw[show Y=_ from Q];exact jy)|gy b=>exact⟨.inl (a _ _ (by rw[Q.1];exact jy)),Q.2⟩|dI cR c=>obtain⟨bH,z,e,s⟩:=Q;exact⟨bH,a _ _ (by rw[e];exact Ad),s⟩
theorem bx.iH (g:EK J F a4):∀{y:ai}{v:aL}{Y:aj},bx J y v F Y->bx J y v a4 Y
 |.au D a,_,_,V=>by unfold bx at V ⊢;obtain⟨N,aa,b,af,e,Q,j,G⟩:=V;exact⟨N,aa,b,af,e,Q.bJ (g .a_),j,eC G⟩
 |.a9,_,_,V=>by trivial
 |.aM _,_,_,V=>by assumption
 |.d _,_,_,V=>by assumption
 |.f _,_,_,V=>by assumption
 |.aK _,_,_,V=>⟨V.1,V.2.iH g⟩|.eM _,_,_,V=>by assumption
 |.eO,_,_,V=>by assumption
where eC:∀{a:bf}{aa:a3}{Y:aj},bF J a aa F Y->bF J a aa a4 Y
 |[],_,_,V=>by assumption
 |y::a,_,_,V=>by unfold bF at V ⊢;obtain⟨v,c,ab,af,e,j,S,G⟩:=V;exact⟨v,c,ab,af,e,j,bx.iH g S,eC G⟩
theorem bx.bJ (g:bu F a4){y:ai}{v:aL}{Y:aj}(V:bx J y v F Y):bx J y v a4 Y:=V.iH (Al g)
theorem bx.bJ.eC (g:bu F a4){a:bf}{aa:a3}{Y:aj}(V:bF J a aa F Y):bF J a aa a4 Y:=bx.iH.eC (Al g) V
theorem bx.lO:∀{y:ai}{v:aL}{Y:aj},bx J y v F Y->∀N m,Y N≠E (.a_ m)
 |.au D a,_,_,V,N,m=>by
  unfold bx at V;obtain⟨_,aa,b,af,e,Q,j,G⟩:=V;rcases j N with⟨_,t⟩|⟨_,t⟩
  ·rw[t];exact eC G N m
  ·rw[t];exact Q.lO N m
 |.a9,_,_,V,N,m=>by unfold bx at V;rw[V.1];exact λI=>by cases I
 |.aM _,_,_,V,N,m=>by unfold bx at V;rw[V.1];exact λI=>by cases I
 |.d _,_,_,V,N,m=>by unfold bx at V;rw[V.1];exact λI=>by cases I
 |.f _,_,_,V,N,m=>by unfold bx at V;rw[V.1];exact λI=>by cases I
 |.aK _,_,_,V,N,m=>by unfold bx at V;rw[V.1];exact λI=>by cases I
 |.eM _,_,_,V,N,m=>by unfold bx at V;rw[V.1];exact λI=>by cases I
 |.eO,_,_,V,N,m=>by unfold bx at V;rw[V.1];exact λI=>by cases I
where eC:∀{a:bf}{aa:a3}{Y:aj},bF J a aa F Y->∀N m,Y N≠E (.a_ m)
 |[],_,_,V,N,m=>by unfold bF at V;rw[V.2];exact λI=>by cases I
 |y::a,_,_,V,N,m=>by
  unfold bF at V;obtain⟨v,c,ab,af,e,j,S,G⟩:=V;rcases j N with⟨_,t⟩|⟨_,t⟩
  ·rw[t];exact eC G N m
  ·rw[t];exact bx.lO S N m
theorem bx.w4 (g:bu F R):∀{y:ai}{v:aL}{Y:aj},bu Y R->bx J y v F Y->bz J y v R
 |.au D a,_,_,b,V=>by
  unfold bx at V;unfold bz;obtain⟨N,aa,d,af,e,Q,j,G⟩:=V;exact⟨N,aa,e,Q.au g (j.s.b_ b),eC (j.G.b_ b) G⟩
 |.a9,_,_,_,V=>by unfold bx at V;exact V.2.bJ g
 |.aM _,_,_,_,V=>by unfold bx at V;exact V.2.bJ g
 |.d _,_,_,_,V=>by unfold bx at V;exact V.2.bJ g
 |.f _,_,_,_,V=>by unfold bx at V;exact V.2.bJ g
 |.aK _,_,_,_,V=>by unfold bx at V;exact V.2.bJ g
 |.eM _,_,_,_,V=>by unfold bx at V;exact V.2.bJ g
 |.eO,_,_,_,V=>by unfold bx at V;exact V.2.bJ g
where eC:∀{a:bf}{aa:a3}{Y:aj},bu Y R->bF J a aa F Y->b2 J a aa R
 |[],_,_,_,V=>by unfold bF at V;unfold b2;exact V.1
 |y::a,_,_,b,V=>by
  unfold bF at V;unfold b2;obtain⟨v,c,ab,af,e,j,S,G⟩:=V;exact⟨v,c,e,bx.w4 g (j.s.b_ b) S,eC (j.G.b_ b) G⟩
theorem bz.eT (g:sr F a4):∀{y:ai}{v:aL},y.eT=ae->bz J y v F->bz J y v a4
 |.au .a_ a,_,I,V=>by obtain⟨N,aa,e,z,G⟩:=V;exact⟨N,aa,e,g _ _ z,eC I G⟩
 |.au .iu a,_,I,V=>by obtain⟨N,aa,e,z,G⟩:=V;exact⟨N,aa,e,z,eC I G⟩
 |.au .dD _,_,I,_=>by simp[ai.eT]at I
 |.au (.pM _) _,_,I,_=>by trivial
 |.au .aG _,_,I,_=>by trivial
 |.au (.gy _) _,_,I,_=>by trivial
 |.au (.dI _ _) _,_,I,_=>by trivial
 |.a9,_,_,V=>by assumption
 |.aM _,_,_,V=>by assumption
 |.d _,_,_,V=>by assumption
 |.f _,_,_,V=>by assumption
 |.aK y,_,I,V=>by unfold bz at V ⊢;exact bz.eT g I V
 |.eM _,_,I,_=>by trivial
 |.eO,_,I,_=>by trivial
where eC:∀{a:bf}{aa:a3},ai.lT a=ae->b2 J a aa F->b2 J a aa a4
 |[],_,_,V=>by assumption
 |y::a,_,I,V=>by
  unfold ai.lT at I;obtain⟨b,d⟩:=kW.mp I;obtain⟨v,c,e,S,G⟩:=V;exact⟨v,c,e,bz.eT g b S,eC d G⟩
theorem bx.EL (b:∀N,Y N=k):∀{y:ai}{v:aL},y.eT=ae->bz J y v F->bx J y v F Y
 |.au .a_ a,_,I,V=>by
  unfold ai.eT at I;unfold bz at V;unfold bx;obtain⟨N,aa,e,z,G⟩:=V;exact⟨N,aa,Y,Y,e,⟨z,b⟩,λV=>.inl ⟨b V,rfl⟩,eC I G⟩
 |.au .iu a,_,I,V=>by
  unfold ai.eT at I;unfold bz at V;unfold bx;obtain⟨N,aa,e,z,G⟩:=V;exact⟨N,aa,Y,Y,e,⟨z,b⟩,λV=>.inl ⟨b V,rfl⟩,eC I G⟩
 |.au .dD _,_,I,_=>by simp[ai.eT]at I
 |.au (.pM _) _,_,I,_=>by simp[ai.eT]at I
 |.au .aG _,_,I,_=>by simp[ai.eT]at I
 |.au (.gy _) _,_,I,_=>by simp[ai.eT]at I
 |.au (.dI _ _) _,_,I,_=>by simp[ai.eT]at I
 |.a9,_,_,V=>by unfold bx;exact⟨b,V⟩
 |.aM _,_,_,V=>by unfold bx;exact⟨b,V⟩
 |.d _,_,_,V=>by unfold bx;exact⟨b,V⟩
 |.f _,_,_,V=>by unfold bx;exact⟨b,V⟩
 |.aK y,_,_,V=>by unfold bx;exact⟨b,V⟩
 |.eM _,_,I,_=>by simp[ai.eT]at I
 |.eO,_,I,_=>by simp[ai.eT]at I
where eC:∀{a:bf}{aa:a3},ai.lT a=ae->b2 J a aa F->bF J a aa F Y
 |[],_,_,V=>by unfold b2 at V;unfold bF;exact⟨V,b⟩
 |y::a,_,I,V=>by
  unfold ai.lT at I;obtain⟨d,f⟩:=kW.mp I;unfold b2 at V;unfold bF;obtain⟨v,c,e,S,G⟩:=V;exact⟨v,c,Y,Y,e,λV=>.inl ⟨b V,rfl⟩,bx.EL b d S,eC f G⟩
theorem bx.L4 (g:sr F a4):∀{y:ai}{v:aL}{Y:aj},y.ed=ae->bx J y v F Y->bx J y v a4 Y
 |.au D a,_,_,I,V=>by unfold ai.ed at I;unfold bx at V ⊢;obtain⟨N,aa,b,af,e,Q,j,G⟩:=V;exact⟨N,aa,b,af,e,Q.bJ g,j,eC I G⟩
 |.a9,_,_,_,V=>by unfold bx at V ⊢;exact⟨V.1,V.2.eT g rfl⟩
 |.aM _,_,_,_,V=>by unfold bx at V ⊢;exact⟨V.1,V.2.eT g rfl⟩
 |.d _,_,_,_,V=>by unfold bx at V ⊢;exact⟨V.1,V.2.eT g rfl⟩
 |.f _,_,_,_,V=>by unfold bx at V ⊢;exact⟨V.1,V.2.eT g rfl⟩
 |.aK y,_,_,I,V=>by unfold ai.ed at I;unfold bx at V ⊢;exact⟨V.1,V.2.eT g (by unfold ai.eT;exact I)⟩
 |.eM _,_,_,I,_=>by simp[ai.ed]at I
 |.eO,_,_,I,_=>by simp[ai.ed]at I
where eC:∀{a:bf}{aa:a3}{Y:aj},ai.k8 a=ae->bF J a aa F Y->bF J a aa a4 Y
 |[],_,_,_,V=>by unfold bF at V ⊢;exact V
 |y::a,_,_,I,V=>by
  unfold ai.k8 at I;obtain⟨d,f⟩:=kW.mp I;unfold bF at V ⊢;obtain⟨v,c,ab,af,e,j,S,G⟩:=V;exact⟨v,c,ab,af,e,j,bx.L4 g d S,eC f G⟩
end
abbrev fR (J:cH):fP ai:=⟨bz J,λg Y=>Y.bJ g⟩
abbrev gq (J:cH):iX ai:=⟨bx J,fR J,λg Y=>Y.bJ g,λy Y=>bx.w4 lP (qM y) Y,λY=>Y.lO⟩
noncomputable abbrev aX:=List jA
def mS (J:cH):Option ai->hL
 |none=>.nJ|some y=>.pF (gq J) y
abbrev g9 (J:cH)(x:aX):List hL:=x.map (mS J)
noncomputable def ai.aH:ai->ai
 |.aK y=>y.aH|y=>y
def ai.bO (y:ai):ai:=if y.eT then y else match y with |.aK _=>y |_=>.aK y
section
variable {J:i5}{l:b4}{F Y ab af R:aj}{y:ai}{a:bf}{v:aL}{aa:a3}{D:h_}{N:aV}{q:bX}
theorem bz.aH:∀{y:ai},bz J y v R->bz J y.aH v R
 |.aK y,V=>by unfold ai.aH;exact bz.aH V
 |.a9,V=>V|.aM _,V=>V|.d _,V=>V|.f _,V=>V|.au _ _,V=>V|.eM _,V=>V|.eO,V=>V
theorem bz.d {O:Int}(Y:bz J (.d O) v R):v=.d O:=by assumption
theorem bz.f {s:bo}(Y:bz J (.f s) v R):v=eN s:=by assumption
theorem bz.aM {b:Bool}(Y:bz J (.aM b) v R):v=.aM b:=by assumption
theorem bz.a9 (Y:bz J .a9 v R):v=.a9:=by assumption
theorem bz.au (Y:bz J (.au D a) v R):∃N aa,v=.a0 N/\m3 J D N aa R/\b2 J a aa R:=by assumption
theorem bx.bO (a:∀N,Y N=k)(G:bz J y v F):bx J y.bO v F Y:=by
 unfold ai.bO;split
 ·exact bx.EL a (by assumption) G
 ·split
  ·trivial
  trivial
theorem bF.bO (b:∀N,Y N=k):∀{a:bf}{aa:a3},b2 J a aa F->bF J (a.map ai.bO) aa F Y
 |[],_,V=>by trivial
 |y::a,_,V=>by
  obtain⟨v,c,e,S,G⟩:=V;exact⟨v,c,Y,Y,e,λV=>.inl ⟨b V,rfl⟩,bx.bO b S,bF.bO b G⟩
theorem b2.b6 (Y:b2 J a aa R):a.length=aa.length:=Paired.length (b2.k6.mp Y)
theorem b2.gQ (Y:b2 J a aa R)(O:Nat):(a[O]?=k/\aa[O]?=k)\/∃y v,a[O]?=E y/\aa[O]?=E v/\bz J y v R:=fy.gQ (T:=fR J) (b2.k6.mp Y) O
theorem b2.uU {aw:bf}{aD:a3}(S:b2 J a aa R)(b:b2 J aw aD R):b2 J (a++aw) (aa++aD) R:=b2.k6.mpr (fy.dY (T:=fR J) (b2.k6.mp S) (b2.k6.mp b))
theorem b2.eb (Y:b2 J a aa R){O:Int}{y:ai}(e:eb a O=E y):∃v,L2.eb aa O=E v/\bz J y v R:=Wg (T:=fR J) (b2.k6.mp Y) e
theorem Am (V:cp J (.i y.bO) l F R (fs (gq J) R q))(a:bu F R)(G:bz J y v F):q v R:=
 V.i a v (λ_=>k) (λN I=>absurd rfl I) (λN=>.inr rfl) (λN C I=>by cases I) (bx.bO (λ_=>rfl) G)
theorem sM (V:cp J (.i y) l F R (fs (gq J) R q))(a:bu F R)(G:bz J y v F)(O:y.eT=ae:=by rfl):q v R:=
 V.i a v _ (λN I=>absurd rfl I) (λN=>.inr rfl) (λN C I=>by cases I) (bx.EL (λ_=>rfl) O G)
theorem lU {O:Int}(V:cp J (.i (.d O)) l F R (fs (gq J) R q))(a:bu F R):q (.d O) R:=sM V a (rfl)
theorem pN {O:bo}(V:cp J (.i (.f O)) l F R (fs (gq J) R q))(a:bu F R):q (eN O) R:=sM V a (rfl)
theorem jB {O:Bool}(V:cp J (.i (.aM O)) l F R (fs (gq J) R q))(a:bu F R):q (.aM O) R:=sM V a (rfl)
theorem Yj (V:cp J (.i .a9) l F R (fs (gq J) R q))(a:bu F R):q .a9 R:=sM V a (rfl)
theorem gX {Y:aj}(I:aj)(a:∀N,I N=k):cG Y I Y:=λN=>.inr ⟨a N,rfl⟩
theorem mv (V:cp J (.i (.au .aG (a.map .bO))) l F R (fs (gq J) R q))(d:bu F R)(c:R N=k)(G:b2 J a aa F):q (.a0 N) (b8 R N (.aG aa)):=by
 refine V F _ (.heap d (oD c _)) (.a0 N) (cN N (.aG aa)) (λb I=>?_) (λb=>?_) (λb C I=>?_) ?_
 ·rw[jW]at I;split at I
  ·rename_i e;rw[e];exact c
  ·exact absurd rfl I
 ·rw[jW];split
  ·rename_i e;rw[e];exact .inl (d.ck c)
  ·exact .inr rfl
 ·rw[jW]at I;split at I
  ·rename_i e;rw[e];cases I;exact js
  ·cases I
 ·show bx J _ _ _ _
  unfold bx;exact⟨N,aa,_,λ_=>k,rfl,rfl,gX _ λ_=>rfl,bF.bO (λ_=>rfl) G⟩
def EM (S b:ai):Mo ai:=match S.aH,b.aH with
 |.d O,.d j=>.i (.d (O+j))|.f X,.f t=>.eS (X.length+t.length) (.i (.f (X++t)))|.au .aG m,.au .aG aS=>.eS (m.length+aS.length) (.i (.au .aG ((m++aS).map .bO)))|_,_=>.aQ
abbrev ia (J:cH)(h:d0)(l:b4)(g:ai->ai->eA):Prop:=K2 J h l (fR J) (fR J) g (gq J)
theorem Yk:ia J DN l EM:=by
 intro S b X t F R q d a c V;have a:=bz.aH a;have c:=bz.aH c;unfold EM at V;split at V
 ·rename_i aN az;rw[aN]at a;rw[az]at c;cases a.d;cases c.d;exact lU V d
 ·rename_i aN az;rw[aN]at a;rw[az]at c;cases a.f;cases c.f
  obtain⟨Q,V⟩:=V.eS;exact⟨Q,pN V d⟩
 ·rename_i aN az;rw[aN]at a;rw[az]at c
  obtain⟨N,aa,rfl,z,G⟩:=a.au;obtain⟨c7,aD,rfl,dC,bR⟩:=c.au;obtain⟨Q,V⟩:=V.eS;exact⟨aa,aD,d _ _ z,d _ _ dC,by rwa[<- G.b6,<- bR.b6],λs e=>mv V d e (G.uU bR)⟩
 exact V.elim
def nN (g:Int->Int->eA)(S b:ai):Mo ai:=match S.aH,b.aH with |.d O,.d j=>g O j |_,_=>.aQ
theorem w5 {g:qy}{w:Int->Int->ai}(Y:∀O j F,bz J (w O j) (g O j) F)(d:∀O j,(w O j).eT=ae):ia J (sf g) l (nN λO j=>.i (w O j)):=by
 intro S b X t F R q e a c V;have a:=bz.aH a;have c:=bz.aH c;unfold nN at V;split at V
 ·rename_i aN az;rw[aN]at a;rw[az]at c;cases a.d;cases c.d;exact sM V e (Y _ _ _) (d _ _)
 exact V.elim
theorem L5 {aJ:Int->Int->Prop}[∀O j,Decidable (aJ O j)]{g:qy}{w:Int->Int->ai}(Y:∀O j F,bz J (w O j) (g O j) F)(d:∀O j,(w O j).eT=ae):ia J (wq aJ g) l (nN λO j=>.dW (aJ O j) (.i (w O j))):=by
 intro S b X t F R q e a c V;have a:=bz.aH a;have c:=bz.aH c;unfold nN at V;split at V
 ·rename_i aN az;rw[aN]at a;rw[az]at c;cases a.d;cases c.d
  obtain⟨Q,V⟩:=V.dW;exact⟨Q,sM V e (Y _ _ _) (d _ _)⟩
 exact V.elim
abbrev EN:=nN λO j=>.i (.d (O-j))
abbrev An:=nN λO j=>.dW (0<j) (.i (.d (O % j)))
abbrev w6:=nN λO j=>.dW (uF O j) (.i (.d (O / j)))
theorem Yl:ia J DP l EN:=w5 (λ_ _ _=>rfl) λ_ _=>rfl
theorem Ym:ia J DQ l An:=L5  (λ_ _ _=>rfl) λ_ _=>rfl
theorem Yn:ia J Eg l w6:=L5 (λ_ _ _=>rfl) λ_ _=>rfl
abbrev EO:=nN λO j=>.i (.aM (decide (O<=j)))
abbrev EP:=nN λO j=>.i (.aM (decide (j<O)))
abbrev ER:=nN λO j=>.i (.aM (decide (j<=O)))
abbrev ES:=nN λO j=>.i (.aM (decide (O<j)))
theorem Yo:ia J DS l EO:=w5 (λ_ _ _=>rfl) λ_ _=>rfl
theorem Yp:ia J DT l EP:=w5 (λ_ _ _=>rfl) λ_ _=>rfl
theorem Yq:ia J DU l ER:=w5 (λ_ _ _=>rfl) λ_ _=>rfl
theorem Yr:ia J DR l ES:=w5 (λ_ _ _=>rfl) λ_ _=>rfl
def nO (S b:ai):Mo ai:=match S.aH,b.aH with
 |.d O,.d j=>.dW (IntMulOk O j) (.i (.d (O*j)))|.f X,.d z=>.dW (wL X.length z) (.i (.f (mr X z)))|.au .aG m,.d z=>.dW (wL m.length z) (.i (.au .aG ((mr m z).map .bO)))|_,_=>.aQ
theorem b2.zx (G:b2 J a aa R)(z:Int):b2 J (mr a z) (mr aa z) R:=b2.k6.mpr (WG (T:=fR J) (b2.k6.mp G) z)
theorem b2.ET (G:b2 J a aa R)(a8 aB:ea):b2 J (eD a a8 aB) (qG aa a8 aB) R:=b2.k6.mpr (Wk (T:=fR J) (b2.k6.mp G) a8 aB)
theorem Ys:ia J Ei l nO:=by
 intro S b X t F R q d a c V;have a:=bz.aH a;have c:=bz.aH c;unfold nO at V;split at V
 ·rename_i aN az;rw[aN]at a;rw[az]at c;cases a.d;cases c.d
  obtain⟨Q,V⟩:=V.dW;exact⟨Q,lU V d⟩
 ·rename_i aN az;rw[aN]at a;rw[az]at c;cases a.f;cases c.d
  obtain⟨Q,V⟩:=V.dW;exact⟨Q,pN V d⟩
 ·rename_i aN az;rw[aN]at a;rw[az]at c
  obtain⟨N,aa,rfl,z,G⟩:=a.au;cases c.d;obtain⟨Q,V⟩:=V.dW;exact⟨aa,d _ _ z,by rwa[<- G.b6],λs e=>mv V d e (G.zx _)⟩
 exact V.elim
def EU (S b:ai):Mo ai:=match b.aH with
 |.d O=>(match S.aH with
  |.au D m=>(match D with |.aG=>.e8 ((eb m O).map .bO)|.a_=>.e8 ((eb m O).map .bO)|.dD=>.e8 ((eb m O).map .bO)|.iu=>.e8 ((eb m O).map .bO)|_=>.aQ)|.f s=>.eS s.length (.e8 ((eb s O).map λQ=>.f [Q]))|_=>.aQ)
 |_=>.aQ
theorem Ao {a:bf}{O:Int}(b:bu F R)(z:dG J R N aa\/fx J R N aa)(G:b2 J a aa F)(V:cp J (.e8 ((eb a O).map .bO)) l F R (fs (gq J) R q)):zI J (.a0 N) (.d O) R q:=by
 obtain⟨y,e,V⟩:=V.e8;obtain⟨dO,c,rfl⟩:=ik.mp e;obtain⟨v,az,d⟩:=G.eb c;refine⟨aa,z,?_⟩;rw[az];exact Am V b d
theorem Yt:ia J (zI J) l EU:=by
 intro S b X t F R q a c g V;have c:=bz.aH c;have g:=bz.aH g;unfold EU at V;cases az:b.aH with
 |d O=>
  rw[az]at V g;cases g.d;cases aN:S.aH with
  |au D m=>
   rw[aN]at V c;obtain⟨N,aa,rfl,z,G⟩:=c.au;cases D with
   |aG=>exact Ao a (.inl (.of (a _ _ z))) G V|a_=>exact Ao a (.inr (.of (a _ _ z))) G V|dD=>exact Ao a (.inl (a.seq z)) G V|iu=>exact Ao a (.inr (.inr z)) G V|_=>exact V.elim
  |f s=>
   rw[aN]at V c;cases c.f;obtain⟨I,V⟩:=V.eS;obtain⟨y,e,V⟩:=V.e8;obtain⟨Q,h,rfl⟩:=ik.mp e;refine⟨I,?_⟩;rw[h];exact pN V a
  |_=>rw[aN]at V;exact V.elim
 |_=>rw[az]at V;exact V.elim
def m4 (y:ai):Option d9:=match y.aH with
 |.d O=>E (.inl O)|.f s=>E (.inr ⟨s.toArray⟩)|_=>k
theorem w7 {D:d9}(e:m4 y=E D)(Y:bz J y v R):qK v=E D/\v=h3 D:=by
 have Y:=bz.aH Y;unfold m4 at e;cases a:y.aH with
 |d O=>rw[a]at e Y;cases e;cases Y.d;trivial|f s=>rw[a]at e Y;cases e;cases Y.f;trivial|_=>simp_all
def nP (b:jq)(a:bf)(D:d9):Option ai:=((b.zip a).find? λV=>decide (V.1=D)).map (·.2)
theorem EV {D:d9}:∀{b:jq}{a:bf}{aa:a3},b2 J a aa R->(nP b a D=k/\g8 (b.zip aa) D=k)\/∃y v,nP b a D=E y/\g8 (b.zip aa) D=E v/\bz J y v R
 |[],a,aa,Y=>.inl ⟨rfl,rfl⟩|d::b,[],aa,Y=>by subst Y;exact .inl ⟨rfl,rfl⟩
 |d::b,y::a,aa,Y=>by
  obtain⟨v,c,rfl,S,G⟩:=Y;by_cases e:d=D
  ·subst e
   exact .inr ⟨y,v,by simp[nP],by simp[g8],S⟩
  ·rcases EV   G with⟨ab,af⟩|⟨dO,f,ab,af,br⟩
   ·exact .inl ⟨by unfold nP at ab ⊢;rwa[j7,yt (by simpa using e)],by unfold g8 at af ⊢;rwa[j7,yt (by simpa using e)]⟩
   ·exact .inr ⟨dO,f,by unfold nP at ab ⊢;rwa[j7,yt (by simpa using e)],by unfold g8 at af ⊢;rwa[j7,yt (by simpa using e)],br⟩
def EW (S b:ai):Mo ai:=match S.aH,m4 b with
 |.au (.gy c) a,E D=>.e8 ((nP c a D).map .bO)|_,_=>.aQ
def EX (cB:Bool)(b S:ai):Mo ai:=match S.aH,m4 b with
 |.au (.gy c) a,E D=>.i (.aM (if cB then !(nP c a D).isSome else(nP c a D).isSome))|_,_=>.aQ
theorem Ap {X t:aL}{bp:aV->kY->d9->Prop}{ba:kY}{D:d9}(a:X=.a0 N)(b:qK t=E D)(Y:R N=E (.ey ba))(G:bp N ba D):sq X t R bp:=by
 subst a;unfold sq;rw[b];exact⟨ba,Y,G⟩
def uV (X t:aL)(R:aj)(bp:aV->kY->d9->Prop):Prop:=match X with
 |.a0 S=>(match qK t with |some D=>∃ba,dZ R S (.ey ba)/\bp S ba D |none=>False)|_=>False
theorem EY {X t:aL}{R:aj}{bp:aV->kY->d9->Prop}(Y:uV X t R bp):∃S ba D,X=.a0 S/\t=h3 D/\dZ R S (.ey ba)/\bp S ba D:=by
 unfold uV at Y;cases X with
 |a0 S=>
  cases e:qK t with
  |none=>simp_all|some D=>
   rw[e]at Y;obtain⟨ba,ab,af⟩:=Y;exact⟨S,ba,D,rfl,KY e,ab,af⟩
 |_=>exact Y.elim
theorem EZ {X t:aL}{bp:aV->kY->d9->Prop}{ba:kY}{D:d9}(a:X=.a0 N)(b:qK t=E D)(Y:dZ R N (.ey ba))(G:bp N ba D):uV X t R bp:=by
 subst a;unfold uV;rw[b];exact⟨ba,Y,G⟩
section
variable {n dP cv:bN}{G bC bR:eA}{x:aX}
abbrev dr (J:cH)(n:bN)(l:b4)(x:aX)(G:eA):Prop:=oE J n l (g9 J x) G (gq J)
abbrev Yu (J:cH)(n:bN)(l:b4)(x:aX)(G:eA):Prop:=zY J n l (g9 J x) G (fR J)
theorem g_ (Y:dr J n l x G):Yu J n l x G:=Y.bL
theorem Yv {h:d0}{g:ai->ai->eA}(C:ia J h l g)(ab:dr J dP l x bC)(af:dr J cv l x bR):dr J (nE h dP cv) l x (bC.aC λS=>bR.aC λb=>g S b):=Wd C (g_ ab) (g_ af)
def e9 (x:aX)(O:Nat):Mo ai:=match x[O]? with |some (E y)=>.i y.bO |_=>.aQ
theorem Yw (O:Nat):dr J (oB O) l x (e9 x O):=by
 intro o F R q b c V;unfold e9 at V;split at V
 ·rename_i y e
  obtain⟨v,a,d⟩:=b O (mS J (E y)) (by simp_all)
  unfold oB;cases I:o[O]? with
  |none=>simp_all|some C=>rw[I]at a;cases(a);exact Am V c d
 exact V.elim
theorem Yx {y:ai}{v:aL}(Y:∀F,bz J y v F)(O:y.eT=ae:=by rfl):dr J (gG v) l x (.i y):=λo F R q b a V=>sM V a (Y F) O
def fz (y:ai):Mo Bool:=match y.aH with |.aM b=>.i b |_=>.aQ
theorem w8 (Y:dr J n l x G):mn J (k3 n) l (g9 J x) (G.aC fz):=by
 intro o F R q d f V;refine g_ Y o F R _ d f (V.aC.c8 λS bB ar x1 a h g=>?_)
 have c:=bz.aH g;unfold fz at a;split at a
 ·rename_i b e;rw[e]at c;cases c.aM;exact a.i x1.2.1
 exact a.elim
theorem Yy (Y:dr J n l x G):dr J (uj n) l x (G.aC λS=>(fz S).aC λb=>.i (.aM (!b))):=by
 intro o F R q d f V;refine g_ Y o F R _ d f (V.aC.c8 λS bB ar x1 a i g=>?_)
 have c:=bz.aH g;unfold fz at a;split at a
 ·rename_i b e;rw[e]at c;cases c.aM
  exact jB (a.c8 λS j m x3 h=>h.d1 x1.2.2.1) x1.2.1
 exact a.elim
def sN (S:ai)(G:eA):Mo ai:=(fz S).aC λb=>if b then G else .i (.aM ax)
def sO (S:ai)(G:eA):Mo ai:=(fz S).aC λb=>if b then .i (.aM ae)else G
theorem Yz (ab:dr J dP l x bC)(af:dr J cv l x bR):dr J (sg dP cv) l x (bC.aC λS=>sN S bR):=by
 intro o F R q d g V;refine g_ ab o F R _ d g (V.aC.c8 λS bB ar x1 a m h=>?_)
 have f:=bz.aH h;unfold sN fz at a;split at a
 ·rename_i b e;rw[e]at f;cases f.aM
  refine⟨λI=>?_,λI=>?_⟩
  ·subst I;exact af o bB ar _ (d.bJ x1.1) x1.2.1 (cp.c8 (a) λS i j x3 c=>c.d1 x1.2.2.1)
  subst I;exact jB (cp.c8 (a) λS i j x3 c=>c.d1 x1.2.2.1) x1.2.1
 exact a.elim
theorem YA (ab:dr J dP l x bC)(af:dr J cv l x bR):dr J (qH dP cv) l x (bC.aC λS=>sO S bR):=by
 intro o F R q d g V;refine g_ ab o F R _ d g (V.aC.c8 λS bB ar x1 a m h=>?_)
 have f:=bz.aH h;unfold sO fz at a;split at a
 ·rename_i b e;rw[e]at f;cases f.aM
  refine⟨λI=>?_,λI=>?_⟩
  ·subst I;exact jB (cp.c8 (a) λS i j x3 c=>c.d1 x1.2.2.1) x1.2.1
  subst I;exact af o bB ar _ (d.bJ x1.1) x1.2.1 (cp.c8 (a) λS i j x3 c=>c.d1 x1.2.2.1)
 exact a.elim
theorem YB {ht:f7}{b:mZ}(a:mn J ht l (g9 J x) b)(ab:dr J dP l x bC)(af:dr J cv l x bR):dr J (zG ht dP cv) l x (b.aC λQ=>if Q then bC else bR):=Wi a ab af
def w9 (S:ai):Mo ai:=match S.aH with |.d O=>.i (.d (-O))|_=>.aQ
theorem YC (Y:dr J n l x G):dr J (ur n) l x (G.aC w9):=by
 intro o F R q d f V;refine g_ Y o F R _ d f (V.aC.c8 λS bB ar x1 a i g=>?_)
 have c:=bz.aH g;unfold w9 at a;split at a
 ·rename_i b e;rw[e]at c;cases c.d
  exact lU (a.c8 λS j m x3 h=>h.d1 x1.2.2.1) x1.2.1
 exact a.elim
end
end
section
variable {J:i5}{l:b4}{F a4 Y ab af R aq:aj}{y:ai}{a:bf}{v:aL}{aa:a3}{D:h_}{N:aV}{q:bX}{x:aX}{n:bN}{G bC bR:eA}{bE:fg}{fS:m2}
def kN (w:w3):List ai->bf->Option Bool
 |S::aI,b::a=>(w S b).bind λX=>(kN w aI a).map λt=>X && t
 |_,_=>E ae
def ai.f_:ai->h2
 |.a9=>E .a9|.aM b=>E (.aM b)|.d O=>E (.d O)|.f s=>E (eN s)|_=>k
noncomputable def sP:ai->Option (Bool×bf)
 |.au .aG m=>E (ae,m)|.au .a_ m=>E (ax,m)|_=>k
def E0 (w:w3)(S b:ai):Option Bool:=match sP S with
 |none=>(match sP b with |none=>S.f_.bind λX=>b.f_.map λt=>ja X t |some _=>S.f_.map λ_=>ax)|some (D,m)=>(match sP b with
  |none=>b.f_.map λ_=>ax|some (a,aS)=>bif D == a then(bif D then(if m.length=aS.length then kN w m aS else E ax)else(kN w m aS).map λb=>b && m.length == aS.length)else E ax)
def fI:Nat->ai->ai->Option Bool
 |0,S,b=>S.aH.f_.bind λX=>b.aH.f_.map λt=>ja X t|z+1,S,b=>E0 (fI z) S.aH b.aH
theorem E1 {D:Bool}{m:bf}(e:sP y=E (D,m))(Y:bz J y v R):∃N aa,v=.a0 N/\b2 J m aa R/\R N=E (bif D then .aG aa else .a_ aa):=by
 cases y with
 |au D a=>
  obtain⟨N,aa,rfl,h,G⟩:=Y.au;cases D with
  |aG=>cases e;exact⟨N,aa,rfl,G,h⟩|a_=>cases e;exact⟨N,aa,rfl,G,h⟩|_=>cases e
 |_=>cases e
theorem pO {X:aL}(e:y.f_=E X)(Y:bz J y v R):v=X/\gw X=ae:=by
 cases y with
 |a9=>cases e;trivial|aM=>cases e;trivial|d=>cases e;trivial|f=>cases e;trivial|_=>cases e
theorem E2 {w:w3}:∀{m aS:bf}{b:Bool},kN w m aS=E b->∃e:Nat->Bool,(∀(O:Nat) X t,m[O]?=E X->aS[O]?=E t->w X t=E (e O))/\b=(fl (min m.length aS.length)).all e
 |[],_,_,Y=>by cases Y;exact⟨λ_=>ae,λO X t c=>by simp at c,by simp⟩
 |_::_,[],_,Y=>by cases Y;exact⟨λ_=>ae,λO X t c d=>by simp at d,by simp⟩
 |X::m,t::aS,b,Y=>by
  unfold kN at Y;obtain⟨Q,f,Y⟩:=g4.mp Y;obtain⟨cR,g,rfl⟩:=ik.mp Y;obtain⟨e,ab,af⟩:=E2 g;refine⟨λO=>match O with |0=>Q |O+1=>e O,λO u r a hw=>?_,?_⟩
  ·cases O with
   |zero=>simp at a hw;subst a hw;exact f|succ O=>exact ab O u r (by simpa using a) (by simpa using hw)
  rw[af,ee,ee,Nat.succ_min_succ,List.range_succ_eq_map,kD,Iz];rfl
theorem L6:∀{z:Nat}{S b:ai}{X t:aL}{Q:Bool},fI z S b=E Q->bz J S X R->bz J b t R->gU J R z X t Q:=by
 intro z;induction z with
 |zero=>
  intro S b X t Q Y c a;unfold fI at Y;obtain⟨A,o,Y⟩:=g4.mp Y;obtain⟨q,f,rfl⟩:=ik.mp Y;obtain⟨rfl,s⟩:=pO o (bz.aH c);obtain⟨rfl,d⟩:=pO f (bz.aH a);exact .sm s d
 |succ z B=>
  intro S b X t Q Y c a;have c:=bz.aH c;have a:=bz.aH a;have x:∀{m aS:bf}{aa aD:a3}{e:i7},b2 J m aa R->b2 J aS aD R->(∀(O:Nat) X t,m[O]?=E X->aS[O]?=E t->fI z X t=E (e O))->∀(O:Nat) u r,aa[O]?=E u->aD[O]?=E r->gU J R z u r (e O):=λG bR g O u r l hw=>by
   rcases G.gQ O with⟨_,I⟩|⟨y,v,aN,az,C⟩
   ·rw[I]at l;cases l
   rcases bR.gQ O with⟨_,I⟩|⟨dO,T,j,F,K⟩
   ·rw[I]at hw;cases hw
   rw[az]at l;rw[F]at hw;cases l;cases hw;exact B (g O _ _ aN j) C K
  have L:∀{S b:ai},bz J S X R->bz J b t R->(S.f_.bind λX=>b.f_.map λt=>ja X t)=E Q->gU J R (z+1) X t Q:=λc a Y=>by
   obtain⟨A,o,Y⟩:=g4.mp Y;obtain⟨q,f,rfl⟩:=ik.mp Y;obtain⟨rfl,s⟩:=pO o c;obtain⟨rfl,d⟩:=pO f a;exact(gU.sm s d).fi (jl _)
  have Y:E0 (fI z) S.aH b.aH=E Q:=Y;unfold E0 at Y;cases w:sP S.aH with
  |none=>
   rw[w]at Y;cases i:sP b.aH with
   |none=>rw[i]at Y;exact L c a Y|some V=>
    rw[i]at Y;obtain⟨q,f,rfl⟩:=ik.mp Y;obtain⟨rfl,d⟩:=pO f c;obtain⟨N,aa,rfl,G,h⟩:=E1 (D:=V.1) (m:=V.2) i a;cases I:V.1<;>rw[I]at h
    ·exact .ml (.of h) d
    ·exact .uv (.of h) d
  |some V=>
   rw[w]at Y;obtain⟨N,aa,rfl,bC,ez⟩:=E1 (D:=V.1) (m:=V.2) w c;obtain⟨D,m⟩:=V;cases i:sP b.aH with
   |none=>
    rw[i]at Y;obtain⟨q,f,rfl⟩:=ik.mp Y;obtain⟨rfl,d⟩:=pO f a;cases D
    ·exact .uw (.of ez) d
    ·exact .uu (.of ez) d
   |some V=>
    rw[i]at Y;obtain⟨cL,aD,rfl,bR,dC⟩:=E1 (D:=V.1) (m:=V.2) i a;obtain⟨M,aS⟩:=V;cases D<;>cases M
    ·obtain⟨cR,P,rfl⟩:=ik.mp (show(kN (fI z) m aS).map _=_ from Y)
     obtain⟨e,j,rfl⟩:=E2 P;rw[bC.b6,bR.b6];exact .a_ e (.of ez) (.of dC) (x bC bR j)
    ·cases Y;exact .hH (.of ez) (.of dC)
    ·cases Y;exact .h6 (.of ez) (.of dC)
    ·have Y:(if m.length=aS.length then kN (fI z) m aS else E ax)=E Q:=Y
     split at Y
     ·rename_i n
      obtain⟨e,j,rfl⟩:=E2 Y;rw[<- n,rO,bC.b6];exact .aG e (.of ez) (.of dC) (by rw[<- bC.b6,<- bR.b6,n]) (x bC bR j)
     ·rename_i n;cases Y;exact .qI (.of ez) (.of dC) (by rw[<- bC.b6,<- bR.b6];exact n)
def f3 (cB:Bool)(S b:ai):Mo ai:=(Mo.e8 (fI 12 S b)).aC λQ=>.i (.aM (if cB then !Q else Q))
theorem YD:ia J (EF J) l (f3 ax):=by
 intro S b X t F R q a c d V;unfold f3 at V;cases e:fI 12 S b with
 |none=>rw[e]at V;exact V.elim|some Q=>rw[e]at V;exact⟨12,Q,by decide,L6 e ((fR J).bJ a c) ((fR J).bJ a d),jB V a⟩
theorem YE:ia J (EG J) l (f3 ae):=by
 intro S b X t F R q a c d V;unfold f3 at V;cases e:fI 12 S b with
 |none=>rw[e]at V;exact V.elim|some Q=>rw[e]at V;exact⟨12,Q,by decide,L6 e ((fR J).bJ a c) ((fR J).bJ a d),jB V a⟩
theorem L7:∀(y:ai) {X:ai},y.aH≠.aK X
 |.aK y,X=>L7 y|.a9,_=>λI=>by cases I
 |.aM _,_=>λI=>by cases I
 |.d _,_=>λI=>by cases I
 |.f _,_=>λI=>by cases I
 |.au _ _,_=>λI=>by cases I
 |.eM _,_=>λI=>by cases I
 |.eO,_=>λI=>by cases I
def m5 (cB:Bool)(S b:ai):Mo ai:=match b with
 |.a9=>(match S.aH with |.eM _=>.aQ |.eO=>.aQ |.a9=>.i (.aM (!cB))|_=>.i (.aM cB))|.aM Q=>(match S.aH with |.aM b=>.i (.aM (if cB then !decide (b=Q)else decide (b=Q)))|_=>.aQ)|_=>.aQ
theorem L8 (a:bz J y v R){cB:Bool}{b:ai}{Q:Mo Unit}(c:m5 cB y .a9=.i b):b=.aM (if cB then !decide (v=.a9)else decide (v=.a9)):=by
 have a:=bz.aH a;unfold m5 at c;cases I:y.aH with
 |a9=>rw[I]at a c;cases a.a9;simp_all|aM=>rw[I]at a c;cases a.aM;simp_all|d=>rw[I]at a c;cases a.d;simp_all|f=>rw[I]at a c;cases a.f;simp_all|au=>rw[I]at a c;obtain⟨_,_,rfl,_⟩:=a.au;simp_all|aK=>exact absurd I (L7 y)|_=>simp_all
theorem L9 {cB:Bool}{S b:ai}{D:ai->aj->aj->Prop}(V:cp J (m5 cB S b) l F R D):(b=.a9/\∃Q,m5 cB S .a9=.i Q/\cp J (.i Q) l F R D)\/∃Q e,b=.aM Q/\S.aH=.aM e/\cp J (.i (.aM (if cB then !decide (e=Q)else decide (e=Q)))) l F R D:=by
 unfold m5 at V ⊢;split at V
 ·refine .inl ⟨rfl,?_⟩
  split at V
  ·exact V.elim
  ·exact V.elim
  ·exact⟨_,rfl,V⟩
  exact⟨_,rfl,V⟩
 ·split at V
  ·exact .inr ⟨_,_,rfl,by assumption,V⟩
  exact V.elim
 exact V.elim
theorem YF:ia J DV l (m5 ax):=by
 intro S b X t F R q d a f V;rcases L9 V with⟨rfl,Q,e,V⟩|⟨Q,e,rfl,I,V⟩
 ·cases bz.a9 (J:=J) (R:=F) f
  cases L8 (Q:=.aQ) a e;exact jB V d
 ·have a:=bz.aH a
  rw[I]at a;cases a.aM;cases bz.aM (J:=J) (R:=F) f;exact jB V d
theorem YG:ia J DW l (m5 ae):=by
 intro S b X t F R q d a f V;rcases L9 V with⟨rfl,Q,e,V⟩|⟨Q,e,rfl,I,V⟩
 ·cases bz.a9 (J:=J) (R:=F) f
  cases L8 (Q:=.aQ) a e;exact jB V d
 ·have a:=bz.aH a
  rw[I]at a;cases a.aM;cases bz.aM (J:=J) (R:=F) f;exact jB V d
def sQ:bf->Option a3
 |[]=>E []|y::a=>y.aH.f_.bind λX=>(sQ a).map λm=>X::m
theorem L_:∀{a:bf}{m aa:a3},sQ a=E m->b2 J a aa R->aa=m/\m.all gw=ae
 |[],_,_,e,Y=>by cases e;trivial
 |y::a,_,_,e,Y=>by
  unfold sQ at e;obtain⟨X,aW,e⟩:=g4.mp e;obtain⟨m,b,rfl⟩:=ik.mp e;obtain⟨v,c,rfl,S,G⟩:=Y;obtain⟨rfl,d⟩:=pO aW (bz.aH S);obtain⟨rfl,f⟩:=L_ b G;exact⟨rfl,by rw[kD,d,f];rfl⟩
def sR (cB:Bool)(S:ai)(aS:bf):Mo ai:=(Mo.e8 (S.aH.f_.bind λX=>(sQ aS).map λa=>mi X a)).aC λQ=>.i (.aM (if cB then !Q else Q))
def E3 (cB:Bool)(S b:ai):Mo ai:=match b.aH with
 |.f n=>(match S.aH with |.f s=>.i (.aM (if cB then !ui s n else ui s n))|_=>.aQ)|.au .aG aS=>sR cB S aS|.au .a_ aS=>sR cB S aS|.au .iu aS=>sR cB S aS|_=>.aQ
theorem E4 {cB:Bool}{S:ai}{aS:bf}{X:aL}(a:bu F R)(b:bz J S X F)(z:dG J R N aa\/fx J R N aa)(G:b2 J aS aa F)(V:cp J (sR cB S aS) l F R (fs (gq J) R q)):wu J cB X (.a0 N) R q:=by
 unfold sR at V;cases e:(S.aH.f_.bind λX=>(sQ aS).map (mi X))with
 |none=>rw[e]at V;exact V.elim|some Q=>
  rw[e]at V;obtain⟨g,aW,e⟩:=g4.mp e;obtain⟨h,c,rfl⟩:=ik.mp e;obtain⟨rfl,d⟩:=pO aW (bz.aH b);obtain⟨rfl,f⟩:=L_ c G;exact⟨aa,z,d,f,jB V a⟩
theorem YH {cB:Bool}:ia J (wu J cB) l (E3 cB):=by
 intro S b X t F R q d c a V;have a:=bz.aH a;unfold E3 at V;split at V
 ·rename_i s e;rw[e]at a;cases a.f
  have c:=bz.aH c;split at V
  ·rename_i e;rw[e]at c;cases c.f;exact jB V d
  exact V.elim
 ·rename_i e;rw[e]at a;obtain⟨N,aa,rfl,z,G⟩:=a.au;exact E4 d c (.inl (.of (d _ _ z))) G V
 ·rename_i e;rw[e]at a;obtain⟨N,aa,rfl,z,G⟩:=a.au;exact E4 d c (.inr (.of (d _ _ z))) G V
 ·rename_i e;rw[e]at a;obtain⟨N,aa,rfl,z,G⟩:=a.au;exact E4 d c (.inr (.inr z)) G V
 exact V.elim
def lV (y:ai):Mo Int:=match y.aH with |.d O=>.i O |_=>.aQ
theorem YI (c:dr J n l x G):wK J (uk n) l (g9 J x) (G.aC λy=>(lV y).aC λO=>.i (E O)):=by
 intro o F R q d f V;refine g_ c o F R _ d f (V.aC.c8 λS bB ar x1 a h g=>?_)
 have b:=bz.aH g;unfold lV at a;split at a
 ·rename_i O e;rw[e]at b;cases b.d;exact a.i x1.2.1
 exact a.elim
def Ma (S:ai)(a8 aB:ea):Mo ai:=match S.aH with
 |.f s=>.eS s.length (.i (.f (eD s a8 aB)))|.au .aG m=>.i (.au .aG ((eD m a8 aB).map .bO))|.au .dD m=>.i (.au .aG ((eD m a8 aB).map .bO))|_=>.aQ
def YJ (J:cH)(R:aj)(q:a3->aj->Prop)(a:bf)(a4 aq:aj):Prop:=∀c Y,(∀N,Y N≠k->R N=k)->cS a4 Y->bu Y aq->bF J a c a4 Y->q c aq
def k9 (J:cH)(n:fg)(l:b4)(x:aX)(G:m2):Prop:=∀o F R (q:a3->aj->Prop),gW (g9 J x) o F->bu F R->cp J G l F R (YJ J R q)->n o R q
abbrev E5 (J:cH):m1 bf:=⟨b2 J,λg Y=>Y.bJ g⟩
theorem YK:k9 J hG l x (.i []):=λo F R q b a V=>V.i a [] _ (λN I=>absurd rfl I) (λN=>.inr rfl) (λN C I=>by cases I) (⟨rfl,λ_=>rfl⟩)
theorem Mb (X:fO F R a4 aq)(y:cS F Y)(A:bu Y R):cS a4 Y:=λN=>by
 cases I:Y N with
 |none=>exact .inr rfl|some C=>
  left;rcases y N with t |t
  ·cases r:a4 N with
   |none=>rfl|some bS=>have:=X.2.2.2 N t (by rw[r];exact fE _);rw[A _ _ I]at this;cases this
  simp_all
theorem YL (ab:dr J n l x G)(af:k9 J bE l x fS):k9 J (gT n bE) l x (G.aC λS=>fS.aC λaI=>.i (S::aI)):=by
 intro o F R q b e V;refine ab o F R _ b e (V.aC.c8 λS bB ar x1 f v D g h bh i=>?_)
 refine af o bB ar _ (b.bJ x1.1) x1.2.1 (f.aC.c8 λaI ao a5 x2 j c a d m bj s=>?_)
 refine j.i x2.2.1 (v::c) (aH D a) (λN I=>?_) (λN=>?_) (λN C I=>?_) ?_
 ·unfold aH at I
  cases t:D N with
  |some C=>exact g N (by rw[t];exact fE _)|none=>rw[t]at I;exact x1.2.2.1.ck (d N I)
 ·unfold aH
  cases t:D N with
  |some C=>
   rcases Mb x2 h bh N with r |r
   ·exact .inl r
   ·rw[t]at r;cases r
  |none=>exact m N
 ·unfold aH at I
  cases t:D N with
  |some bS=>rw[t]at I;cases I;exact x2.2.2.1 _ _ (bh _ _ t)|none=>rw[t]at I;exact bj _ _ I
 ·unfold bF
  exact⟨v,c,D,a,rfl,fH (λN=>by
  cases I:D N with
  |none=>exact .inl rfl|some C=>
   right;cases t:a N with
   |none=>rfl|some bS=>have:=d N (by rw[t];exact fE _);rw[bh _ _ I]at this;cases this),i.bJ x2.1,s⟩
theorem uW (Y:k9 J bE l x fS):K1 J bE l (g9 J x) fS (E5 J):=by
 intro o F R q a d V;refine Y o F R q a d ?_;cases fS with
 |i S=>
  intro a4 aq X c aE f y A C;refine V _ aq ⟨X.1.b_ lP,λN C e=>?_,X.2.2.1,λN S b=>?_⟩ c (bx.w4.eC lP (qM y) C)
  ·unfold aH at e
   cases I:a4 N with
   |some r=>rw[I]at e;cases e;exact X.2.1 _ _ I|none=>rw[I]at e;exact A _ _ e
  ·unfold aH at b
   cases I:a4 N with
   |some r=>exact X.2.2.2 N S (by rw[I];exact fE _)|none=>rw[I]at b;exact f N b
 |_=>exact V
theorem bF.b6:∀{a:bf}{aa:a3}{Y:aj},bF J a aa F Y->a.length=aa.length
 |[],_,_,V=>by rw[V.1];rfl
 |y::a,_,_,V=>by obtain⟨v,c,ab,af,rfl,j,S,G⟩:=V;rw[ee,ee,bF.b6 G]
theorem YM (Y:k9 J bE l x fS):dr J (wg bE) l x (fS.aC λa=>.eS a.length (.i (.au .a_ a))):=by
 intro o F R q f g V;refine Y o F R _ f g (V.aC.c8 λa bB ar x1 b c D h i bh d=>?_)
 obtain⟨Q,b⟩:=b.eS;rw[bF.b6 d]at Q;refine⟨Q,λN e=>?_⟩
 have t:=fO.ed x1.2.1 (C:=.a_ c) e;exact b _ _ t _ D h (Mb t i bh) (bh.b_ (oD e _)) ⟨N,c,λ_=>k,D,rfl,⟨js,λ_=>rfl⟩,λV=>.inl ⟨rfl,rfl⟩,bx.bJ.eC t.1 d⟩
theorem YN (Y:k9 J bE l x fS):dr J (Dt bE) l x (fS.aC λa=>.eS a.length (.i (.au .aG a))):=by
 intro o F R q g h V;refine Y o F R _ g h (V.aC.c8 λa bB ar x1 d c D i j bh f=>?_)
 obtain⟨Q,d⟩:=d.eS;rw[bF.b6 f]at Q;refine⟨Q,λN b=>?_⟩
 have m:D N=k:=by
  cases I:D N with
  |none=>rfl|some C=>rw[bh _ _ I]at b;cases b
 refine d bB _ (.heap x1.2.1 (oD b _)) (.a0 N) (aH (cN N (.aG c)) D) (λV I=>?_) (λV=>?_) (λV C I=>?_) ?_
 ·unfold aH at I;rw[jW]at I
  by_cases e:V=N
  ·subst e;exact x1.2.2.1.ck b
  ·rw[if_neg e]at I;exact i V I
 ·unfold aH;rw[jW]
  by_cases e:V=N
  ·subst e;exact .inl (x1.2.1.ck b)
  ·rw[if_neg e];exact j V
 ·unfold aH at I;rw[jW]at I
  by_cases e:V=N
  ·subst e;rw[if_pos rfl]at I;cases I;exact js
  ·rw[if_neg e]at I;rw[fN e];exact bh _ _ I
 ·show bx J _ _ _ _
  unfold bx;exact⟨N,c,_,D,rfl,rfl,fH (λV=>by
  rw[jW];split
  ·rename_i e;rw[e];exact .inr m
  ·exact .inl rfl),f⟩
abbrev lW (J:cH)(h:a3->aj->bX->Prop)(l:b4)(g:bf->eA):Prop:=zZ J h l (E5 J) g (gq J)
theorem YO {h:a3->aj->bX->Prop}{g:bf->eA}(C:lW J h l g)(Y:k9 J bE l x fS):dr J (k1 h bE) l x (fS.aC g):=Wf C (uW Y)
theorem b2.cN (Y:b2 J [y] aa R):∃v,aa=[v]/\bz J y v R:=by
 obtain⟨v,c,rfl,S,G⟩:=Y;subst G;exact⟨v,rfl,S⟩
theorem b2.jz {dO:ai}(Y:b2 J [y,dO] aa R):∃v a,aa=[v,a]/\bz J y v R/\bz J dO a R:=by
 obtain⟨v,c,rfl,S,G⟩:=Y;obtain⟨a,rfl,b⟩:=b2.cN G;exact⟨v,a,rfl,S,b⟩
def oK (w:ai->eA)(a:bf):Mo ai:=match a with |[y]=>w y.aH |_=>.aQ
def E6 (w:ai->ai->eA)(a:bf):Mo ai:=match a with |[y,e]=>w y.aH e.aH |_=>.aQ
theorem qV {h:a3->aj->bX->Prop}{w:ai->eA}(Y:∀y v F R (q:bX),bu F R->bz J y v F->cp J (w y) l F R (fs (gq J) R q)->h [v] R q):lW J h l (oK w):=by
 intro a c F R q b d V;unfold oK at V;split at V
 ·obtain⟨v,rfl,S⟩:=b2.cN d;exact Y _ _ F R q b (bz.aH S) V
 exact V.elim
theorem YP {h:a3->aj->bX->Prop}{w:ai->ai->eA}(Y:∀y e v r F R (q:bX),bu F R->bz J y v F->bz J e r F->cp J (w y e) l F R (fs (gq J) R q)->h [v,r] R q):lW J h l (E6 w):=by
 intro a c F R q d f V;unfold E6 at V;split at V
 ·obtain⟨v,r,rfl,S,b⟩:=b2.jz f;exact Y _ _ _ _ F R q d (bz.aH S) (bz.aH b) V
 exact V.elim
def Mc:bf->eA:=oK λy=>match y with
 |.f s=>.eS s.length (.i (.d s.length))|.au .aG m=>.i (.d m.length)|.au .a_ m=>.i (.d m.length)|.au .dD m=>.i (.d m.length)|.au .iu m=>.i (.d m.length)|_=>.aQ
theorem YQ:lW J (zJ J) l Mc:=qV λy v F R q a b V=>by
 split at V
 ·cases b.f;obtain⟨Q,V⟩:=V.eS;exact⟨Q,lU V a⟩
 ·obtain⟨N,aa,rfl,z,G⟩:=b.au;exact⟨aa,.inl (.of (a _ _ z)),by rw[<- G.b6];exact lU V a⟩
 ·obtain⟨N,aa,rfl,z,G⟩:=b.au;exact⟨aa,.inr (.of (a _ _ z)),by rw[<- G.b6];exact lU V a⟩
 ·obtain⟨N,aa,rfl,z,G⟩:=b.au;exact⟨aa,.inl (a.seq z),by rw[<- G.b6];exact lU V a⟩
 ·obtain⟨N,aa,rfl,z,G⟩:=b.au;exact⟨aa,.inr (.inr z),by rw[<- G.b6];exact lU V a⟩
 exact V.elim
def Md:bf->eA:=oK λy=>match y with |.au (.gy a) m=>.i (.d m.length)|_=>.aQ
def Aq:a3->aj->bX->Prop:=λm R q=>match m with |[.a0 S]=>∃ba,dZ R S (.ey ba)/\q (.d ba.length) R |_=>False
theorem YR {H:bQ}:iG H (.builtin "len") Aq:=by
 intro ag A o R m aa q a G Y;unfold Aq at Y;split at Y
 ·obtain⟨ba,b,V⟩:=Y
  obtain⟨u,rfl,c⟩:=mg G;cases c;exact V4 a b λn bc d=>⟨.d _,R,d,⟨n,rfl⟩,V⟩
 exact Y.elim
theorem YS:lW J Aq l Md:=qV λy v F R q a b V=>by
 split at V
 ·rename_i c m
  obtain⟨N,aa,rfl,z,G⟩:=b.au;refine⟨_,uT a z.1,?_⟩;rw[show(c.zip aa).length=m.length from by rw[qn,z.2.1,rO,G.b6]]
  exact lU V a
 exact V.elim
def E7:bf->eA:=E6 λS b=>match S,b with |.d O,.d j=>.i (.d (min O j))|_,_=>.aQ
theorem YT:lW J (zK min) l E7:=YP λy e v r F R q a b c V=>by
 split at V
 ·cases b.d;cases c.d;exact lU V a
 exact V.elim
def E8:bf->eA:=oK λy=>match y with |.d O=>.dW (O.natAbs.log2<1920) (.i (.f (cX O)))|_=>.aQ
theorem YU:lW J zQ l E8:=qV λy v F R q a b V=>by
 split at V
 ·cases b.d;obtain⟨Q,V⟩:=V.dW;exact⟨Q,pN V a⟩
 exact V.elim
abbrev qW (J:cH)(h:aL->a3->aj->bX->Prop)(l:b4)(g:bo->bf->eA):Prop:=Wl J h l (E5 J) g (gq J)
def m6 (y:ai):Mo bo:=match y.aH with |.f s=>.i s |_=>.aQ
theorem YV {h:aL->a3->aj->bX->Prop}{g:bo->bf->eA}(C:qW J h l g)(f:dr J n l x G)(Y:k9 J bE l x fS):dr J (pC J "str" h n bE) l x (G.aC λy=>(m6 y).aC λs=>fS.aC λQ=>g s Q):=by
 intro o F R q b i V;refine g_ f o F R _ b i (V.aC.c8 λy bB ar x1 a v j=>?_)
 have d:=bz.aH j;unfold m6 at a;split at a
 ·rename_i s e;rw[e]at d;cases d.f
  exact⟨rfl,(uW Y o bB ar _ (b.bJ x1.1) x1.2.1 (cp.c8 (cp.aC (a)) λQ ao a5 x2 m c r=>C s Q c ao a5 q x2.2.1 r (m.c8 λS u w x3 t=>t.d1 (x1.2.2.1.b_ x2.2.2.1))))⟩
 exact a.elim
end
noncomputable def h_.e4:h_->Bool
 |.dD=>ax |.iu=>ax |.pM _=>ax |_=>ae
def ai.at:ai->bo->jA
 |y,[]=>E y|.au D a,O::cK=>bif D.e4 then a[O]?.bind λy=>y.at cK else k|_,_=>k
theorem qX {D:h_}{a:bf}{j:Nat}{cK:bo}:(ai.au D a).at (j::cK)=bif D.e4 then a[j]?.bind λy=>y.at cK else k:=by rw[ai.at]
def Me:fF->a3
 |.a_ aa=>aa |.aG aa=>aa |.ey ba=>ba.map (·.2)|.h4 _ (.ey ba)=>ba.map (·.2)|.e1 _ _ av=>av.map (·.2)|_=>[]
def k_ (R:aj):aL->bo->h2
 |v,[]=>E v|v,j::cK=>(match v with |.a0 N=>(R N).bind λC=>(Me C)[j]? |_=>k).bind λr=>k_ R r cK
noncomputable def ai.gn:ai->bo->ai->ai
 |_,[],X=>X|.au D a,O::cK,X=>(match a[O]? with |some y=>.au D (a.set O (y.gn cK X))|none=>.au D a)|y,_,_=>y
section
variable {J:i5}{F a4 Y ab af R aq:aj}{y:ai}{a:bf}{v:aL}{aa:a3}{D:h_}{N:aV}
theorem bF.focus:∀{a:bf}{aa:a3}{Y:aj}{O:Nat}{Q:ai},bF J a aa F Y->a[O]?=E Q ->
  ∃u ab af,aa[O]?=E u/\cG ab af Y/\bx J Q u F ab/\∀cR a4 b d aE,bu F a4->bx J cR b a4 d->cG d af aE->bF J (a.set O cR) (aa.set O b) a4 aE
 |[],_,_,_,_,_,e=>by simp at e
 |y::a,_,Y,0,Q,V,e=>by
  obtain⟨v,c,ab,af,rfl,j,S,G⟩:=V;simp at e;subst e;refine⟨v,ab,af,rfl,j,S,λcR a4 b d aE g C f=>?_⟩
  rw[vH,vH];unfold bF;exact⟨b,c,d,af,rfl,f,C,bx.bJ.eC g G⟩
 |y::a,_,Y,O+1,Q,V,e=>by
  obtain⟨v,c,ab,af,rfl,j,S,G⟩:=V;obtain⟨u,m,n,aN,o,q,w⟩:=bF.focus G (by simpa using e)
  obtain⟨h,i,r⟩:=iI o (jc j);refine⟨u,m,h,by simpa using aN,r,q,λcR a4 b l aE g bS f=>?_⟩
  rw[yx,yx];unfold bF;exact⟨v,c.set O b,ab,aH l n,rfl,LA i f,S.bJ g,w cR a4 b l _ g bS (fH (LB i f))⟩
theorem Ar {ay:Type}{s:List ay}{O:Nat}{X:ay}(Y:s[O]?=E X):s.set O X=s:=Wv Y
theorem mu.same (g:bu F a4)(Q:mu J D N aa F Y):mu J D N aa a4 Y:=Q.bJ g.qA
theorem YW {D:h_}(a:D.e4=ae)(z:m3 J D N aa R):∃C,R N=E C/\Me C=aa:=by
 cases D with
 |a_=>exact⟨_,z,rfl⟩|aG=>exact⟨_,z,rfl⟩|gy b=>exact z.1.elim (λe=>⟨_,e,Cz (tR z.2.1.symm)⟩) λ⟨_,e⟩=>⟨_,e,Cz (tR z.2.1.symm)⟩|dI Q c=>obtain⟨bH,e,s⟩:=z;exact⟨_,e,Cz (tR s.symm)⟩|_=>cases a
theorem w_ (g:bu R aq):∀{cK:bo}{v u:aL},k_ R v cK=E u->k_ aq v cK=E u
 |[],_,_,Y=>Y|j::cK,v,u,Y=>by
  unfold k_ at Y ⊢;obtain⟨r,hw,af⟩:=g4.mp Y;clear Y;cases v with
  |a0 N=>
   obtain⟨C,a,hw⟩:=g4.mp hw;dsimp only;rw[g _ _ a];exact g4.mpr ⟨r,hw,w_ g af⟩
  |_=>cases hw
theorem Mf {D:h_}{j:Nat}{cK:bo}{r u:aL}(a:D.e4=ae)(z:m3 J D N aa R)(hw:aa[j]?=E r)(Y:k_ R r cK=E u):k_ R (.a0 N) (j::cK)=E u:=by
 obtain⟨C,b,e⟩:=YW a z;unfold k_;simp_all
theorem E9 {D:h_}{j:Nat}{r:aL}(a:D.e4=ae)(z:m3 J D N aa R)(hw:aa[j]?=E r):∀{cK:bo}{v:aL},k_ R v cK=E (.a0 N)->k_ R v (cK++[j])=E r
 |[],_,Y=>by cases Y;exact Mf a z hw rfl
 |O::cK,v,Y=>by
  obtain⟨X,b,Y⟩:=g4.mp Y;exact g4.mpr ⟨X,b,E9 a z hw Y⟩
theorem bx.focus:∀{cK:bo}{y:ai}{v:aL}{Y:aj}{Q:ai},bx J y v F Y->y.at cK=E Q ->
  ∃u ab af,(∀R,bu F R->bu Y R->k_ R v cK=E u)/\cG ab af Y/\bx J Q u F ab/\∀cR a4 c aE,bu F a4->bx J cR u a4 c->cG c af aE->bx J (y.gn cK cR) v a4 aE
 |[],y,v,Y,Q,V,e=>by
  unfold ai.at at e;cases e;refine⟨v,Y,λ_=>k,λR _ _=>rfl,λN=>.inr ⟨rfl,rfl⟩,V,λcR a4 c aE g C j=>?_⟩
  unfold ai.gn;have:aE=c:=by
   funext N;rcases j N with⟨S,b⟩|⟨S,b⟩
   ·rw[S,b]
   ·exact b
  rw[this];exact C
 |O::cK,.au D a,v,Y,Q,V,e=>by
  rw[qX]at e;cases f:D.e4 with
  |false=>rw[f]at e;cases e|true=>
  rw[f,cond_true]at e;obtain⟨dO,aN,az⟩:=g4.mp e;unfold bx at V;obtain⟨N,aa,i,ag,rfl,bZ,j,G⟩:=V;obtain⟨z,ah,B,l,m,K,w⟩:=bF.focus G aN;obtain⟨u,L,h,M,P,T,g⟩:=bx.focus K az;obtain⟨S,o,U⟩:=iI P m;obtain⟨b,d,W⟩:=iI U (jc j);refine⟨u,L,b,λR bh bj=>Mf f (bZ.au bh (j.s.b_ bj)) l (M R bh (m.s.b_ (j.G.b_ bj))),W,T,λcR a4 c aE A bS q=>?_⟩
  unfold ai.gn;rw[aN];dsimp only;unfold bx;have s:cS c S:=λV=>by
   rcases q.fQ V with I |I
   ·exact .inl I
   ·exact .inr (d.s.ck I)
  have X:cS c h:=λV=>by
   rcases s V with I |I
   ·exact .inl I
   ·exact .inr (o.s.ck I)
  have Z:cG (aH c h) B (aH c S):=λV=>by
   unfold aH;rcases o V with⟨I,r⟩|⟨I,r⟩
   ·rw[I]
    cases t:c V with
    |none=>left;exact⟨rfl,r⟩|some C=>
     right;rcases s V with n |n
     ·rw[n]at t;cases t
     ·rw[r]at n;exact⟨n,rfl⟩
   ·right
    refine⟨I,?_⟩;cases t:c V with
    |none=>exact r|some C=>rfl
  have on:=g cR a4 c (aH c h) A bS (fH X);have x:=w _ a4 z _ (aH c S) A on Z;rw[Ar l]at x;refine⟨N,aa,i,aH c S,rfl,bZ.same A,?_,x⟩;intro V;unfold aH;rcases q V with⟨I,r⟩|⟨I,r⟩
  ·rw[I,r]
   rcases d V with⟨t,n⟩|⟨t,n⟩
   ·right;exact⟨t,n⟩
   ·left;exact⟨t,n⟩
  ·rw[r]
   have ac:i V=k:=d.G.ck I;left;refine⟨ac,?_⟩;cases t:c V with
   |none=>exact(d.s.ck I).symm|some C=>rfl
 |_::_,.a9,_,_,_,_,e=>by simp[ai.at]at e
 |_::_,.aM _,_,_,_,_,e=>by simp[ai.at]at e
 |_::_,.d _,_,_,_,_,e=>by simp[ai.at]at e
 |_::_,.f _,_,_,_,_,e=>by simp[ai.at]at e
 |_::_,.aK _,_,_,_,_,e=>by simp[ai.at]at e
 |_::_,.eM _,_,_,_,_,e=>by simp[ai.at]at e
 |_::_,.eO,_,_,_,_,e=>by simp[ai.at]at e
theorem cY.uX:∀{L:gV}{o:L2.bU}{Y:aj}{O:Nat}{A:hL},cY L o F Y->L[O]?=E A ->
  ∃C ab af,o[O]?=E C/\cG ab af Y/\A.P C F ab/\∀bc bS a4 a aE,bu F a4->bc.P bS a4 a->cG a af aE->cY (L.set O bc) (o.set O bS) a4 aE
 |[],_,_,_,_,_,e=>by simp at e
 |A::L,[],_,_,_,V,_=>V.elim
 |A::L,C::o,Y,0,n,c,e=>by
  obtain⟨ab,af,j,N,G⟩:=c;simp at e;subst e;exact⟨C,ab,af,rfl,j,N,λbc bS a4 a aE g eW b=>⟨a,af,b,eW,G.bJ g⟩⟩
 |A::L,C::o,Y,O+1,n,c,e=>by
  obtain⟨ab,af,j,N,G⟩:=c;obtain⟨i,l,m,aN,q,r,w⟩:=cY.uX G (by simpa using e)
  obtain⟨h,d,s⟩:=iI q (jc j);exact⟨i,l,h,by simpa using aN,s,r,λbc bS a4 f aE g t b=>⟨ab,aH f m,LA d b,N.bJ g,w bc bS a4 f _ g t (fH (LB d b))⟩⟩
theorem cY.pG:∀{L:gV}{o:L2.bU}{Y g aE:aj},cY L o F Y->cG g Y aE->cY L o F aE
 |[],[],_,_,_,_,_=>trivial|A::L,[],_,_,_,V,_=>V.elim|[],_::_,_,_,_,V,_=>V.elim|A::L,C::o,Y,g,aE,a,b=>by
  obtain⟨ab,af,j,N,G⟩:=a;obtain⟨h,c,d⟩:=iI j (jc b);exact⟨ab,h,d,N,cY.pG G (jc c)⟩
noncomputable abbrev iv:=Nat->h2
def nQ (J:cH)(r:h2)(C:jA):hL:=match C with
 |none=>.nJ|some y=>(match r with |none=>.pF (gq J) y |some u=>.pF (Xp u (gq J)) y)
abbrev eE (J:cH)(aD:iv)(x:aX):List hL:=x.mapIdx λO C=>nQ J (aD O) C
variable {aD:iv}{x:aX}{o:L2.bU}{O:Nat}{cK:bo}{Q:ai}
theorem uY {C:jA}(a:x[O]?=E C):(eE J aD x)[O]?=E (nQ J (aD O) C):=by simp_all
theorem As {C:jA}:(eE J aD x).set O (nQ J (aD O) C)=eE J aD (x.set O C):=by grind
theorem YX {r:h2}{C:jA}{X:h2}(Y:(nQ J r C).Z X F):(mS J C).Z X F:=by
 cases C with
 |none=>trivial|some y=>cases r with  |_=>exact Y
theorem qY (Y:gW (eE J aD x) o F):gW (g9 J x) o F:=by
 intro O A e;rw[gC]at e;cases I:x[O]? with
 |none=>rw[I]at e;cases e|some C=>
  rw[I]at e;cases e;exact YX (Y O _ (uY I))
theorem xa {r:h2}{y:ai}{X:h2}(Y:(nQ J r (E y)).P X F ab):∃v,X=E v/\(∀u,r=E u->v=u)/\bx J y v F ab:=by
 cases r with
 |none=>obtain⟨v,e,C⟩:=Y;exact⟨v,e,(λu I=>by cases I),C⟩|some u=>obtain⟨v,e,I,C⟩:=Y;exact⟨v,e,(λa t=>by lia),C⟩
theorem Au {r:h2}{y:ai}{v:aL}(hw:∀u,r=E u->v=u)(C:bx J y v F ab):(nQ J r (E y)).P (E v) F ab:=by
 cases r with
 |none=>exact⟨v,rfl,C⟩|some u=>exact⟨v,rfl,hw u rfl,C⟩
theorem Av (e:cY (eE J aD x) o F Y)(aB:x[O]?=E (E y))(f:y.at cK=E Q):
  ∃v u ab af,o[O]?=E (E v)/\(∀R,bu F R->bu Y R->k_ R v cK=E u)/\cG ab af Y/\bx J Q u F ab/\∀cR a4 a aE,bu F a4->bx J cR u a4 a->cG a af aE->cY (eE J aD (x.set O (E (y.gn cK cR)))) o a4 aE:=by
 obtain⟨C,L,h,aN,j,i,w⟩:=cY.uX e (uY aB);obtain⟨v,rfl,l,m⟩:=xa i;obtain⟨u,q,c,s,z,B,g⟩:=m.focus f;obtain⟨S,b,D⟩:=iI z j;refine⟨v,u,q,S,aN,(λR bh bj=>s R bh (j.s.b_ bj)),D,B,λcR a4 a aE A bS d=>?_⟩
 have G:cS a c:=λV=>by
  rcases d.fQ V with I |I
  ·exact .inl I
  ·exact .inr (b.s.ck I)
 have:=w (nQ J (aD O) (E (y.gn cK cR))) (E v) a4 (aH a c) aE A (Au l (g cR a4 a _ A bS (fH G))) ?_
 ·rw[As,Ar aN]at this;exact this
 ·intro V
  unfold aH;rcases d V with⟨I,r⟩|⟨I,r⟩
  ·rw[I,r]
   rcases b V with⟨t,n⟩|⟨t,n⟩
   ·left;exact⟨t,n⟩
   ·right;exact⟨t,n⟩
  ·rw[r]
   have K:h V=k:=b.G.ck I;right;refine⟨K,?_⟩;cases t:a V with
   |none=>exact(b.s.ck I).symm|some C=>rfl
end
inductive bY (A ay:Type) where
 |i (S:ay) (n:A)|aW (Q:mm) (n:A)|aQ
noncomputable abbrev b0:=bf->bY bf ai
abbrev oL:=List (Str×b0)
def b0.cj (w:b0)(a:bf):Mo ai:=match w a with |.i y _=>.i y |.aW Q _=>.aW Q |.aQ=>.aQ
section
variable {J:i5}{l:b4}{F a4 bA bk Y ab af R aq:aj}{y:ai}{a:bf}{v:aL}{aa c:a3}{D:h_}{N:aV}{q:bX}{x:aX}{n:bN}{G:eA}{bE:fg}{fS:m2}{w:b0}
def E_ (J:cH)(G:bY bf ai)(l:b4)(bA bk:aj)(c:a3)(q:bX):Prop:=match G with
 |.i y a=>∀v F Y R b af,dm bA bk F Y R->cG b af Y->bx J y v F b->bF J a c F af->q v R|.aW Q a=>∀F Y R,dm bA bk F Y R->bF J a c F Y->kg J l Q bk F R|.aQ=>False
def fJ (J:cH)(w:b0):gH:=λc R q l=>∃F Y a,bu F R/\cS F Y/\bu Y R/\bF J a c F Y/\E_ J (w a) l F (f9 R Y) c q
theorem Fb (d:bu F R)(f:b2 J a c F)(V:cp J (w.cj (a.map ai.bO)) l F R (fs (gq J) R q)):fJ J w c R q l:=by
 refine⟨F,λ_=>k,a.map _,d,λ_=>.inr rfl,(λN C I=>by cases I),bF.bO (λ_=>rfl) f,?_⟩
 unfold b0.cj at V;cases e:w _ with
 |aQ=>rwa[e]at V|i y dc=>
  rw[e]at V;intro v a4 aE aq b af ok j C _;refine V a4 aq ok.1 v b (λN I=>ok.2.2.2.1 N ?_) (wR ok.2.1 j) (j.s.b_ ok.2.2.1) C
  cases t:b N with
  |none=>exact absurd t I|some r=>rw[j.s _ _ t];exact fE _
 |aW Q dc=>rw[e]at V;exact λa4 aE aq ok _=>V a4 aq ok.1
theorem YY (Y:k9 J bE l x fS):dr J (qD (fJ J w) [] l bE) l x (fS.aC λa=>w.cj (a.map ai.bO)):=by
 intro o F R q b d V;refine uW Y o F R _ b d (V.aC.c8 λa bB ar x1 e c f=>?_)
 rw[lC];exact Fb x1.2.1 f (e.c8 λG ao a5 x2 g=>g.d1 x1.2.2.1)
theorem Fc:∀{a:cx}{aa:a3}{w:Str}{v:aL},aa[a.idxOf w]?=E v->a.length=aa.length->(a.zip aa).lookup w=E v
 |[],aa,w,v,Y,s=>by simp_all
 |z::a,[],w,v,Y,s=>by simp at s
 |z::a,u::aa,w,v,Y,s=>by
  rw[j7,Ik];by_cases e:z=w
  ·simp_all
  ·rw[Ip,beq_eq_false_iff_ne.mpr e]at Y
   rw[beq_eq_false_iff_ne.mpr λI=>e I.symm]
   exact Fc Y (by simpa using s)
def Aw (J:cH)(a:cx)(n:bN)(w:Str):bN:=λo R q=>∃Q∈a,Lx (da J Q) n w o R q
def jC (b:cx)(w:Str)(y:ai):Mo ai:=match y.aH with
 |.au (.dI Q c) a=>if Q∈b then .e8 ((a[c.idxOf w]?).map .bO)else .aQ
 |_=>.aQ
theorem YZ {b:cx}{w:Str}(j:b≠[])(m:dr J n l x G):dr J (Aw J b n w) l x (G.aC (jC b w)):=by
 intro o F R q t u V;have h:∀Q∈b,(∀y,G=.i y->∃c a,y.aH=.au (.dI Q c) a)->Aw J b n w o R q:=λQ d z=>⟨Q,d,by
  refine g_ m o F R _ t u ?_;cases e:G with
  |aQ=>rw[e]at V;exact V|aW X=>rw[e]at V;exact V|i y=>
   obtain⟨c,a,az⟩:=z y e;rw[e]at V;intro bB ar x1 v f;have f:=bz.aH f;rw[az]at f;obtain⟨N,aa,rfl,⟨bH,A,s⟩,B⟩:=f.au;have V:cp J (jC b w y) l F R _:=V;unfold jC at V;rw[az]at V;dsimp only at V;rw[if_pos d]at V;obtain⟨dO,C,V⟩:=V.e8;obtain⟨M,g,rfl⟩:=ik.mp C;rcases B.gQ (c.idxOf w)with⟨I,_⟩|⟨O,r,D,K,L⟩
   ·rw[I]at g;cases g
   ·rw[D]at g;cases g
    refine⟨bH,_,r,x1.2.1 _ _ A,Fc K s,?_⟩;exact Am (l:=l) (λao a5 x2=>(V ao a5 (x1.b_ x2)).d1 x1.2.2.1) x1.2.1 L⟩
 cases e:G with
 |aQ=>rw[e]at V;exact V.elim|i y=>
  rw[e]at V;have cL:cp J (jC b w y) l F R (fs (gq J) R q):=V;unfold jC at cL;split at cL
  ·rename_i Q c a az
   by_cases d:Q∈b
   ·exact h Q d λdO I=>by rw[e]at I;cases I;exact⟨c,a,az⟩
   ·rw[if_neg d]at cL;exact cL.elim
  ·exact cL.elim
 |aW X=>
  cases b with
  |nil=>exact absurd rfl j|cons Q b=>exact h Q (ek ..) λdO I=>by rw[e]at I;cases I
def Mg (y:ai):Mo bf:=match y.aH with
 |.f s=>.i (s.map λQ=>.f [Q])|.au .aG m=>.i m|.au .a_ m=>.i m|.au .dD m=>.i m|.au .iu m=>.i m|_=>.aQ
theorem Mh {bB:aj}(d:dG J bB N aa)(G:b2 J a aa bB):uC J (Dl J N) a (fR J) bB:=by
 refine⟨λO R X c f=>?_,λR c=>⟨aa,c.seq d,by rw[G.b6];exact cM _⟩⟩
 rcases G.gQ O with⟨S,_⟩|⟨t,u,S,b,Q⟩
 ·lia
 ·rw[S]at f;cases f
  refine⟨⟨aa,u,c.seq d,b⟩,?_⟩;rintro v aq ⟨rfl,I⟩ F g h;have e:=I aa (c.seq d);rw[b]at e;cases e;exact⟨F,.fc h,(fR J).bJ g Q⟩
theorem Mi {bB:aj}(d:∀R,bu bB R->fx J R N aa)(G:b2 J a aa bB):uC J (Dm J N) a (fR J) bB:=by
 refine⟨λO R X c f=>?_,λR c=>⟨aa,d R c,by rw[G.b6];exact cM _⟩⟩
 rcases G.gQ O with⟨S,_⟩|⟨t,u,S,b,Q⟩
 ·lia
 ·rw[S]at f;cases f
  refine⟨⟨aa,u,d R c,b⟩,?_⟩;rintro v aq ⟨rfl,I⟩ F g h;have e:=I aa (d _ c);rw[b]at e;cases e;exact⟨F,.fc h,(fR J).bJ g Q⟩
def Mj (J:cH)(c:a3)(o:L2.bU)(ar:aj)(bp:i8->aj->Prop):Prop:=match c with |[X]=>Kx J (gG X) o ar bp |_=>False
def sS (J:cH)(l:b4)(d:a3->L2.bU->aj->(i8->aj->Prop)->Prop)(g:bf->m2):Prop:=
 ∀a c o bB ar bp,bu bB ar->b2 J a c bB->cp J (g a) l bB ar (λm a4 aq=>∀b,uC J b m (fR J) a4->bp b aq)->d c o ar bp
theorem Y0 {b:a3->L2.bU->aj->(i8->aj->Prop)->Prop}{g:bf->m2}(r:sS J l b g)(d:k9 J bE l x fS):uD J (λo R bp=>bE o R λc ar=>b c o ar bp) l (g9 J x) (fS.aC g) (fR J):=by
 intro o F R bp e f V;exact uW d o F R _ e f (V.aC.c8 λa bB ar x1 h c i=>r a c o bB ar bp x1.2.1 i h)
def qZ (a:bf):Mo bf:=match a with |[y]=>Mg y |_=>.aQ
theorem Y1:sS J l (Mj J) qZ:=by
 intro a c o bB ar bp x1 h b;unfold qZ at b;split at b
 rotate_left
 ·exact b.elim
 obtain⟨v,rfl,i⟩:=b2.cN h;have d:=bz.aH i;unfold Mg at b;split at b
 ·rename_i s e;rw[e]at d;cases d.f
  refine b.i x1 _ ⟨λO R X g f=>?_,λR g=>?_⟩
  ·rw[gC]at f
   cases e:s[O]? with
   |none=>rw[e]at f;cases f|some Q=>
    rw[e]at f;cases f;have aB:=(hF.mp e).1;refine⟨aB,?_⟩;rintro v aq ⟨rfl,rfl⟩ F _ j;refine⟨F,.fc j,?_⟩;show bz J (.f [Q]) (eN [s.getD O 0]) F
    rw[mL,e];unfold bz;rfl
  ·show s.length<=_
   rw[ct];exact cM _
 ·rename_i e;rw[e]at d;obtain⟨N,aa,rfl,z,G⟩:=d.au
  exact .inl ⟨⟨aa,.of (x1 _ _ z)⟩,b.i x1 _ (Mh (.of z) G)⟩
 ·rename_i e;rw[e]at d;obtain⟨N,aa,rfl,z,G⟩:=d.au
  exact .inr ⟨⟨aa,.of (x1 _ _ z)⟩,b.i x1 _ (Mi (λR g=>.of (g _ _ z)) G)⟩
 ·rename_i e;rw[e]at d;obtain⟨N,aa,rfl,z,G⟩:=d.au
  exact .inl ⟨⟨aa,x1.seq z⟩,b.i x1 _ (Mh z G)⟩
 ·rename_i e;rw[e]at d;obtain⟨N,aa,rfl,z,G⟩:=d.au
  exact .inr ⟨⟨aa,.inr z⟩,b.i x1 _ (Mi (λR g=>.inr z) G)⟩
 ·exact b.elim
theorem Mk {a8:Int}{z:Nat}{bB:aj}:uC J (ov a8 z) ((gp a8 z).map ai.d) (fR J) bB:=by
 have t:=Ws (J:=J) (a8:=a8) (z:=z) (bB:=bB);refine⟨λO R X a b=>?_,λR a=>by rw[ct];exact t.pw R a⟩
 rw[gC]at b;obtain⟨S,c,rfl⟩:=ik.mp b;obtain⟨g,I⟩:=t.eC O R S a c;trivial
def sT (a:bf):Mo bf:=match a with
 |[y]=>(lV y).aC λj=>.dW (-(2 ^ 62)<=j/\j<2 ^ 62) (.i ((gp 0 j.toNat).map .d))|_=>.aQ
def Ax (a:bf):Mo bf:=match a with
 |[Q,y]=>(lV Q).aC λO=>(lV y).aC λj=>.dW (-(2 ^ 62)<=O/\O<2 ^ 62 /\ -(2 ^ 62)<=j/\j<2 ^ 62) (.i ((gp O (j-O).toNat).map .d))|_=>.aQ
theorem xb {ay:Type}{D:Int->Mo ay}{hs:ay->aj->aj->Prop}(V:cp J ((lV y).aC D) l F R hs)(a:bz J y v aq):∃O,v=.d O/\cp J (D O) l F R hs:=by
 have a:=bz.aH a;unfold lV at V;split at V
 ·rename_i O e;rw[e]at a;exact⟨O,a.d,V⟩
 exact V.elim
theorem Y2:sS J l (λc _ ar bp=>match c with |[.d j] => -(2 ^ 62)<=j/\j<2 ^ 62/\bp (ov 0 j.toNat) ar |_=>False) sT:=by
 intro a c o bB ar bp x1 d b;unfold sT at b;split at b
 ·obtain⟨v,rfl,S⟩:=b2.cN d
  obtain⟨O,rfl,b⟩:=xb b S;obtain⟨I,b⟩:=b.dW;exact⟨I.1,I.2,b.i x1 _ Mk⟩
 exact b.elim
theorem Y3:sS J l (λc _ ar bp=>match c with |[.d O,.d j]=>(-(2 ^ 62)<=O/\O<2 ^ 62 /\ -(2 ^ 62)<=j/\j<2 ^ 62)/\bp (ov O (j-O).toNat) ar |_=>False) Ax:=by
 intro a c o bB ar bp x1 e d;unfold Ax at d;split at d
 ·obtain⟨v,f,rfl,S,b⟩:=b2.jz e
  obtain⟨O,rfl,d⟩:=xb d S;obtain⟨j,rfl,d⟩:=xb d b;obtain⟨I,d⟩:=d.dW;exact⟨I,d.i x1 _ Mk⟩
 exact d.elim
def uZ (a:bf):Mo bf:=match a with
 |[y]=>(match y.aH with
  |.au .aG m=>.i ((lQ m).map λV=>.au .a_ [.d V.1,V.2])|_=>.aQ)
 |_=>.aQ
theorem Y4:sS J l (λc _ ar bp=>∃S,c=[.a0 S]/\(∃m,dG J ar S m)/\bp (zA J S) ar) uZ:=by
 intro a c o bB ar bp x1 h d;unfold uZ at d;split at d
 ·rename_i y
  obtain⟨v,rfl,S⟩:=b2.cN h;have S:=bz.aH S;split at d
  ·rename_i m e;rw[e]at S;obtain⟨N,aa,rfl,z,G⟩:=S.au
   refine⟨N,rfl,⟨aa,.of (x1 _ _ z)⟩,d.i x1 _ ⟨λO R X f g=>?_,λR f=>?_⟩⟩
   ·rw[gC,Ed]at g
    rcases G.gQ O with⟨S,_⟩|⟨t,u,S,b,Q⟩
    ·simp_all
    ·rw[S]at g;cases g
     refine⟨⟨aa,u,.of (f _ _ z),b⟩,?_⟩;rintro v aq ⟨c7,r,I,i,rfl,rfl⟩ F j n;have e:=I aa (.of (f _ _ z));rw[b]at e;cases e;have X:=fO.ed (C:=.a_ [.d O,u]) n i;refine⟨_,X,?_⟩;unfold bz;refine⟨c7,_,rfl,js,?_⟩;unfold b2;refine⟨_,_,rfl,rfl,?_⟩;unfold b2;exact⟨u,[],rfl,Q.bJ (j.b_ X.1),rfl⟩
   ·refine⟨aa,.of (f _ _ z),?_⟩
    rw[ct,Ee,G.b6];exact cM _
  ·exact d.elim
 ·exact d.elim
structure iw where
 a_:Bool
 is:bo
def Ay (g:iw)(y:ai):Option bf:=if g.a_ then(match y.aH with |.au .a_ a=>if a.length=g.is.length then E a else k |.au .aG a=>if a.length=2/\g.is.length=2 then E a else k |_=>k)else if g.is.length=1 then E [y]else k
def u0:bo->jv
 |[]=>Ky|O::is=>Kz (oq O) (u0 is)
def Y5 (J:cH)(z:Nat)(n:jv):iE:=λv o R q=>KA J z n v o R q\/z=2/\LI J n v o R q
def pP (J:cH)(g:iw):iE:=if g.a_ then Y5 J g.is.length (u0 g.is)else oq (g.is.headD 0)
def Fd (J:cH)(g:iw):fP bf:=⟨λa v F=>a.length=g.is.length/\if g.a_ then∃N aa,v=.a0 N/\(F N=E (.a_ aa)\/g.is.length=2/\F N=E (.aG aa))/\b2 J a aa F else b2 J a [v] F,
 λ{a v R aq} A V=>⟨V.1,by
  have V:=V.2;split at V
  ·rename_i e;rw[if_pos e];obtain⟨N,aa,aN,az,b⟩:=V;exact⟨N,aa,aN,az.imp (A _ _) λI=>⟨I.1,A _ _ I.2⟩,b.bJ A⟩
  ·rename_i e;rw[if_neg e];exact V.bJ A⟩⟩
def xc (J:cH)(is:bo)(a:bf):List (Nat×hL):=is.zip (a.map λy=>.aK (fR J) y)
theorem Az:∀{is:bo}{a:bf}{aa:a3}{o:L2.bU}{F R:aj}{q:L2.bU->aj->Prop},a.length=is.length->b2 J a aa F->(∀c,qP F (xc J is a) c->q (qO o c) R)->u0 is aa o R q
 |[],[],aa,o,F,R,q,_,G,V=>by subst G;exact V [] .nil
 |O::is,y::a,aa,o,F,R,q,s,G,V=>by
  obtain⟨v,c,rfl,S,G⟩:=G;exact Az (o:=o.set O _) (by simpa using s) G λaD hw=>V _ (.cons S hw)
 |[],_::_,_,_,_,_,_,s,_,_=>by simp at s
 |_::_,[],_,_,_,_,_,s,_,_=>by simp at s
theorem Ml (g:iw):K4 J (pP J g) (Fd J g) (xc J g.is):=by
 rintro a v o F R q f ⟨c,b⟩ V;unfold pP;split at b
 ·rename_i e;rw[if_pos e]
  obtain⟨N,aa,rfl,d |⟨af,d⟩,G⟩:=b
  ·exact .inl ⟨aa,.of (f _ _ d),by rw[<- G.b6,c],Az c G V⟩
  ·obtain⟨X,n,rfl⟩:=j5 (show aa.length=2 by rw[<- G.b6,c,af])
   obtain⟨t,rfl⟩:=qg.mp (show n.length=1 by have:=G.b6;rw[c,af]at this;simpa using this.symm)
   exact .inr ⟨af,X,t,.of (f _ _ d),Az c G V⟩
 ·rename_i e;rw[if_neg e]
  match Y:g.is,a,c,b,V with
  |[O],[y],_,b,V=>
   obtain⟨_,e,S⟩:=b2.cN b;cases e;exact V [(O,E v)] (.cons S .nil)
  |[],a,c,b,_=>rw[qf.mp c]at b;trivial|_::_::_,y::e::a,_,b,_=>obtain⟨_,_,I,_,G⟩:=b;cases I;unfold b2 at G;simp_all
def hM (g:iw):List ai->Option (List bf)
 |[]=>E []|y::a=>(Ay g y).bind λX=>(hM g a).map λm=>X::m
theorem Mm {g:iw}{X:bf}(e:Ay g y=E X)(Y:bz J y v F):(Fd J g).bp X v F:=by
 unfold Ay at e;split at e
 ·rename_i I
  have Y:=bz.aH Y;split at e
  ·rename_i a az
   rw[az]at Y;obtain⟨N,aa,rfl,z,G⟩:=Y.au;split at e
   ·rename_i s;cases e;exact⟨s,by rw[if_pos I];exact⟨N,aa,rfl,.inl z,G⟩⟩
   ·cases e
  ·rename_i a az
   rw[az]at Y;obtain⟨N,aa,rfl,z,G⟩:=Y.au;split at e
   ·rename_i s;cases e;exact⟨s.1.trans s.2.symm,by rw[if_pos I];exact⟨N,aa,rfl,.inr ⟨s.2,z⟩,G⟩⟩
   ·cases e
  ·cases e
 ·rename_i I
  split at e
  ·rename_i s;cases e;exact⟨s.symm,by rw[if_neg I];unfold b2;exact⟨v,[],rfl,Y,by unfold b2;rfl⟩⟩
  ·cases e
theorem Fe {g:iw}:∀{a:bf}{m:List bf},hM g a=E m->m.length=a.length/\∀(O:Nat) X,m[O]?=E X->∃y,a[O]?=E y/\Ay g y=E X
 |[],_,e=>by cases e;exact⟨rfl,λO X Y=>by simp at Y⟩
 |y::a,_,e=>by
  unfold hM at e;obtain⟨X,aN,e⟩:=g4.mp e;obtain⟨m,az,rfl⟩:=ik.mp e;obtain⟨s,w⟩:=Fe az;refine⟨by simp_all,λO t Y=>?_⟩
  cases O with
  |zero=>simp at Y;subst Y;exact⟨y,rfl,aN⟩|succ O=>exact w O t (by simpa using Y)
theorem Y6 {d:k0}{L:gV}{f:m2}(g:iw)(Y:uD J d l L f (fR J)):uD J d l L (f.aC λs=>.e8 (hM g s)) (Fd J g):=by
 intro o F R bp i j V;refine Y o F R _ i j (V.aC.c8 λa bB ar x1 b n h=>?_)
 obtain⟨m,e,b⟩:=b.e8;obtain⟨s,w⟩:=Fe e;refine b.i x1.2.1 n ⟨λO R X c q=>?_,λR c=>by rw[s];exact h.pw R c⟩
 obtain⟨y,r,az⟩:=w O X q;obtain⟨t,I⟩:=h.eC O R y c r;refine⟨t,λv aq V F u x=>?_⟩
 obtain⟨a4,z,A⟩:=I v aq V F u x;exact⟨a4,z,Mm az A⟩
def mw (x:aX):List Nat->bf->aX
 |O::is,y::a=>mw (x.set O (E y.bO)) is a
 |_,_=>x
def km (bW:cx)(bL:jn)(x:aX):aX:=bW.map (λ_=>k)++bL.map λV=>(x[V.2]?).join
theorem Y7 {bW:cx}{bL:jn}:dg bW bL (g9 J x)=g9 J (km bW bL x):=by
 unfold dg km;show _=List.map _ _
 rw[iA,gr,gr];congr 1;refine qi λV _=>?_
 simp only[Function.comp,gC];cases x[V.2]? with
 |_=>rfl
def u1 (L a:gV):Prop:=∀(O:Nat) bc,a[O]?=E bc->∃A,L[O]?=E A/\∀C F,A.Z C F->bc.Z C F
theorem u1.Mn {L a:gV}{o:L2.bU}(I:u1 L a)(Y:gW L o F):gW a o F:=λO bc e=>by
 obtain⟨A,aN,az⟩:=I O bc e;exact az _ _ (Y O A aN)
theorem Mp:∀{is:bo}{a:bf}{L:gV}{x:aX},u1 L (g9 J x)->u1 (uB L (xc J is a)) (g9 J (mw x is a))
 |[],_,_,_,I=>I|_::_,[],_,_,I=>I|O::is,y::a,L,x,I=>by
  refine Mp (is:=is) (a:=a) (L:=L.set O (.aK (fR J) y))  ?_;intro j bc e;rw[gC,yr]at e;by_cases b:O=j
  ·subst b
   rw[if_pos rfl]at e;by_cases d:O<x.length
   ·rw[if_pos d]at e
    cases e;obtain⟨A,aN,_⟩:=I O _ (by rw[gC,gd d];rfl)
    refine⟨.aK (fR J) y,by rw[tN (hF.mp aN).1],?_⟩
    rintro C F ⟨v,az,c⟩;refine⟨v,az,?_⟩;unfold ai.bO;split
    ·exact c
    ·split
     ·exact c
     ·unfold bz;exact c
   simp_all
  ·rw[if_neg b]at e
   obtain⟨A,aN,az⟩:=I j bc (by rw[gC];exact e)
   exact⟨A,by rw[jO b];exact aN,az⟩
theorem Y8 {L:gV}:u1 L L:=λO A e=>⟨A,e,λ_ _ Y=>Y⟩
theorem Y9 (Y:(uN (gq J)).bl a v F ab):bx J (.au .aG a) v F ab:=by
 obtain⟨N,c,af,rfl,j,V⟩:=Y;have b:∀{a:bf}{c:a3}{Y:aj},kl (gq J) F a c Y->bF J a c F Y:=λ{a}=>by
  induction a with
  |nil=>intro c Y V;cases c with |nil=>trivial |cons=>exact V.elim
  |cons y a d=>intro c Y V;cases c with |nil=>exact V.elim |cons v c=>obtain⟨ab,af,j,S,G⟩:=V;exact⟨v,c,ab,af,rfl,j,S,d G⟩
 exact⟨N,c,_,af,rfl,rfl,j,b V⟩
theorem Y_ {bW:cx}{bL:jn}{c:k0}{g:iw}{ht:f7}{dH:bN}{d:m2}{Q:bf->mZ}{w:bf->eA}(aB:uD J c l (g9 J x) d (fR J))(f:∀O∈g.is,O<bW.length)
  (i:∀S,mn J ht jw (g9 J (mw (km bW bL x) g.is S)) (Q S)) (j:∀S,dr J dH jw (mw (km bW bL x) g.is S) (w S)):
  dr J (wm bW bL c (pP J g) ht dH) l x ((d.aC λs=>.e8 (hM g s)).aC λm=>(k4 (λX=>mq (Q X) (w X)) m []).aC λaS=>.i (.au .aG aS)):=by
 have I:∀S,u1 (uB (dg bW bL (g9 J x)) (xc J g.is S)) _:=λS=>Mp (by rw[Y7];exact Y8)
 have:=Xx   (Y6 g aB) (Ml g) (λS O aB A e=>by
  have:O∈g.is:=by
   obtain⟨V,n,rfl⟩:=e3.mp aB;exact(rI n).1
  have r:=f O this;unfold dg at e;rw[tM (by rwa[ct]),gC,gd r]at e
  cases (e);rfl) (λS o F R q a b V=>i S o F R q ((I S).Mn a) b V) (λS o F R q a b V=>j S o F R q ((I S).Mn a) b V)
 intro o F R q a b V;refine this o F R q a b ?_;have e:∀(h:Mo _),(h.aC λm=>(k4 _ m []).aC λaS=>.i (ai.au .aG aS))=(h.aC λm=>k4 (λX=>mq (Q X) (w X)) m []).aC λaS=>.i _:=λh=>(Mo.Wc _ _ _).symm
 rw[e]at V;exact V.aC.c8 λaS bB ar x1 t v D u y A C=>t.i x1.2.1 v D u y A (Y9 C)
end
def Ff:d0:=λX t R q=>uV X t R λ_ ba D=>∃v,g8 ba D=E v/\q v R
def Mq (cB:Bool):d0:=λt X R q=>uV X t R λ_ ba D=>q (.aM (if cB then !(g8 ba D).isSome else(g8 ba D).isSome)) R
def Fg (J:cH):d0:=λX t R q=>zI J X t R q\/Ff X t R q
def xd (J:cH)(cB:Bool):d0:=λX t R q=>wu J cB X t R q\/Mq cB X t R q
def Fh (J:cH):List aL->aj->bX->Prop:=λc R q=>zJ J c R q\/Aq c R q
section
variable {H:bQ}
theorem Za (s:H.p.units+60<cLine):sd H Ff:=by
 intro ke c ag A o R X t v u q a d e Y f;obtain⟨S,ba,D,rfl,rfl,h,r,hw,V⟩:=EY Y;obtain rfl:v=jR S:=d;have g:wH R S (h3 D) (E r):=by rw[<- hw];exact .inl ⟨ba,D,h,rfl,rfl⟩
 have i:=V5 a g;refine bK ?_;refine bK (wpAny_specialOf i PySem.F.slot_dict_getitem.lookup ?_);have j:bM (model H.cb H.r) H.p (subscripted c ax (.ref S) u) (λG b=>bM (model H.cb H.r) H.p (letTemporaryGo ke (.ref S) G>>=λ_=>pure G) (kb H ag o q) H.e7 b) H.e7 A:=by
  rw[f];exact wpAny_operating (kC (V0  (by lia) a g e λw x l m=>⟨r,R,l,m,V⟩) (λG b n=>bK (wpAny_letTemporaryGo (dx n))) λ_ _ X=>X)
 exact dx (bK j)
theorem Mr (f:H.p.units+60<cLine):sd H (Fg H.J):=λke a ag A o R X t v u q b c d Y e=>by
 rcases Y with Y |Y
 ·exact Vg ke a ag A o R X t v u q b c d Y e
 exact Za f ke a ag A o R X t v u q b c d Y e
theorem Zb (f:H.p.units+60<cLine):dj H (eJ .In) (xd H.J ax):=λag A o R X t v u q a b c Y=>by
 rcases Y with Y |Y
 ·exact U7 ag A o R X t v u q a b c Y
 ·obtain⟨S,ba,D,rfl,rfl,d,V⟩:=EY Y
  cases c;exact V1 (by lia) a (.inl ⟨ba,D,d,rfl,rfl⟩) b λg e=>⟨.aM _,R,e,rfl,V⟩
theorem Zc (f:H.p.units+60<cLine):dj H (eJ .NotIn) (xd H.J ae):=λag A o R X t v u q a b c Y=>by
 rcases Y with Y |Y
 ·exact U8 ag A o R X t v u q a b c Y
 ·obtain⟨S,ba,D,rfl,rfl,d,V⟩:=EY Y
  cases c;exact V2 (by lia) a (.inl ⟨ba,D,d,rfl,rfl⟩) b λg e=>⟨.aM _,R,e,rfl,V⟩
theorem Zd:iG H (.builtin "len") (Fh H.J):=λag A o R m aa q a G Y=>by
 rcases Y with Y |Y
 ·exact Vj ag A o R m aa q a G Y
 exact YR ag A o R m aa q a G Y
end
section
variable {J:i5}{l:b4}{F a4 Y ab af R aq:aj}{y:ai}{a:bf}{v:aL}{aa c:a3}{D:h_}{N:aV}{q:bX}{x:aX}{n:bN}{G bC bR:eA}{bE:fg}{fS:m2}{w:b0}
def Fi (y:ai):Bool:=match y.aH with |.au (.gy _) _=>ae |_=>ax
def dt (S b:ai):Mo ai:=if Fi S then EW S b else EU S b
theorem Ze:ia J Ff l EW:=by
 intro S b X t F R q d c g V;have c:=bz.aH c;unfold EW at V;split at V
 ·rename_i h a D aN az
  rw[aN]at c;obtain⟨N,aa,rfl,z,G⟩:=c.au;obtain⟨y,e,V⟩:=V.e8;obtain⟨o,f,rfl⟩:=ik.mp e;rcases EV (D:=D) (b:=h) G with⟨ab,af⟩|⟨dO,i,j,m,n⟩
  ·simp_all
  ·rw[j]at f;cases f
   exact EZ rfl (w7 az g).1 (uT d z.1) ⟨i,m,Am V d n⟩
 exact V.elim
theorem Zf:ia J (Fg J) l dt:=by
 intro S b X t F R q a c d V;unfold dt at V;split at V
 ·exact .inr (Ze S b X t F R q a c d V)
 exact .inl (Yt S b X t F R q a c d V)
def m7 (cB:Bool)(S b:ai):Mo ai:=if Fi b then EX cB S b else E3 cB S b
theorem Zg {cB:Bool}:ia J (Mq cB) l (EX cB):=by
 intro S b X t F R q d g c V;have c:=bz.aH c;unfold EX at V;split at V
 ·rename_i f a D aN az
  rw[aN]at c;obtain⟨N,aa,rfl,z,G⟩:=c.au;refine EZ rfl (w7 az g).1 (uT d z.1) ?_;have e:(g8 (f.zip aa) D).isSome=(nP f a D).isSome:=by
   rcases EV   G with⟨ab,af⟩|⟨dO,h,i,j,m⟩
   ·rw[ab,af];rfl
   simp_all
  rw[e];exact jB V d
 exact V.elim
theorem Zh {cB:Bool}:ia J (xd J cB) l (m7 cB):=by
 intro S b X t F R q a c d V;unfold m7 at V;split at V
 ·exact .inr (Zg S b X t F R q a c d V)
 exact .inl (YH S b X t F R q a c d V)
def mx (a:bf):Mo ai:=match a with |[y]=>if Fi y then Md a else Mc a |_=>.aQ
theorem Zi:lW J (Fh J) l mx:=by
 intro a c F R q b d V;unfold mx at V;split at V
 ·split at V
  ·exact .inr (YS _ c F R q b d V)
  exact .inl (YQ _ c F R q b d V)
 exact V.elim
def pQ (w:b0)(Q:Str)(a:bf):Mo ai:=match w (.au (.dI Q []) []::a.map .bO)with
 |.i .a9 (C::_)=>.i C|.aW X _=>.aW X|_=>.aQ
theorem sU {N bH V:aV}{C:fF}:jz N bH C V=if V=N then E C else if V=bH then E (.e4 N)else k:=rfl
theorem Ms:∀{a aw:bf}{c aa:a3}{F:aj},b2 J a c F->b2 J aw aa F->b2 J (a++aw) (c++aa) F
 |[],_,_,_,_,Y,g=>by subst Y;exact g
 |y::a,_,_,_,_,Y,g=>by obtain⟨v,c,rfl,S,G⟩:=Y;exact⟨v,_,rfl,S,Ms G g⟩
theorem Zj {Q:Str}{d:bf}{fh:a3}(A:k9 J bE l x fS)(B:∀F,b2 J d fh F):dr J (ue (da J Q) (fJ J w) fh l bE) l x (fS.aC λa=>pQ w Q (a++d)):=by
 intro o F R q D G V;refine uW A o F R _ D G (V.aC.c8 λa bB ar x1 b c f=>?_)
 intro X bH g h ne;have f:=Ms f (B bB);have b:=b.c8 λS T U x3 K=>K.d1 x1.2.2.1
 have L:bu ar (b8 (b8 ar bH (.e4 X)) X (.e1 (da J Q) bH [])):=(oD h _).b_ (oD (by rw[fN λI=>ne I.symm];exact g) _)
 have M:f9 (b8 (b8 ar bH (.e4 X)) X (.e1 (da J Q) bH [])) (jz X bH (.e1 (da J Q) bH []))=ar:=funext λN=>by
  unfold f9;rw[sU];by_cases e:N=X
  ·subst e;rw[if_pos rfl];exact g.symm
  ·rw[if_neg e]
   by_cases az:N=bH
   ·subst az;rw[if_pos rfl];exact h.symm
   ·rw[if_neg az,fN e,fN az]
 refine⟨bB,jz X bH (.e1 (da J Q) bH []),.au (.dI Q []) []::(a++d).map .bO,x1.2.1.b_ L,λN=>?_,λN C I=>?_,?_,?_⟩
 ·rw[sU]
  by_cases e:N=X
  ·subst e;exact .inl (x1.2.1.ck g)
  ·rw[if_neg e]
   by_cases az:N=bH
   ·subst az;exact .inl (x1.2.1.ck h)
   ·rw[if_neg az];exact .inr rfl
 ·rw[sU]at I
  by_cases e:N=X
  ·subst e;rw[if_pos rfl]at I;cases I;exact js
  ·rw[if_neg e]at I
   by_cases az:N=bH
   ·subst az;rw[if_pos rfl]at I;cases I;rw[fN e];exact js
   ·rw[if_neg az]at I;cases I
 ·unfold bF
  refine⟨.a0 X,_,_,λ_=>k,rfl,gX _ λ_=>rfl,?_,bF.bO (λ_=>rfl) f⟩
  unfold bx;exact⟨X,[],_,λ_=>k,rfl,⟨bH,ne,rfl,rfl⟩,gX _ λ_=>rfl,by unfold bF;exact⟨rfl,λ_=>rfl⟩⟩
 ·rw [M]
  unfold pQ at b;cases e:w (.au (.dI Q []) []::(a++d).map .bO)with
  |aQ=>rw[e]at b;exact b|aW X dc=>rw[e]at b;exact λa4 aE aq ok _=>b a4 aq ok.1|i y dc=>
   rw[e]at b;intro v a4 aE aq W af ok j s u;split at b
   ·rename_i C hH m
    cases m;refine⟨?_,?_⟩
    ·unfold bx at s;exact s.2.a9
    ·unfold bF at u
     obtain⟨r,aD,n,Y,O,z,P,_⟩:=u;cases O;have bh:bu n aE:=z.s.b_ j.G;refine b a4 aq ok.1 (.a0 X) n (λN I=>ok.2.2.2.1 N ?_) (wR (Ac ok.2.1 j) z) (bh.b_ ok.2.2.1) P
     cases t:n N with
     |none=>exact absurd t I|some r=>rw[bh _ _ t];exact fE _
   ·rename_i m;cases m
   ·exact b.elim
theorem Zk {Q:Str}(a:k9 J bE l x fS):dr J (ue (da J Q) (fJ J w) [] l bE) l x (fS.aC (pQ w Q)):=by
 have:=Zj (Q:=Q) (w:=w) (d:=[]) a λF=>rfl
 simp_all
def u2 (J:cH)(av:oL)(h:Str)(l:b4)(n:bN)(bE:fg):bN:=λo R q=>∃V∈av,zp (da J V.1) h (fJ J V.2) [] l n bE o R q
def q0 (av:oL)(h:Str)(y:ai)(fS:m2):Mo ai:=match y.aH with
 |.au (.dI Q b) _=>(match av.find? (λV=>V.1 == Q)with |some V=>if h∈b then .aQ else fS.aC λa=>V.2.cj (y.bO::a.map .bO)|none=>.aQ)|_=>.aQ
theorem Mt:∀{a:cx}{aa:a3}{w:Str},w∉a->(a.zip aa).lookup w=k:=Ly
theorem Zl {av:oL}{h:Str}(t:av≠[])(u:dr J n l x G)(w:k9 J bE l x fS):dr J (u2 J av h l n bE) l x (G.aC λy=>q0 av h y fS):=by
 intro o F R q f z V;have j:∀g∈av,(∀y,G=.i y->∃b a,y.aH=.au (.dI g.1 b) a/\av.find? (λV=>V.1 == g.1)=E g)->u2 J av h l n bE o R q:=λg A B=>⟨g,A,by
  refine g_ u o F R _ f z ?_;cases e:G with
  |aQ=>rw[e]at V;exact V|aW X=>rw[e]at V;exact V|i y=>
   obtain⟨b,a,az,C⟩:=B y e;rw[e]at V;intro bB ar x1 v m;have r:=bz.aH m;rw[az]at r;obtain⟨N,aa,rfl,⟨bH,D,s⟩,T⟩:=r.au;have V:cp J (q0 av h y fS) l F R (fs (gq J) R q):=V;unfold q0 at V;rw[az]at V;dsimp only at V;rw[C]at V;dsimp only at V;split at V
   ·exact V.elim
   ·rename_i K
    refine⟨N,bH,_,rfl,x1.2.1 _ _ D,Mt K,?_⟩;have L:cp J (fS.aC λa=>g.2.cj (y.bO::a.map ai.bO)) l bB ar (fs (gq J) R q):=by
     generalize fS.aC (λa=>g.2.cj (y.bO::a.map ai.bO))=I at V ⊢
     cases I with
     |aQ=>exact V|i S=>exact λao a5 x2=>V ao a5 (x1.b_ x2)|aW Q=>exact λao a5 x2=>(V ao a5 (x1.b_ x2)).iH x1.2.2.1
    refine uW w o bB ar _ (f.bJ x1.1) x1.2.1 (L.aC.c8 λaI ao a5 x2 M c O=>?_)
    rw[lC];exact Fb (a:=y::aI) x2.2.1 (by unfold b2;exact⟨_,_,rfl,(fR J).bJ x2.1 m,O⟩) (M.c8 λG U W x3 P=>P.d1 (x1.2.2.1.b_ x2.2.2.1))⟩
 cases e:G with
 |aQ=>rw[e]at V;exact V.elim|i y=>
  rw[e]at V;have cL:cp J (q0 av h y fS) l F R (fs (gq J) R q):=V;unfold q0 at cL;split at cL
  ·rename_i Q b a az
   split at cL
   ·rename_i g d
    have ab:g.1=Q:=by simpa using Iq d
    exact j g (H7 d) λdO I=>by rw[e]at I;cases I;exact⟨b,a,by rw[ab];exact az,by rw[ab];exact d⟩
   ·exact cL.elim
  ·exact cL.elim
 |aW X=>
  cases av with
  |nil=>exact absurd rfl t|cons g av=>exact j g (ek ..) λdO I=>by rw[e]at I;cases I
def sV:bf->Option jm
 |[]=>E []|y::a=>(match y.aH with |.f s=>E s |_=>k).bind λX=>(sV a).map λm=>X::m
theorem Mu:∀{a:bf}{m:jm}{aa:a3},sV a=E m->b2 J a aa R->aa=m.map eN
 |[],_,_,e,Y=>by cases e;trivial
 |y::a,_,_,e,Y=>by
  unfold sV at e;obtain⟨X,aW,e⟩:=g4.mp e;obtain⟨m,b,rfl⟩:=ik.mp e;obtain⟨v,c,rfl,S,G⟩:=Y;have S:=bz.aH S;split at aW
  ·rename_i az;cases aW;rw[az]at S;cases S.f;rw[Mu b G];rfl
  cases aW
def kn (s:bo)(a:bf):Mo ai:=match a with
 |[y]=>(match y.aH with |.au .aG m=>(Mo.e8 (sV m)).aC λb=>.dW (JoinOk ⟨s.toArray⟩ (oG b)=ae) (.i (.f (wy s (oG b))))|_=>.aQ)|_=>.aQ
theorem Zm:∀a:jm,oC (a.map eN)=E (oG a):=Mv
 where Mv:∀a:List _,oC _=E _
 |[]=>rfl|s::a=>by show(oC _).map _=_;rw[Mv a];rfl
theorem Zn:qW J (zO J) l kn:=by
 intro s a c F R q d f V;unfold kn at V;split at V
 ·obtain⟨v,rfl,S⟩:=b2.cN f
  have S:=bz.aH S;split at V
  ·rename_i m e;rw[e]at S;obtain⟨N,aa,rfl,z,G⟩:=S.au
   cases b:sV m with
   |none=>rw[b]at V;exact V.elim|some g=>
    rw[b]at V;obtain⟨I,V⟩:=cp.dW (V);refine⟨aa,.of (d _ _ z),?_⟩;rw[Mu b G,Zm];exact⟨I,pN V d⟩
  exact V.elim
 exact V.elim
def nR (s:bo)(a:bf):Mo ai:=match a with
 |[y]=>(match y.aH with |.f Q=>.dW (s.length<=100000/\Q≠[]) (.i (.au .aG (((qU Q s).map .f).map .bO)))|_=>.aQ)|_=>.aQ
theorem Fj:∀a:jm,b2 J (a.map .f) (a.map eN) F
 |[]=>rfl|s::a=>⟨_,_,rfl,rfl,Fj a⟩
theorem Zo:qW J Ae l nR:=by
 intro s a c F R q b d V;unfold nR at V;split at V
 ·obtain⟨v,rfl,S⟩:=b2.cN d
  have S:=bz.aH S;split at V
  ·rename_i Q e;rw[e]at S;cases S.f
   obtain⟨⟨f,g⟩,V⟩:=V.dW;exact⟨by simpa using f,by simpa using g,λN h=>mv V b h (Fj _)⟩
  exact V.elim
 exact V.elim
def xe (g:bo->bo->eA)(s:bo)(a:bf):Mo ai:=match a with |[y]=>(match y.aH with |.f Q=>g s Q |_=>.aQ)|_=>.aQ
theorem Fl {h:aL->a3->aj->bX->Prop}{g:bo->bo->eA}(b:∀s Q F R (q:bX),bu F R->cp J (g s Q) l F R (fs (gq J) R q)->h (eN s) [eN Q] R q):qW J h l (xe g):=by
 intro s a c F R q d f V;unfold xe at V;split at V
 ·obtain⟨v,rfl,S⟩:=b2.cN f
  have S:=bz.aH S;split at V
  ·rename_i Q e;rw[e]at S;cases S.f;exact b s Q F R q d V
  exact V.elim
 exact V.elim
abbrev Mw:=xe λs Q=>.i (.d (mX s Q))
abbrev Mx:=xe λs Q=>.dW (mX s Q ≠ -1) (.i (.d (mX s Q)))
theorem Zp:qW J zM l Mw:=Fl λs Q F R q a V=>lU V a
theorem Zq:qW J zN l Mx:=Fl λs Q F R q a V=>by obtain⟨I,V⟩:=V.dW;exact⟨I,lU V a⟩
noncomputable def My:ai->Option String
 |.d _=>E "int" |.aM _=>E "bool" |.f _=>E "str" |.a9=>E "NoneType" |.au .aG _=>E "list" |.au .a_ _=>E "tuple" |_=>k
def q1 (z:String)(y:ai):Mo ai:=.e8 (((My y.aH).bind λT=>zL T z).map .aM)
theorem Zr {T:String}(Y:My y=E T)(S:bz J y v F)(b:bu F R):D0 J R v T:=by
 cases y with
 |d=>cases Y;cases S.d;rfl|aM=>cases Y;cases S.aM;rfl|f=>cases Y;cases S.f;rfl|a9=>cases Y;cases S.a9;rfl|au D a=>
  obtain⟨N,aa,rfl,h,_⟩:=S.au;cases D with
  |aG=>cases Y;exact .inl ⟨rfl,aa,b _ _ h⟩|a_=>cases Y;exact .inr ⟨rfl,aa,b _ _ h⟩|_=>cases Y
 |_=>cases Y
def AA (J:cH):List aL->aj->bX->Prop:=λm R q=>∃X Q T b,m=[X,.fW Q]/\D0 J R X T/\zL T Q=E b/\q (.aM b) R
theorem Zs {H:bQ}:iG H (.builtin "isinstance") (AA H.J):=by
 rintro ag A o R m aa q a G ⟨X,Q,T,b,rfl,c,d,e⟩;obtain⟨u,g,rfl,bC,bR⟩:=zk G;cases bR;exact j_ (Tz a bC (Vm c) (Vn d) λf h=>⟨.aM b,R,a.fX f,rfl,e⟩)
theorem Zt (z:String)(c:dr J n l x G):dr J (k1 (AA J) (gT n (gT (gG (.fW z)) hG))) l x (G.aC (q1 z)):=by
 intro o F R q d f V;refine g_ c o F R _ d f (V.aC.c8 λy bB ar x1 a v g=>?_)
 have a:=a.c8 λS j m x3 h=>h.d1 x1.2.2.1
 obtain⟨r,e,a⟩:=a.e8;obtain⟨b,i,rfl⟩:=ik.mp e;obtain⟨T,aN,az⟩:=g4.mp i;exact⟨v,z,T,b,rfl,Zr aN (bz.aH g) x1.2.1,az,jB a x1.2.1⟩
def sW:bf->Option qx
 |[]=>E []|y::a=>match y.aH,sW a with |.aM b,E c=>E (b::c)|_,_=>k
theorem Mz:∀{a:bf}{aa:a3}{d:qx}{F:aj},sW a=E d->b2 J a aa F->aa=d.map aL.aM
 |[],aa,d,F,Y,G=>by subst G;cases (Y);rfl
 |y::a,aa,d,F,Y,G=>by
  obtain⟨v,c,rfl,S,G⟩:=G;unfold sW at Y;split at Y
  ·rename_i b e aN az
   cases Y;have S:=bz.aH S;rw[aN]at S;cases S.aM;rw[Mz az G];rfl
  cases Y
def u3:bf->eA:=oK λy=>match y with |.au .aG a=>(match sW a with |some b=>.i (.aM (b.all id))|none=>.aQ)|_=>.aQ
theorem Zu:lW J (zR J) l u3:=qV λy v F R q a b V=>by
 split at V
 ·obtain⟨N,aa,rfl,z,G⟩:=b.au
  split at V
  ·rename_i c e
   refine⟨c,?_,jB V a⟩;rw[<- Mz e G];exact .of (a _ _ z)
  exact V.elim
 exact V.elim
theorem Zv:dr J D9 l x (.i (.au (.gy []) [])):=by
 intro o F R q d a V N c;refine V F _ (.heap a (oD c _)) _ (cN N (.ey [])) (λb I=>?_) (λb=>?_) (λb C I=>?_) ?_
 ·rw[jW]at I;split at I
  ·rename_i e;rwa[e]
  trivial
 ·rw[jW];split
  ·rename_i e;rw[e];exact .inl (a.ck c)
  exact .inr rfl
 ·rw[jW]at I;split at I
  ·rename_i e;rw[e];cases I;exact js
  cases I
 ·exact⟨N,[],_,λ_=>k,rfl,⟨rfl,rfl,CB⟩,gX _ λ_=>rfl,⟨rfl,λ_=>rfl⟩⟩
def q2 (a:bf):Mo bf:=match a with
 |[y,e]=>(match y.aH,e.aH with
  |.au .aG m,.f s=>.i ((m.zip s).map λV=>.au .a_ [V.1,.f [V.2]])|_,_=>.aQ)
 |_=>.aQ
theorem Zw:sS J l (λc _ ar bp=>match c with
  |[.a0 S,.f X]=>(∃m,dG J ar S m)/\bp (Ab J S X.cps.size (lJ X)) ar|_=>False) q2:=by
 intro a c o bB ar bp x1 z f;unfold q2 at f;split at f
 ·obtain⟨v,K,rfl,S,i⟩:=b2.jz z
  have S:=bz.aH S;have i:=bz.aH i;split at f
  ·rename_i s d aN az
   rw[aN]at S;rw[az]at i;obtain⟨N,aa,rfl,j,w⟩:=S.au;cases i.f;refine⟨⟨aa,.of (x1 _ _ j)⟩,f.i x1 _ ⟨λO R X n h=>?_,λR n=>?_⟩⟩
   ·rw[gC]at h
    cases q:(s.zip d)[O]? with
    |none=>rw[q]at h;cases h|some V=>
    rw[q]at h;cases h;obtain⟨g,x⟩:=H8.mp (show(s.zip d)[O]?=E (V.1,V.2)from q)
    rcases w.gQ O with⟨S,_⟩|⟨t,u,S,b,Q⟩
    ·rw[S]at g;cases g
    rw[S]at g;injection g with g;have aB:=(hF.mp x).1;refine⟨⟨aa,u,.of (n _ _ j),b,aB⟩,?_⟩;rintro v aq ⟨A,r,I,B,rfl,rfl⟩ F C D;have e:=I aa (.of (n _ _ j));rw[b]at e;cases e;have y:=fO.ed (C:=.a_ [u,L2.lJ ⟨d.toArray⟩ O]) D B;refine⟨_,y,?_⟩;show bz J _ _ _
    unfold bz;refine⟨A,_,rfl,js,?_⟩;unfold b2;refine⟨_,_,rfl,by rw[<- g];exact bz.bJ (C.b_ y.1) Q,?_⟩
    unfold b2;refine⟨_,_,rfl,?_,by unfold b2;rfl⟩
    unfold bz;have G:(d.toArray).getD O 0=V.2:=by rw[Array.getD_eq_getD_getElem?,List.getElem?_toArray,x];rfl
    show aL.f ⟨#[(d.toArray).getD O 0]⟩=eN [V.2]
    rw[G]
   ·refine⟨aa,.of (n _ _ j),?_⟩
    rw[ct,qn,w.b6];show min aa.length d.length=aa.length\/min aa.length d.length<aa.length/\min aa.length d.length=d.length
    lia
  ·exact f.elim
 ·exact f.elim
theorem AB (V:cp J (.i (.au .a_ (a.map .bO))) l F R (fs (gq J) R q))(c:bu F R)(d:R N=k)(G:b2 J a aa F):q (.a0 N) (b8 R N (.a_ aa)):=by
 have X:=fO.ed (C:=.a_ aa) c d;exact V _ _ X _ _ (λb I=>absurd rfl I) (λ_=>.inr rfl) (λb C I=>by cases I) ⟨N,aa,λ_=>k,λ_=>k,rfl,⟨js,λ_=>rfl⟩,gX _ λ_=>rfl,bF.bO (λ_=>rfl) (G.bJ X.1)⟩
noncomputable def Fm (N:Str×Str×Str):List ai:=[.f N.1.cps.toList,.f N.2.1.cps.toList,.f N.2.2.cps.toList]
abbrev Fn (w:Str->Str->Str×Str×Str):=xe λs Q=>.dW (Q≠[]/\s.length<=100000) (.i (.au .a_ ((Fm (w ⟨s.toArray⟩ ⟨Q.toArray⟩)).map .bO)))
theorem Zx {w:Str->Str->Str×Str×Str}:qW J (uS w) l (Fn w):=Fl λs Q F R q a V=>by
 obtain⟨⟨b,c⟩,V⟩:=V.dW;refine⟨_,_,rfl,rfl,?_,?_,λN d=>AB V a d ?_⟩
 ·cases Q with |nil=>exact absurd rfl b |cons S Q=>rfl
 ·exact lK (show s.toArray.size<=100000 by simpa using c)
 ·have e:∀A:Str,bz J (.f A.cps.toList) _ F:=λA=>rfl
  exact⟨_,_,rfl,e _,_,_,rfl,e _,_,_,rfl,e _,rfl⟩
def Fo (J:cH):aL->ea->ea->aj->bX->Prop:=λX a8 aB R q=>Ku J X a8 aB R q\/J3 J X a8 aB R q
theorem Zy {H:bQ}:nF H (Fo H.J):=nF.or Vh T5
def la (S:ai)(a8 aB:ea):Mo ai:=match S.aH with
 |.au .a_ m=>if HT.dJ m.length 0 a8=0/\HT.dJ m.length m.length aB=m.length then .aQ else .i (.au .a_ ((eD m a8 aB).map .bO))
 |_=>Ma S a8 aB
theorem Zz {hH sb:mV}{g h:Mo ea}(i:dr J n l x G)(j:wK J hH l (g9 J x) g)(r:wK J sb l (g9 J x) h):dr J (Dw (Fo J) n hH sb) l x (G.aC λs=>g.aC λS=>h.aC λb=>la s S b):=by
 intro o F R q f t V;refine g_ i o F R _ f t (V.aC.c8 λs bB ar x1 u v w=>?_)
 refine j o bB ar _ (f.bJ x1.1) x1.2.1 (u.aC.c8 λa8 ao a5 x2 y=>?_)
 refine r o ao a5 _ (f.bJ (x1.1.b_ x2.1)) x2.2.1 (y.aC.c8 λaB C D x3 a=>?_)
 have c:=bz.aH ((fR J).bJ (x2.1.b_ x3.1) w);have a:=a.c8 λQ I K x4 A=>A.d1 (x1.2.2.1.b_ (x2.2.2.1.b_ x3.2.2.1))
 unfold la at a;split at a
 ·rename_i m e;rw[e]at c;obtain⟨N,aa,rfl,z,G⟩:=c.au
  split at a
  ·exact a.elim
  ·rename_i B
   exact .inr ⟨N,aa,rfl,.of (x3.2.1 _ _ z),by rw[<- G.b6];exact B,λN d=>AB a x3.2.1 d (G.ET a8 aB)⟩
 ·refine .inl ?_
  unfold Ma at a;split at a
  ·rename_i s e;rw[e]at c;cases c.f
   obtain⟨Q,a⟩:=a.eS;exact⟨Q,pN a x3.2.1⟩
  ·rename_i e;rw[e]at c;obtain⟨N,aa,rfl,z,G⟩:=c.au
   exact⟨aa,.of (x3.2.1 _ _ z),λN d=>mv a x3.2.1 d (G.ET a8 aB)⟩
  ·rename_i e;rw[e]at c;obtain⟨N,aa,rfl,z,G⟩:=c.au
   exact⟨aa,x3.2.1.seq z,λN d=>mv a x3.2.1 d (G.ET a8 aB)⟩
  ·exact a.elim
def Fp (J:cH):d0:=λX t R q=>DN X t R q\/J4 J X t R q
theorem ZA {H:bQ}:dj H (j4 .Add) (Fp H.J):=λag A o R X t v u q a b c Y=>by
 rcases Y with Y |Y
 ·exact UW ag A o R X t v u q a b c Y
 exact T6 ag A o R X t v u q a b c Y
def hu (S b:ai):Mo ai:=match S.aH,b.aH with
 |.au .a_ m,.au .a_ aS=>if m=[]then .aQ else .eS (m.length+aS.length) (.i (.au .a_ ((m++aS).map .bO)))
 |_,_=>EM S b
noncomputable instance (s:bf):Decidable (s=[]):=match s with |[]=>.isTrue rfl |_::_=>.isFalse λY=>by cases Y
theorem ZC:ia J (Fp J) l hu:=by
 intro S b X t F R q a c d V;unfold hu at V;split at V
 ·rename_i m aS aN az
  have c:=bz.aH c;have d:=bz.aH d;rw[aN]at c;rw[az]at d;obtain⟨N,aa,rfl,z,G⟩:=c.au;obtain⟨c7,aD,rfl,dC,bR⟩:=d.au;split at V
  ·exact V.elim
  ·rename_i e
   obtain⟨Q,V⟩:=V.eS;have ab:aa≠[]:=λI=>e (qf.mp (by rw[G.b6,I];rfl))
   refine .inr ⟨N,c7,aa,aD,rfl,rfl,.of (a _ _ z),.of (a _ _ dC),ab,by rwa[<- G.b6,<- bR.b6],λI=>?_,λ_ s f=>AB V a f (G.uU bR)⟩
   have  := qf.mp (by rw[bR.b6,I];rfl)
   subst this;rw[lC]at V;refine V F R (fO.fc a) _ _ (λb I=>absurd rfl I) (λ_=>.inr rfl) (λb C I=>by cases I) ?_
   exact⟨N,aa,λ_=>k,λ_=>k,rfl,⟨z,λ_=>rfl⟩,gX _ λ_=>rfl,bF.bO (λ_=>rfl) G⟩
 exact .inl (Yk S b X t F R q a c d V)
def sX (S:ai):Mo ai:=match S.aH with
 |.au .aG m=>.i (.au .aG (m.reverse.map .bO))|_=>.aQ
theorem MA:∀{a:bf}{aa:a3}{y:ai}{v:aL}{F:aj},b2 J a aa F->bz J y v F->b2 J (a++[y]) (aa++[v]) F
 |[],aa,y,v,F,G,S=>by subst G;exact⟨v,[],rfl,S,rfl⟩
 |dO::a,aa,y,v,F,G,S=>by
  obtain⟨d,c,rfl,b,G⟩:=G;exact⟨d,_,rfl,b,MA G S⟩
theorem MB:∀{a:bf}{aa:a3}{F:aj},b2 J a aa F->b2 J a.reverse aa.reverse F
 |[],aa,F,G=>by subst G;trivial
 |y::a,aa,F,G=>by
  obtain⟨d,c,rfl,b,G⟩:=G;rw[yy,yy];exact MA (MB G) b
theorem ZD (c:dr J n l x G):dr J (Ea J n (uk (ur (gG (.d 1))))) l x (G.aC sX):=by
 intro o F R q d f V;refine g_ c o F R _ d f (V.aC.c8 λs bB ar x1 a v g=>?_)
 have b:=bz.aH g;have a:=a.c8 λQ j r x4 h=>h.d1 x1.2.2.1
 unfold sX at a;split at a
 ·rename_i m e;rw[e]at b;obtain⟨N,aa,rfl,z,G⟩:=b.au
  exact⟨rfl,aa,.of (x1.2.1 _ _ z),λN i=>mv a x1.2.1 i (MB G)⟩
 exact a.elim
theorem AD:∀(a:ef) {R:aj},b2 J (a.map ai.d) (a.map aL.d) R
 |[],_=>rfl|z::a,R=>⟨_,_,rfl,rfl,AD a⟩
def AE (S b:ai):Mo ai:=(lV S).aC λO=>(lV b).aC λj=>.dW (-50000<=O/\O<=50000 /\ -50000<=j/\j<=50000) (.i (.au .aG (((gp O (j-O).toNat).map ai.d).map .bO)))
theorem ZE {c d:bN}{f g:eA}(ab:dr J c l x f)(af:dr J d l x g):dr J (k1 (zT J) (gT (k1 zS (gT c (gT d hG))) hG)) l x (f.aC λX=>g.aC λt=>AE X t):=by
 intro o F R q h i V;refine g_ ab o F R _ h i (V.aC.c8 λS bB ar x1 m v n=>?_)
 refine g_ af o bB ar _ (h.bJ x1.1) x1.2.1 (m.aC.c8 λb ao a5 x2 a r hw=>?_)
 have a:=a.c8 λQ z A x4 u=>u.d1 (x1.2.2.1.b_ x2.2.2.1)
 obtain⟨O,rfl,a⟩:=xb a ((fR J).bJ x2.1 n);obtain⟨j,rfl,a⟩:=xb a hw;obtain⟨Q,a⟩:=a.dW;intro N w;have X:=fO.ed (C:=.rY O j) x2.2.1 w;have e:wA O j=(gp O (j-O).toNat).map aL.d:=by unfold wA gp;simp
 refine .inr ⟨O,j,js,Q,λs y=>?_⟩
 rw[e];refine mv (l:=l)    (λa4 aq t=>fs.d1 X.2.2.1 (a a4 aq (X.b_ t))) X.2.1 y (AD _)
def AF:bf->Option ef
 |[]=>E []|y::a=>match y.aH,AF a with |.d O,E is=>E (O::is)|_,_=>k
def sY:jq->Option ef
 |[]=>E []|.inl O::a=>(sY a).map (O::·)|_=>k
theorem MC:∀{a:bf}{aa:a3}{is:ef}{F:aj},AF a=E is->b2 J a aa F->fy uA F is aa
 |[],aa,is,F,Y,G=>by subst G;cases Y;exact .nil
 |y::a,aa,is,F,Y,G=>by
  obtain⟨v,c,rfl,S,G⟩:=G;unfold AF at Y;split at Y
  ·rename_i b d aN az
   cases Y;have S:=bz.aH S;rw[aN]at S;exact .cons S.d (MC az G)
  cases Y
def q3 (is:ef):Mo ai:=.dW (is.length<64) (.i (.au .aG ((kk sE is).map .d)))
noncomputable def pJ (V:Int×Int):ai:=.au .a_ [.d V.1,.d V.2]
noncomputable def Fq:ai->ea
 |.d O=>E O |_=>k
def MD (y:ai):Option (Int×Int):=match y with
 |.au .a_ a=>(a[0]?.bind Fq).bind λS=>(a[1]?.bind Fq).bind λb=>if a.length=2 then E (S,b)else k
 |_=>k
def u4:bf->Option vX
 |[]=>E []|y::a=>(MD y).bind λV=>(u4 a).map λb=>V::b
abbrev AG:fP (Int×Int):=Eb (K0 uA (zV uA))
theorem ME {F:aj}{y:ai}{O:Int}{v:aL}(e:Fq y=E O)(Y:bz J y v F):v=.d O:=by
 cases y with
 |d j=>cases e;exact Y.d|_=>cases e
theorem ZF {F:aj}{y:ai}{V:Int×Int}{v:aL}(e:MD y=E V)(Y:bz J y v F):AG.bp V v F:=by
 cases y with
 |au D a=>
  cases D with
  |a_=>
   obtain⟨S,aN,e⟩:=g4.mp (e);obtain⟨b,az,e⟩:=g4.mp e;obtain⟨X,aN,aW⟩:=g4.mp aN;obtain⟨t,az,g⟩:=g4.mp az;split at e
   rotate_left
   ·cases e
   rename_i f
   cases e;obtain⟨N,aa,rfl,z,G⟩:=Y.au;obtain⟨c,d,rfl⟩:∃c d,a=[c,d]:=by
    obtain⟨c,n,rfl⟩:=j5 f;obtain⟨d,rfl⟩:=qg.mp (fD f);exact⟨c,d,rfl⟩
   cases aN;cases az;obtain⟨u,aa,rfl,h,r,aD,rfl,rw,rfl⟩:=G;exact⟨N,_,rfl,z,u,_,rfl,ME aW h,r,rfl,ME g rw⟩
  |_=>cases e
 |_=>cases e
theorem MF {F:aj}:∀{a:bf}{b:vX}{aa:a3},u4 a=E b->b2 J a aa F->fy AG F b aa
 |[],b,aa,e,Y=>by subst Y;cases e;exact .nil
 |y::a,b,aa,e,Y=>by
  obtain⟨V,aN,e⟩:=g4.mp (e);obtain⟨d,az,rfl⟩:=ik.mp e;obtain⟨v,c,rfl,S,G⟩:=Y;exact .cons (ZF aN S) (MF az G)
theorem MG:∀{s:vX}{c:a3}{F:aj},fy AG F s c->bF J (s.map pJ) c F (λ_=>k)
 |[],_,F,.nil=>⟨rfl,λ_=>rfl⟩|O::s,v::c,F,.cons G n=>by
  refine⟨v,c,λ_=>k,λ_=>k,rfl,gX _ λ_=>rfl,?_,MG n⟩
  obtain⟨N,aa,rfl,z,u,_,rfl,a,r,rfl,hw⟩:=G;refine⟨N,_,λ_=>k,λ_=>k,rfl,⟨z,λ_=>rfl⟩,gX _ λ_=>rfl,?_⟩
  refine⟨_,_,λ_=>k,λ_=>k,rfl,gX _ λ_=>rfl,?_,_,_,λ_=>k,λ_=>k,rfl,gX _ λ_=>rfl,?_,rfl,λ_=>rfl⟩<;>(exact⟨λ_=>rfl,by assumption⟩)
abbrev pR:Int×Int->Int×Int->Bool:=sF sE sE
def Fs (a:vX):Mo ai:=.dW (a.length<64) (.i (.au .aG ((kk pR a).map pJ)))
def Ft:bf->eA:=oK λy=>match y with
 |.au .aG a=>(match u4 a with |some b=>Fs b |none=>.aQ)|_=>.aQ
theorem ZG {a:vX}(V:cp J (Fs a) l F R (fs (gq J) R q)):cp J (.dW (a.length<64) (.i (kk pR a))) l F R (fs (wI AG) R q):=by
 obtain⟨Q,V⟩:=V.dW;rw[show Mo.dW _ _=.i _ from if_pos Q]
 rintro a4 aq X v Y b y A ⟨N,c,rfl,rfl,d⟩;exact V a4 aq X _ _ b y A (⟨N,c,_,λ_=>k,rfl,rfl,gX _ λ_=>rfl,MG d⟩)
theorem ZH:lW J (uK 64 J) l Ft:=qV λy v F R q a b V=>by
 split at V
 rotate_left
 ·exact V.elim
 obtain⟨N,aa,rfl,z,G⟩:=b.au;split at V
 rotate_left
 ·exact V.elim
 rename_i c e
 exact W8 (W3 Lo (W2 Lo qT)) (Ln qT qT) (by decide) c _ F R q a ⟨_,rfl,N,aa,rfl,z,MF e G⟩ (ZG V)
def Fu (J:cH):List aL->aj->bX->Prop:=λm R q=>zT J m R q\/match m with
 |[.a0 N]=>∃ba,dZ R N (.ey ba)/\ba.length<=cw/\∀s,R s=k->q (.a0 s) (b8 R s (.aG (ba.map λV=>h3 V.1)))|_=>False
theorem MH:∀(S:kY) (b:List (d9×aR)) (O:Nat) V a X,jr S b->S[O]?=E V->b[O]?=E (a,X)->V.1=a:=by
 intro S b O V a X c;induction c generalizing O with
 |nil=>intro e;simp at e
 |cons G n d=>
  intro aN az;cases O with
  |zero=>simp at aN az;subst aN;have:=G.1;rwa[az]at this|succ O=>exact d O (by simpa using aN) (by simpa using az)
theorem Fv:∀(a:kY) (aa:cu),a.length=aa.length->(∀(O:Nat) (V:d9×aL) (u:aR),a[O]?=E V->aa[O]?=E u->cc (h3 V.1) u)->b3 (a.map λV=>h3 V.1) aa
 |[],aa,b,_=>by cases aa with |nil=>exact .nil |cons _ _=>simp at b
 |V::a,aa,b,c=>by
  cases aa with
  |nil=>simp at b|cons u aa=>exact .cons (c 0 V u rfl rfl) (Fv a aa (by simpa using b) λO cL d aN az=>c (O+1) cL d (by simpa using aN) (by simpa using az))
theorem ZI {H:bQ}(b:H.fo=ae):iG H (.type "list") (Fu H.J):=by
 intro ag A o R m aa q a G Y;rcases Y with Y |Y
 ·exact KI b ag A o R m aa q a G Y
 ·split at Y
  ·obtain⟨ba,g,x,V⟩:=Y
   obtain⟨u,rfl,h⟩:=mg G;cases h;obtain⟨I,i,c,d,c_⟩:=pE a.cA g;obtain⟨y,j⟩:=c_.dictAt;have l  := d.dB;refine j_ (W.kdl_call (W.kdl_dict    i) (a.i.gi b) j (by simp_all) λaE z e Q n r f B=>?_)
   refine⟨.a0 _,_,a.gR (C:=.aG _)  n (cM _) ⟨by rwa[ct],e.toList,Q,?_,by simpa using r⟩,rfl,V _ (a.cA.fm (cM _))⟩
   have s:e.toList.length=ba.length:=by rw[l];exact f.1
   refine Fv ba _ s.symm λO V u aN az=>?_
   obtain⟨t,X,v,w⟩:=f.2 O u (by rwa[<- I7])
   rw[MH ba c O V t X d aN v];exact Lr w
  exact Y.elim
def MI:d9->ai
 |.inl O=>.d O|.inr A=>.f A.cps.toList
theorem MJ:∀(a:jq) (aa:a3) {R:aj},a.length=aa.length->b2 J (a.map MI) ((a.zip aa).map λV=>h3 V.1) R
 |[],aa,_,_=>rfl|D::a,[],_,b=>by cases b
 |D::a,u::aa,R,b=>by
  refine⟨_,_,rfl,?_,MJ a aa (by simpa using b)⟩
  cases D with
  |_=>rfl
def xf:bf->eA:=oK λy=>match y with
 |.au .aG m=>.i (.au .aG (m.map .bO))|.au .a_ m=>.i (.au .aG (m.map .bO))|.au .dD m=>.i (.au .aG (m.map .bO))|.au (.gy a) _=>.eS a.length (.i (.au .aG ((a.map MI).map .bO)))|_=>.aQ
theorem ZJ:lW J (Fu J) l xf:=qV λy v F R q a c V=>by
 split at V
 ·obtain⟨N,aa,rfl,z,G⟩:=c.au;exact .inl (.inl ⟨aa,.inl (.of (a _ _ z)),λs b=>mv V a b G⟩)
 ·obtain⟨N,aa,rfl,z,G⟩:=c.au;exact .inl (.inl ⟨aa,.inr (.of (a _ _ z)),λs b=>mv V a b G⟩)
 ·obtain⟨N,aa,rfl,z,G⟩:=c.au;exact .inl (.inl ⟨aa,.inl (a.seq z),λs b=>mv V a b G⟩)
 ·obtain⟨N,aa,rfl,z,G⟩:=c.au
  obtain⟨Q,V⟩:=V.eS;refine .inr ⟨_,uT a z.1,by rwa[qn,z.2.1,rO,<- z.2.1],λs b=>mv V a b (MJ _ _ z.2.1)⟩
 exact V.elim
def AH (J:cH):List aL->aj->bX->Prop:=λm R q=>match m with
 |[.a0 N]=>∃a:ef,(dG J R N (a.map .d)\/∃ba,dZ R N (.ey ba)/\(ba.map λV=>h3 V.1)=a.map .d)/\a.length<64/\∀b:ef,b.Perm a->b.Pairwise (·<=·)->∀s,R s=k->q (.a0 s) (b8 R s (.aG (b.map .d)))|_=>False
theorem Fw:∀{c:cu}{a:ef},IntsAre c a->b3 (a.map .d) c
 |_,_,.nil=>.nil|_,_,.cons _ _ Y=>.cons ⟨_,rfl⟩ (Fw Y)
theorem uf:∀{a:ef}{c:cu},b3 (a.map .d) c->IntsAre c a
 |[],_,G=>by cases G;exact .nil
 |z::a,_,G=>by cases G with |cons S G=>obtain⟨n,rfl⟩:=S;exact .cons z n (uf G)
theorem ZK {H:bQ}(J:H.fo=ae):iG H (.builtin "sorted") (AH H.J):=by
 intro ag A o R m aa q d G Y;unfold AH at Y;split at Y
 rotate_left
 ·exact Y.elim
 rename_i N
 obtain⟨t,g,aj,V⟩:=Y;obtain⟨u,rfl,K⟩:=mg G;cases K;rcases g with g |⟨ba,g,v⟩
 ·obtain⟨L,j,M,ak⟩:=d.dV g
  have P:=j.dB;rw[ct]at P;refine sorted_ints M.isList (uf j) (by lia) λf h l i n=>?_
  obtain⟨e,r⟩:=sortedAll_at A.heap L f;exact⟨.a0 (A.heap.objs.size+1),_,d.gR (C:=.aG (h.map .d)) (d:=A.toks) (λ_ _=>sortedAll_old) (oe _) ⟨by rw[ct,i.length_eq];exact lK (by lia),f.toList,e,Fw l,by simpa using r⟩,rfl,V h i n _ (d.cA.fm (oe _))⟩
 ·obtain⟨I,Q,c,w,c_⟩:=pE d.cA g
  obtain⟨S,T⟩:=c_.dictAt;have x:ba.length=c.length:=w.dB;have al:ba.length=t.length:=by have:=congrArg ma v;simpa using this
  refine Calls.call_function_entry kind_sorted plain_sorted entry_sorted (args_sorted1 _) ?_;unfold rE.«sorted»;refine bK (m:=checkCount "sorted" 1 1 _) (dx ?_);refine bK (j_ (W9 (W.kdl_dict (knd:=kG H.cb H.r) (kvs:=c) (ep:=S) Q) (d.i.gi J) T (by rw[<- x,sizeLine_eq];lia) λab y a z B D am=>?_))
  have U:a.toList.length=ba.length:=by rw[y1,x];exact D.1
  have j:b3 (t.map .d) a.toList:=by
   rw[<- v];refine Fv ba a.toList U.symm λO V u aN az=>?_
   obtain⟨Z,X,ac,af⟩:=D.2 O u (by rw[<- I7];exact az)
   rw[MH ba c O V Z X w aN ac];exact Lr af
  refine bK (wpAny_newList ?_ (by rw[sizeLine_eq];lia))
  have s:(ab.push (seqObj "list" a.toList.toArray 0)).get? ab.objs.size=E (seqObj "list" a.toList.toArray 0):=gf _ rfl;show bM _ _ _ _ _ {A with heap:=ab.push (seqObj "list" a.toList.toArray 0),toks:=y}
  refine bK (wpAny_holding (wpAny_call_entry slot_list_sort ⟨_,s,rfl⟩ entry_list_sort (list_sort_tree s (uf j) (by lia) λf h l i n=>⟨_,rfl,?_⟩) (args_list_sort _)))
  obtain⟨e,r⟩:=sortedHeap_at (out:=f) s;have ah:∀b C,A.heap.get? b=E C->(sortedHeap (ab.push (seqObj "list" a.toList.toArray 0)) ab.objs.size a.toList f).get? b=E C:=λb C I=>by
   have F:=eK (B b C I);rw[sortedHeap_old (gg F) (by rw[size_push'];exact vN F)]
   exact el _ (B b C I)
  exact dx ⟨_,rfl,.a0 ab.objs.size,_,d.gR (C:=.aG (h.map .d)) (d:=y) ah (vP z) ⟨by rw[ct,i.length_eq];exact lK (by lia),f.toList,e,Fw l,by simpa using r⟩,rfl,V h i n _ (d.cA.fm (vP z))⟩
def xg:bf->eA:=oK λy=>match y with
 |.au .aG a=>(match AF a with |some is=>q3 is |none=>.aQ)|.au (.gy b) _=>(match sY b with |some is=>q3 is |none=>.aQ)|_=>.aQ
theorem MK {F:aj}:∀{is:ef}{aa:a3},fy uA F is aa->aa=is.map .d
 |_,_,.nil=>rfl|_,_,.cons S G=>by cases S;rw[eR,<- MK G]
theorem ML:∀{a:jq}{is:ef}{aa:a3},sY a=E is->a.length=aa.length->((a.zip aa).map λV=>h3 V.1)=is.map .d
 |[],is,aa,Y,e=>by cases (Y);rfl
 |.inl O::a,is,[],Y,e=>by cases e
 |.inl O::a,is,u::aa,Y,e=>by
  unfold sY at Y;obtain⟨b,aE,rfl⟩:=ik.mp Y;rw[j7,eR,ML aE (by simpa using e)];rfl
 |.inr _::_,_,_,Y,_=>by cases Y
theorem MM {c a:ef}(N:a.Perm c)(A:a.Pairwise (·<=·)):a=kk sE c:=z6 qT N (A.imp λ{S b} Y=>by exact decide_eq_false (by lia))
theorem MN (s:ef):(s.map ai.d).map ai.bO=s.map ai.d:=by rw[gr];rfl
theorem ZL:lW J (AH J) l xg:=qV λy v F R q a f V=>by
 split at V
 ·obtain⟨N,aa,rfl,z,G⟩:=f.au
  split at V
  rotate_left
  ·exact V.elim
  rename_i is e
  obtain⟨Q,V⟩:=V.dW;refine⟨is,.inl ?_,Q,λg b c s d=>?_⟩
  ·rw[<- MK (MC e G)];exact .of (a _ _ z)
  ·rw[MM b c];exact mv (by rwa[MN]) a d (AD _)
 ·obtain⟨N,aa,rfl,z,G⟩:=f.au
  split at V
  rotate_left
  ·exact V.elim
  rename_i is e
  obtain⟨Q,V⟩:=V.dW;refine⟨is,.inr ⟨_,uT a z.1,ML e z.2.1⟩,Q,λg b c s d=>?_⟩
  rw[MM b c];exact mv (by rwa[MN]) a d (AD _)
 exact V.elim
end
section
variable {J:i5}{F:aj}
theorem MO {X:aL}:∀{y:ai},y.aH.f_=E X->bz J y X F
 |.aK y,e=>MO (y:=y) e|.a9,e=>by cases (e);rfl
 |.aM _,e=>by cases (e);rfl
 |.d _,e=>by cases (e);rfl
 |.f _,e=>by cases (e);rfl
 |.au _ _,e=>by cases e
 |.eM _,e=>by cases e
 |.eO,e=>by cases e
variable {l:b4}{R:aj}{y:ai}{q:bX}
def MP:bf->eA:=oK λy=>match y with |.aM b=>.i (.d (if b=ae then 1 else 0))|_=>.aQ
theorem ZM:lW J z1 l MP:=qV λy v F R q a b V=>by
 split at V
 ·cases b.aM;exact lU V a
 exact V.elim
def MQ (J:cH)(V:String×Bool):aR:=if V.2 then .ref (da J V.1)else .type V.1
def ZN (J:cH)(a:aV)(b:cu):Option Bool:=if(KD J a (.ref a)).isSome then W.kitAny J (.ref a) b else k
def ZO (J:cH)(a:tW)(c5:tW):Prop:=∀N∈c5,(match a with |[Q]=>KD J (da J N.1) (MQ J Q)|a=>ZN J (da J N.1) (a.map (MQ J)))=E N.2/\a.length<=1000
end
inductive nS where
 |mY (s h:Nat)|pS
def nS.n (J:cH):nS->bN->bN
 |.mY s h,n=>L0 ⟨#[s]⟩ ⟨#[h]⟩ n|.pS,n=>LZ n (uk (ur (gG (.d 1))))
def nS.w:nS->bo->eA
 |.mY s h,A=>.dW (A.length+(A.length+1)*1<=16777216) (.i (.f (Txt.replace ⟨A.toArray⟩ ⟨#[s]⟩ ⟨#[h]⟩).cps.toList))|.pS,A=>.eS A.length (.i (.f A.reverse))
section
variable {J:i5}{l:b4}{F R:aj}{x:aX}{n:bN}{G:eA}{y:ai}{v:aL}
theorem MR {ay:Type}{g:bo->Mo ay}{aJ:ay->aj->aj->Prop}(b:bz J y v F)(D:cp J ((m6 y).aC g) l F R aJ):∃A,v=eN A/\cp J (g A) l F R aJ:=by
 have a:=bz.aH b;unfold m6 at D;split at D
 ·rename_i s e;rw[e]at a;exact⟨s,a.f,D⟩
 exact D.elim
theorem ZP (C:nS)(Y:dr J n l x G):dr J (C.n J n) l x (G.aC λy=>(m6 y).aC C.w):=by
 intro o F R q d e V;cases C with
 |mY s h=>
  refine g_ Y o F R _ d e (V.aC.c8 λy bB ar x1 a v b=>?_)
  obtain⟨A,rfl,D⟩:=MR b a;obtain⟨Q,D⟩:=cp.dW (D);exact⟨_,rfl,Q,pN (cp.c8 D λS f g x5 c=>c.d1 x1.2.2.1) x1.2.1⟩
 |pS=>
  refine(g_ Y o F R _ d e (V.aC.c8 λy bB ar x1 a v b=>?_))
  obtain⟨A,rfl,D⟩:=MR b a;obtain⟨Q,D⟩:=cp.eS (D);exact⟨rfl,by simpa using Q,pN (cp.c8 D λS f g x5 c=>c.d1 x1.2.2.1) x1.2.1⟩
theorem ZQ {H:bQ}{pD:ew}{hs:Nat}{DJ:Pos}{S b:bI}{bE:fg}{N pos:Pos}(q:si H.a7 "zip")(r:gF H [S,b] bE)(t:iD H "zip")(v:ej [S,b] H.x=[(ax,eval S H.x),(ax,eval b H.x)])(g:ej [b] H.x=[(ax,eval b H.x)]):
  ou H (.Tuple pD hs DJ) (.Call (.Name "zip" N) [S,b] [] pos) (λo R bp=>bE o R λc ar=>match c with
   |[.a0 S,.f X]=>(∃m,dG H.J ar S m)/\bp (Ab H.J S X.cps.size (lJ X)) ar|_=>False):=by
 intro ag A o R bp h Y;refine Call_ (r5 h t q (u:=.type "zip") (by rfl) (vV (b9 (r pos ag A o R _ h Y) λaa bh w=>?_) (by rw[v,g]) (by rw[g];rfl)))
 obtain⟨c,ar,d,bC,f⟩:=w
 try dsimp only at f
 have a8:∀b∈[bh.heap.objs.size+4,bh.heap.objs.size+2,bh.heap.objs.size+3,bh.heap.objs.size,bh.heap.objs.size+1],bh.heap.objs.size<=b:=λb a=>by
  simp only[df,gD,or_false]at a;rcases a with rfl |rfl |rfl |rfl |rfl<;>first |exact Cp _ _ |exact cM _
 split at f
 ·rename_i s X
  obtain⟨⟨m,x⟩,V⟩:=f;obtain⟨I,J,rfl,G,y⟩:=zk bC;cases G;obtain⟨n,rfl⟩:=y;obtain⟨K,L,i,M⟩:=d.dV x;refine Xk i.isList λaE j z B ab af D=>?_
  refine wpAny_pyIter_zip (s:={bh with heap:=aE}) j ?_;have F:a6 H ag o ar {bh with heap:=aE}:=d.iB (a:=bh.toks) D;have l:s<bh.heap.objs.size:=by obtain⟨C,e,_⟩:=i.isList;exact eK e
  refine⟨bh.heap.objs.size+4,[bh.heap.objs.size+4,bh.heap.objs.size+2,bh.heap.objs.size+3,bh.heap.objs.size,bh.heap.objs.size+1],_,_,ar,rfl,F,Xl _ _ _ _ _ s X n (Xm l) (gg l),⟨j,z,⟨_,_,B⟩,ab,af⟩,λb a=>?_,V⟩
  exact d.r9 (a8 b a) (d.cA.fm (a8 b a))
 ·exact f.elim
end
structure ft where
 c9:cx
 my:List (Str×jm):=[]
 aW:cx:=[]
 fj:List (tW×tW):=[]
 iC:List (String×tW):=[]
structure ft.dR (ah:ft)(J:cH):Prop where
 c9:ah.c9≠[]
 my:∀V∈ah.my,Ak J (da J V.1) (V.2.map eN)
 fj:∀V∈ah.fj,ZO J V.1 V.2
 iC:∀V∈ah.iC,X1 J V.1 V.2
inductive hv where
 |cO |lb |lX |dU |ib |h6 |fi |hx |u5 |fK |ne |is |q4 |oM |AI |fj
inductive oN where
 |b6 |dV |min |f |all |u6 |d |sZ
inductive jV where
 |jd |split |find |index |u7 |q5
inductive hb where
 |dy |bC |bR |q6 |zip
set_option genInjectivity false in
inductive H where
 |v (O:Nat)|D (y:ai)|fu (X:Str) (y:ai)
 |hx (X:Str) (a:List (List Nat))
 |aT (C:hv) (S b:H)|mz (C bS:hv) (S b Q:H)
 |and (S b:H)|or (S b:H)|not (S:H)|cB (S:H)|mA (Q S b:H)
 |sl (S:H) (a8 aB:Option H)
 |a_ (aI:List H)|aG (aI:List H)
 |d2 (S:H) (w:Str)
 |b7 (w:b0) (X:Str) (aI:List H)
 |dK (C:oN) (aI:List H)
 |eF (C:jV) (S:H) (aI:List H)
 |eH (bW:List Str) (bL:List (Str×Nat)) (du:hb) (dQ:List H) (bV:iw) (Q:Option H) (e:H)
 |i9 (w:b0) (Q:Str) (aI:List H)
 |eo (c:List (Str×b0)) (S:H) (h:Str) (aI:List H)
 |oO (S:H)|oP (S b:H)
 |m8 (C:nS) (S:H)
 |ko (S:H) (z:String)|nT |oQ (C bS d:hv) (S b Q y:H)
abbrev kp:=Option H
abbrev iZ:=List H
def hv.G (J:cH):hv->d0
 |.cO=>Fp J |.lb=>DP |.lX=>Ei |.dU=>DQ |.ib=>Eg
 |.h6=>DR |.fi=>DS |.hx=>DT |.u5=>DU |.fK=>EF J |.ne=>EG J |.is=>DV |.q4=>DW
 |.oM=>xd J ax |.AI=>xd J ae |.fj=>Fg J
def hv.w:hv->ai->ai->eA
 |.cO=>hu |.lb=>EN |.lX=>nO |.dU=>An |.ib=>w6
 |.h6=>ES |.fi=>EO |.hx=>EP |.u5=>ER |.fK=>f3 ax |.ne=>f3 ae |.is=>m5 ax |.q4=>m5 ae
 |.oM=>m7 ax |.AI=>m7 ae |.fj=>dt
def oN.G (J:cH):oN->a3->aj->bX->Prop
 |.b6=>Fh J |.dV=>Fu J |.min=>zK Min.min |.f=>zQ |.all=>zR J |.u6=>AH J |.d=>z1 |.sZ=>uK 64 J
def oN.w:oN->bf->eA
 |.b6=>mx |.dV=>xf |.min=>E7 |.f=>E8 |.all=>u3 |.u6=>xg |.d=>MP |.sZ=>Ft
def jV.G (J:cH):jV->aL->a3->aj->bX->Prop
 |.jd=>zO J |.split=>Ae |.find=>zM |.index=>zN |.u7=>uS Txt.partition |.q5=>uS Txt.rpartition
def jV.w:jV->bo->bf->eA
 |.jd=>kn |.split=>nR |.find=>Mw |.index=>Mx |.u7=>Fn Txt.partition |.q5=>Fn Txt.rpartition
def hb.r (J:cH):hb->a3->L2.bU->aj->(i8->aj->Prop)->Prop
 |.dy=>Mj J|.bC=>λc _ ar bp=>match c with |[.d j] => -(2 ^ 62)<=j/\j<2 ^ 62/\bp (ov 0 j.toNat) ar |_=>False
 |.bR=>λc _ ar bp=>match c with |[.d O,.d j]=>(-(2 ^ 62)<=O/\O<2 ^ 62 /\ -(2 ^ 62)<=j/\j<2 ^ 62)/\bp (ov O (j-O).toNat) ar |_=>False
 |.q6=>λc _ ar bp=>∃S,c=[.a0 S]/\(∃m,dG J ar S m)/\bp (zA J S) ar|.zip=>λc _ ar bp=>match c with
  |[.a0 S,.f X]=>(∃m,dG J ar S m)/\bp (Ab J S X.cps.size (lJ X)) ar|_=>False
def hb.n (J:cH)(C:hb)(bE:fg):k0:=λo R bp=>bE o R λc ar=>C.r J c o ar bp
def hb.w:hb->bf->m2
 |.dy=>qZ |.bC=>sT |.bR=>Ax |.q6=>uZ |.zip=>q2
theorem MS {J:cH}{l:b4}(C:hb):sS J l (C.r J) C.w:=by
 cases C with
 |dy=>exact Y1|bC=>exact Y2|bR=>exact Y3|q6=>exact Y4|zip=>exact Zw
theorem ZR {J:cH}{l:b4}{x:aX}{bE:fg}{fS:m2}(C:hb)(Y:k9 J bE l x fS):uD J (C.n J bE) l (g9 J x) (fS.aC C.w) (fR J):=Y0 (MS C) Y
section
variable (J:i5)(ah:ft)
mutual
def H.b5:b4->H->bN
 |_,.v O=>oB O|_,.D y=>gG (y.f_.getD .a9)|_,.fu _ y=>gG (y.f_.getD .a9)|_,.hx X _=>gG (.a0 (da J X))|l,.aT C S b=>nE (C.G J) (S.b5 l) (b.b5 l)|l,.mz C bS S b Q=>wx (C.G J) (bS.G J) (S.b5 l) (b.b5 l) (Q.b5 l)|l,.and S b=>sg (S.b5 l) (b.b5 l)|l,.or S b=>qH (S.b5 l) (b.b5 l)|l,.not S=>uj (S.b5 l)|l,.cB S=>ur (S.b5 l)|l,.mA Q S b=>zG (k3 (Q.b5 l)) (S.b5 l) (b.b5 l)|l,.sl S a8 aB=>Dw (Fo J) (S.b5 l) (H.AJ l a8) (H.AJ l aB)|l,.a_ aI=>wg (H.d_ l aI)|l,.aG aI=>Dt (H.d_ l aI)|l,.d2 S w=>Aw J ah.c9 (S.b5 l) w|l,.b7 w _ aI=>qD (fJ J w) [] l (H.d_ l aI)|l,.dK C aI=>k1 (C.G J) (H.d_ l aI)|l,.eF C S aI=>pC J "str" (C.G J) (S.b5 l) (H.d_ l aI)|l,.eH bW bL du dQ bV Q e=>wm bW bL (du.n J (H.d_ l dQ)) (pP J bV) (H.xh jw Q) (e.b5 jw)|l,.i9 w Q aI=>ue (da J Q) (fJ J w) [] l (H.d_ l aI)|l,.eo a S h aI=>u2 J a h l (S.b5 l) (H.d_ l aI)|l,.oO S=>Ea J (S.b5 l) (uk (ur (gG (.d 1))))|l,.oP S b=>k1 (zT J) (gT (k1 zS (gT (S.b5 l) (gT (b.b5 l) hG))) hG)|l,.m8 C S=>C.n J (S.b5 l)|l,.ko S z=>k1 (AA J) (gT (S.b5 l) (gT (gG (.fW z)) hG))|_,.nT=>D9|l,.oQ C bS c S b Q y=>wD (C.G J) (bS.G J) (c.G J) (S.b5 l) (b.b5 l) (Q.b5 l) (y.b5 l)
def H.d_:b4->iZ->fg
 |_,[]=>hG|l,S::aI=>gT (S.b5 l) (H.d_ l aI)
def H.AJ:b4->kp->mV
 |_,k=>zr|l,E S=>uk (S.b5 l)
def H.xh:b4->kp->f7
 |_,k=>zE|l,E S=>k3 (S.b5 l)
end
end
def pT (C bS:hv)(X t:ai)(G:eA):Mo ai:=(C.w X t).aC λI=>(fz I).aC λb=>if b then G.aC λr=>bS.w t r else .i (.aM ax)
def AK (C bS a:hv)(X t:ai)(G A:eA):Mo ai:=(C.w X t).aC λI=>(fz I).aC λb=>if b then G.aC λr=>pT bS a t r A else .i (.aM ax)
section
variable (ah:ft)
mutual
def H.aZ:aX->H->eA
 |x,.v O=>e9 x O|_,.D y=>if y.f_.isSome then .i y else .aQ
 |_,.fu _ y=>if y.f_.isSome then .i y else .aQ
 |_,.hx X c=>if(X,c)∈ah.my then .i (.au .iu (c.map .f))else .aQ
 |x,.aT C S b=>(S.aZ x).aC λX=>(b.aZ x).aC λt=>C.w X t|x,.mz C bS S b Q=>(S.aZ x).aC λX=>(b.aZ x).aC λt=>pT C bS X t (Q.aZ x)|x,.and S b=>(S.aZ x).aC λX=>sN X (b.aZ x)|x,.or S b=>(S.aZ x).aC λX=>sO X (b.aZ x)|x,.not S=>(S.aZ x).aC λX=>(fz X).aC λb=>.i (.aM (!b))|x,.cB S=>(S.aZ x).aC w9|x,.mA Q S b=>((Q.aZ x).aC fz).aC λn=>if n then S.aZ x else b.aZ x
 |x,.sl S a8 aB=>(S.aZ x).aC λX=>(H.pU x a8).aC λs=>(H.pU x aB).aC λY=>la X s Y|x,.a_ aI=>(H.gJ x aI).aC λa=>.eS a.length (.i (.au .a_ a))|x,.aG aI=>(H.gJ x aI).aC λa=>.eS a.length (.i (.au .aG a))|x,.d2 S w=>(S.aZ x).aC (jC ah.c9 w)|x,.b7 w _ aI=>(H.gJ x aI).aC λa=>w.cj (a.map .bO)|x,.dK C aI=>(H.gJ x aI).aC C.w|x,.eF C S aI=>(S.aZ x).aC λy=>(m6 y).aC λs=>(H.gJ x aI).aC λQ=>C.w s Q|x,.eH bW bL du dQ bV Q e=>if bV.is.all (·<bW.length)then(((H.gJ x dQ).aC du.w).aC λs=>.e8 (hM bV s)).aC λm=>(k4 (λX=>mq (H.s6 (mw (km bW bL x) bV.is X) Q) (e.aZ (mw (km bW bL x) bV.is X))) m []).aC λaS=>.i (.au .aG aS)else .aQ
 |x,.i9 w Q aI=>(H.gJ x aI).aC (pQ w Q)|x,.eo d S h aI=>if d.isEmpty then .aQ else(S.aZ x).aC λy=>q0 d h y (H.gJ x aI)
 |x,.oO S=>(S.aZ x).aC sX|x,.oP S b=>(S.aZ x).aC λX=>(b.aZ x).aC λt=>AE X t|x,.m8 C S=>(S.aZ x).aC λy=>(m6 y).aC C.w|x,.ko S z=>(S.aZ x).aC (q1 z)|_,.nT=>.i (.au (.gy []) [])|x,.oQ C bS f S b Q y=>(S.aZ x).aC λX=>(b.aZ x).aC λt=>AK C bS f X t (Q.aZ x) (y.aZ x)
def H.gJ:aX->iZ->m2
 |_,[]=>.i []|x,S::aI=>(S.aZ x).aC λy=>(H.gJ x aI).aC λa=>.i (y::a)
def H.pU:aX->kp->Mo ea
 |_,k=>.i k|x,E S=>(S.aZ x).aC λy=>(lV y).aC λO=>.i (E O)
def H.s6:aX->kp->mZ
 |_,k=>.i ae|x,E S=>(S.aZ x).aC fz
end
end
section
variable {J:i5}{l:b4}{x:aX}{ah:ft}
theorem s7 (C:hv):ia J (C.G J) l C.w:=by
 cases C with
 |cO=>exact ZC|lb=>exact Yl|lX=>exact Ys|dU=>exact Ym|ib=>exact Yn|h6=>exact Yr|fi=>exact Yo|hx=>exact Yp|u5=>exact Yq|fK=>exact YD|ne=>exact YE|is=>exact YF|q4=>exact YG|fj=>exact Zf |_=>exact Zh
theorem ZS (C:oN):lW J (C.G J) l C.w:=by
 cases C with
 |b6=>exact Zi|dV=>exact ZJ|min=>exact YT|f=>exact YU|all=>exact Zu|u6=>exact ZL|d=>exact ZM|sZ=>exact ZH
theorem ZT (C:jV):qW J (C.G J) l C.w:=by
 cases C with
 |jd=>exact Zn|split=>exact Zo|find=>exact Zp|index=>exact Zq|_=>exact Zx
theorem Fx {ay:Type}{bl:iX ay}{h:Mo ay}{F R:aj}{q:bX}(V:cp J h l F R (λQ a4 aq=>∀v,bl.bL.bp Q v a4->q v aq)):cp J h l F R (fs bl R q):=by
 cases h with
 |aQ=>exact V|aW Q=>exact V|i S=>
  intro a4 aq X v aE a y A C;refine V _ aq ⟨X.1.b_ lP,λN C e=>?_,X.2.2.1,λN S b=>?_⟩ v (bl.h4 y C)
  ·unfold aH at e
   cases I:a4 N with
   |some r=>rw[I]at e;cases e;exact X.2.1 _ _ I|none=>rw[I]at e;exact A _ _ e
  ·unfold aH at b
   cases I:a4 N with
   |some r=>exact X.2.2.2 N S (by rw[I];exact fE _)|none=>rw[I]at b;exact a N b
theorem ZU {C bS:hv}{dP cv f:bN}{bC bR g:eA}(ab:dr J dP l x bC)(af:dr J cv l x bR)(br:dr J f l x g):dr J (wx (C.G J) (bS.G J) dP cv f) l x (bC.aC λX=>bR.aC λt=>pT C bS X t g):=by
 intro o F R q c m V;refine g_ ab o F R _ c m (V.aC.c8 λS bB ar x1 n s u=>?_)
 refine g_ af o bB ar _ (c.bJ x1.1) x1.2.1 (n.aC.c8 λb ao a5 x2 v h i=>?_)
 refine s7 C S b s h ao a5 _ x2.2.1 ((fR J).bJ x2.1 u) i (Fx (v.aC.c8 λI w y x3 a r hw=>?_))
 have j:=bz.aH hw;unfold fz at a;split at a
 ·rename_i Q e
  rw[e]at j;cases j.aM;refine⟨λI=>?_,λI=>?_⟩
  ·subst I
   exact g_ br o w y _ (c.bJ (x1.1.b_ (x2.1.b_ x3.1))) x3.2.1 (cp.c8 (cp.aC (a)) λr z A x4 B D G=>s7 bS b r h D z A q x4.2.1 ((fR J).bJ (x3.1.b_ x4.1) i) G (B.c8 λS K L x5 d=>d.d1 (x1.2.2.1.b_ (x2.2.2.1.b_ (x3.2.2.1.b_ x4.2.2.1)))))
  ·subst I
   exact jB (cp.c8 (a) λS K L x5 d=>d.d1 (x1.2.2.1.b_ (x2.2.2.1.b_ x3.2.2.1))) x3.2.1
 exact a.elim
theorem ZV {C bS c:hv}{dP cv v w:bN}{bC bR j f:eA}(ab:dr J dP l x bC)(af:dr J cv l x bR)(br:dr J v l x j)(M:dr J w l x f):dr J (wD (C.G J) (bS.G J) (c.G J) dP cv v w) l x (bC.aC λX=>bR.aC λt=>AK C bS c X t j f):=by
 intro o F R q g N V;refine g_ ab o F R _ g N (V.aC.c8 λS bB ar x1 O P T=>?_)
 refine g_ af o bB ar _ (g.bJ x1.1) x1.2.1 (O.aC.c8 λb ao a5 x2 U y z=>?_)
 refine s7 C S b P y ao a5 _ x2.2.1 ((fR J).bJ x2.1 T) z (Fx (U.aC.c8 λI m n x3 d r hw=>?_))
 have A:=bz.aH hw;unfold fz at d;split at d
 ·rename_i Q e
  rw[e]at A;cases A.aM;refine⟨λI=>?_,λI=>?_⟩
  ·subst I
   refine g_ br o m n _ (g.bJ (x1.1.b_ (x2.1.b_ x3.1))) x3.2.1 (cp.c8 (cp.aC (show cp J (j.aC λr=>pT bS c b r f) l m n _ from d)) λr B D x4 W G K=>?_)
   refine s7 bS b r y G B D _ x4.2.1 ((fR J).bJ (x3.1.b_ x4.1) z) K (Fx ((cp.aC (show cp J ((bS.w b r).aC _) l B D _ from W)).c8 λam h i x5 a an Y=>?_))
   have L:=bz.aH Y;unfold fz at a;split at a
   ·rename_i ap Z
    rw[Z]at L;cases L.aM;refine⟨λI=>?_,λI=>?_⟩
    ·subst I
     refine g_ M o h i _ (g.bJ (x1.1.b_ (x2.1.b_ (x3.1.b_ (x4.1.b_ x5.1))))) x5.2.1 (cp.c8 (cp.aC (show cp J (f.aC λs=>c.w r s) l h i _ from a)) λs aa ac x6 ag ah aj=>?_)
     exact s7 c r s G ah aa ac q x6.2.1 ((fR J).bJ (x5.1.b_ x6.1) K) aj (ag.c8 λS ak al x7 u=>u.d1 (x1.2.2.1.b_ (x2.2.2.1.b_ (x3.2.2.1.b_ (x4.2.2.1.b_ (x5.2.2.1.b_ x6.2.2.1))))))
    ·subst I
     exact jB (cp.c8 (show cp J (.i (ai.aM ax)) l h i (fs (gq J) R q)from a) λS ak al x7 u=>u.d1 (x1.2.2.1.b_ (x2.2.2.1.b_ (x3.2.2.1.b_ (x4.2.2.1.b_ x5.2.2.1))))) x5.2.1
   ·exact a.elim
  ·subst I
   exact jB (cp.c8 (show cp J (.i (ai.aM ax)) l m n (fs (gq J) R q)from d) λS h i x5 a=>a.d1 (x1.2.2.1.b_ (x2.2.2.1.b_ x3.2.2.1))) x3.2.1
 ·exact d.elim
theorem MT {y:ai}(O:Str):dr J (gG (y.f_.getD .a9)) l x (if y.f_.isSome then .i y else .aQ):=by
 cases e:y.f_ with
 |none=>exact λo F R q b a V=>V.elim|some v=>
  intro o F R q b a V;show q v R
  cases y with
  |a9=>cases e;exact Yj V a|aM=>cases e;exact jB V a|d=>cases e;exact lU V a|f=>cases e;exact pN V a|_=>cases e
theorem MU:∀a:jm,ai.lT (a.map .f)=ae
 |[]=>rfl|s::a=>by rw[eR];unfold ai.lT;rw[MU a];rfl
mutual
theorem H.dh (a:ah.dR J):∀(X:H) (l:b4) (x:aX),dr J (X.b5 J ah l) l x (X.aZ ah x)
 |.v O,l,x=>Yw O|.D y,l,x=>MT ""|.fu X y,l,x=>MT X|.hx X c,l,x=>by
  show dr J _ l x (if _ then _ else _)
  by_cases Y:(X,c)∈ah.my
  ·rw[if_pos Y]
   exact Yx (λF=>by unfold bz;exact⟨_,_,rfl,a.my _ Y,Fj c⟩) (by unfold ai.eT;exact MU c)
  ·rw[if_neg Y];exact λo F R q d f V=>V.elim
 |.aT C S b,l,x=>Yv (s7 C) (H.dh a S l x) (H.dh a b l x)|.mz C bS S b Q,l,x=>ZU (H.dh a S l x) (H.dh a b l x) (H.dh a Q l x)|.and S b,l,x=>Yz (H.dh a S l x) (H.dh a b l x)|.or S b,l,x=>YA (H.dh a S l x) (H.dh a b l x)|.not S,l,x=>Yy (H.dh a S l x)|.cB S,l,x=>YC (H.dh a S l x)|.mA Q S b,l,x=>YB (w8 (H.dh a Q l x)) (H.dh a S l x) (H.dh a b l x)|.sl S a8 aB,l,x=>Zz (H.dh a S l x) (H.MV a a8 l x) (H.MV a aB l x)|.a_ aI,l,x=>YM (H.ic a aI l x)|.aG aI,l,x=>YN (H.ic a aI l x)|.d2 S w,l,x=>YZ a.c9 (H.dh a S l x)|.b7 w X aI,l,x=>YY (H.ic a aI l x)|.dK C aI,l,x=>YO (ZS C) (H.ic a aI l x)|.eF C S aI,l,x=>YV (ZT C) (H.dh a S l x) (H.ic a aI l x)|.eH bW bL du dQ bV Q e,l,x=>by
  show dr J _ l x (if _ then _ else _)
  split
  ·rename_i Y
   exact Y_ (ZR du (H.ic a dQ l x)) (λO aB=>by simpa using mM.mp Y O aB) (λS=>H.ZW a Q jw _) (λS=>H.dh a e jw _)
  ·exact λo F R q d f V=>V.elim
 |.i9 w Q aI,l,x=>Zk (H.ic a aI l x)|.eo g S h aI,l,x=>by
  show dr J _ l x (if _ then _ else _)
  split
  ·exact λo F R q d f V=>V.elim
  ·rename_i Y;exact Zl (λe=>Y (by rw[e];rfl)) (H.dh a S l x) (H.ic a aI l x)
 |.oO S,l,x=>ZD (H.dh a S l x)|.oP S b,l,x=>ZE (H.dh a S l x) (H.dh a b l x)|.m8 C S,l,x=>ZP C (H.dh a S l x)|.ko S z,l,x=>Zt z (H.dh a S l x)|.nT,l,x=>Zv|.oQ C bS i S b Q y,l,x=>ZV (H.dh a S l x) (H.dh a b l x) (H.dh a Q l x) (H.dh a y l x)
theorem H.ic (a:ah.dR J):∀(aI:iZ) (l:b4) (x:aX),k9 J (H.d_ J ah l aI) l x (H.gJ ah x aI)
 |[],l,x=>YK|S::aI,l,x=>YL (H.dh a S l x) (H.ic a aI l x)
theorem H.MV (a:ah.dR J):∀(S:kp) (l:b4) (x:aX),wK J (H.AJ J ah l S) l (g9 J x) (H.pU ah x S)
 |none,l,x=>Wj|some S,l,x=>YI (H.dh a S l x)
theorem H.ZW (a:ah.dR J):∀(S:kp) (l:b4) (x:aX),mn J (H.xh J ah l S) l (g9 J x) (H.s6 ah x S)
 |none,l,x=>WA|some S,l,x=>w8 (H.dh a S l x)
end
end
mutual
def H.eg:H->bo
 |.v O=>[O]|.D _=>[]|.fu _ _=>[]|.hx _ _=>[]|.aT _ S b=>S.eg++b.eg|.mz _ _ S b Q=>S.eg++b.eg++Q.eg|.and S b=>S.eg++b.eg|.or S b=>S.eg++b.eg|.not S=>S.eg|.cB S=>S.eg|.mA Q S b=>Q.eg++S.eg++b.eg|.sl S a8 aB=>S.eg++H.AL a8++H.AL aB|.a_ aI=>H.oR aI|.aG aI=>H.oR aI|.d2 S _=>S.eg|.b7 _ _ aI=>H.oR aI|.dK _ aI=>H.oR aI|.eF _ S aI=>S.eg++H.oR aI|.eH _ bL _ dQ _ _ _=>H.oR dQ++bL.map (·.2)|.i9 _ _ aI=>H.oR aI|.eo _ S _ aI=>S.eg++H.oR aI|.oO S=>S.eg|.oP S b=>S.eg++b.eg|.m8 _ S=>S.eg|.ko S _=>S.eg|.nT=>[]|.oQ _ _ _ S b Q y=>(S.eg++b.eg)++(Q.eg++y.eg)
def H.oR:iZ->bo
 |[]=>[]|S::aI=>S.eg++H.oR aI
def H.AL:kp->bo
 |none=>[]|some S=>S.eg
end
def m9 (is:bo)(e a:aX):Prop:=∀O∈is,e9 e O=e9 a O
theorem m9.s {is cK:bo}{e a:aX}(Y:m9 (is++cK) e a):m9 is e a:=λO aB=>Y O (yw _ aB)
theorem m9.G {is cK:bo}{e a:aX}(Y:m9 (is++cK) e a):m9 cK e a:=λO aB=>Y O (j6 _ aB)
section
variable {ah:ft}
theorem ZX {bW:cx}{bL:jn}{e a:aX}(Y:m9 (bL.map (·.2)) e a)(j:Nat):e9 (km bW bL e) j=e9 (km bW bL a) j:=by
 unfold km;by_cases c:j<bW.length
 ·unfold e9
  rw[tM (by rwa[ct]),tM (by rwa[ct])]
 ·have b:∀e:aX,e9 (bW.map (λ_=>k)++bL.map λV=>(e[V.2]?).join) j=match bL[j-bW.length]? with |some V=>e9 e _ |none=>.aQ:=λe=>by
   unfold e9;rw[pe (by rw[ct];exact(IH c)),ct,gC]
   cases bL[j-bW.length]? with
   |none=>rfl|some V=>
    rw[IP];dsimp only;cases e[V.2]? with  |_=>rfl
  rw[b,b];cases I:bL[j-bW.length]? with
  |none=>rfl|some V=>exact Y _ (e3.mpr ⟨V,qh I,rfl⟩)
theorem ZY {e a:aX}{O:Nat}{C:jA}(c:e.length=a.length)(Y:∀j,e9 e j=e9 a j)(j:Nat):e9 (e.set O C) j=e9 (a.set O C) j:=by
 by_cases b:O=j
 ·subst b
  unfold e9;rw[yr,yr,if_pos rfl,if_pos rfl,c]
 ·have:=Y j
  unfold e9 at this ⊢;rwa[jO b,jO b]
theorem MW:∀{is:bo}{a:bf}{e b:aX},e.length=b.length->(∀j,e9 e j=e9 b j)->∀j,e9 (mw e is a) j=e9 (mw b is a) j
 |[],_,_,_,_,Y=>Y|_::_,[],_,_,_,Y=>Y|O::is,y::a,e,b,hl,Y=>λj=>MW     (by simp_all) (ZY hl Y) j
theorem ZZ {bW:cx}{bL:jn}{e a:aX}:(km bW bL e).length=(km bW bL a).length:=by unfold km;simp
mutual
theorem H.gb:∀(X:H) {e c:aX},m9 X.eg e c->X.aZ ah e=X.aZ ah c
 |.v O,e,c,Y=>Y O (List.mem_singleton_self _)|.D y,e,c,Y=>rfl|.fu X y,e,c,Y=>rfl|.hx X d,e,c,Y=>rfl|.aT C S b,e,c,Y=>by show Mo.aC _ _=Mo.aC _ _;rw[H.gb S Y.s,H.gb b Y.G]
 |.mz C bS S b Q,e,c,Y=>by show Mo.aC _ _=Mo.aC _ _;rw[H.gb S Y.s.s,H.gb b Y.s.G,H.gb Q Y.G]
 |.and S b,e,c,Y=>by show Mo.aC _ _=Mo.aC _ _;rw[H.gb S Y.s,H.gb b Y.G]
 |.or S b,e,c,Y=>by show Mo.aC _ _=Mo.aC _ _;rw[H.gb S Y.s,H.gb b Y.G]
 |.not S,e,c,Y=>by show Mo.aC _ _=Mo.aC _ _;rw[H.gb S Y]
 |.cB S,e,c,Y=>by show Mo.aC _ _=Mo.aC _ _;rw[H.gb S Y]
 |.mA Q S b,e,c,Y=>by show Mo.aC _ _=Mo.aC _ _;rw[H.gb Q Y.s.s,H.gb S Y.s.G,H.gb b Y.G]
 |.sl S a8 aB,e,c,Y=>by show Mo.aC _ _=Mo.aC _ _;rw[H.gb S Y.s.s,H.MX a8 Y.s.G,H.MX aB Y.G]
 |.a_ aI,e,c,Y=>by show Mo.aC _ _=Mo.aC _ _;rw[H.pV aI Y]
 |.aG aI,e,c,Y=>by show Mo.aC _ _=Mo.aC _ _;rw[H.pV aI Y]
 |.d2 S w,e,c,Y=>by show Mo.aC _ _=Mo.aC _ _;rw[H.gb S Y]
 |.b7 w X aI,e,c,Y=>by show Mo.aC _ _=Mo.aC _ _;rw[H.pV aI Y]
 |.dK C aI,e,c,Y=>by show Mo.aC _ _=Mo.aC _ _;rw[H.pV aI Y]
 |.eF C S aI,e,c,Y=>by show Mo.aC _ _=Mo.aC _ _;rw[H.gb S Y.s,H.pV aI Y.G]
 |.eH bW bL du dQ bV Q X,e,c,Y=>by
  show(if _ then Mo.aC _ _ else _)=(if _ then Mo.aC _ _ else _)
  rw[H.pV dQ Y.s];have g:∀a j,e9 (mw (km bW bL e) bV.is a) j=e9 (mw (km bW bL c) bV.is a) j:=λa=>MW ZZ (ZX Y.G)
  have f  := λa=>H.Z0 Q λO _=>g a O
  have i  := λa=>H.gb X λO _=>g a O
  simp_all
 |.i9 w Q aI,e,c,Y=>by show Mo.aC _ _=Mo.aC _ _;rw[H.pV aI Y]
 |.eo l S h aI,e,c,Y=>by show(if _ then _ else Mo.aC _ _)=(if _ then _ else Mo.aC _ _);rw[H.gb S Y.s,H.pV aI Y.G]
 |.oO S,e,c,Y=>by show Mo.aC _ _=Mo.aC _ _;rw[H.gb S Y]
 |.oP S b,e,c,Y=>by show Mo.aC _ _=Mo.aC _ _;rw[H.gb S Y.s,H.gb b Y.G]
 |.m8 C S,e,c,Y=>by show Mo.aC _ _=Mo.aC _ _;rw[H.gb S Y]
 |.ko S z,e,c,Y=>by show Mo.aC _ _=Mo.aC _ _;rw[H.gb S Y]
 |.nT,e,c,Y=>rfl|.oQ C bS m S b Q y,e,c,Y=>by show Mo.aC _ _=Mo.aC _ _;rw[H.gb S Y.s.s,H.gb b Y.s.G,H.gb Q Y.G.s,H.gb y Y.G.G]
theorem H.pV:∀(aI:iZ) {e a:aX},m9 (H.oR aI) e a->H.gJ ah e aI=H.gJ ah a aI
 |[],e,a,Y=>rfl|S::aI,e,a,Y=>by show Mo.aC _ _=Mo.aC _ _;rw[H.gb S Y.s,H.pV aI Y.G]
theorem H.MX:∀(S:kp) {e a:aX},m9 (H.AL S) e a->H.pU ah e S=H.pU ah a S
 |none,e,a,Y=>rfl|some S,e,a,Y=>by show Mo.aC _ _=Mo.aC _ _;rw[H.gb S Y]
theorem H.Z0:∀(S:kp) {e a:aX},m9 (H.AL S) e a->H.s6 ah e S=H.s6 ah a S
 |none,e,a,Y=>rfl|some S,e,a,Y=>by show Mo.aC _ _=Mo.aC _ _;rw[H.gb S Y]
end
end
mutual
noncomputable def ai.eU:ai->Bool
 |.au .a_ a=>ai.lg a|.au .iu a=>ai.lg a|.au _ _=>ax|_=>ae
noncomputable def ai.lg:bf->Bool
 |[]=>ae|y::a=>y.eU && ai.lg a
end
section
variable {J:i5}{l:b4}{F a4 bA bB ao bk Y ab af br D R aq ar a5:aj}{y:ai}{a:bf}{v:aL}{aa c:a3}{N:aV}{q:bX}{x:aX}{n:bN}{aD:iv}{o:L2.bU}{ah:ft}
theorem bx.eU:∀{y:ai}{v:aL}{Y:aj},y.eU=ae->bx J y v F Y->(∀N,Y N=k)/\bz J y v F
 |.au .a_ a,_,Y,I,V=>by
  unfold ai.eU at I;unfold bx at V;obtain⟨N,aa,b,af,e,Q,j,G⟩:=V;obtain⟨z,G⟩:=eC I G;refine⟨λN=>?_,by unfold bz;exact⟨N,aa,e,Q.1,G⟩⟩
  rcases j N with⟨_,t⟩|⟨_,t⟩
  ·rw[t,z]
  ·rw[t,Q.2]
 |.au .iu a,_,Y,I,V=>by
  unfold ai.eU at I;unfold bx at V;obtain⟨N,aa,b,af,e,Q,j,G⟩:=V;obtain⟨z,G⟩:=eC I G;refine⟨λN=>?_,by unfold bz;exact⟨N,aa,e,Q.1,G⟩⟩
  rcases j N with⟨_,t⟩|⟨_,t⟩
  ·rw[t,z]
  ·rw[t,Q.2]
 |.au .aG _,_,_,I,_=>by simp[ai.eU]at I
 |.au .dD _,_,_,I,_=>by simp[ai.eU]at I
 |.au (.gy _) _,_,_,I,_=>by simp[ai.eU]at I
 |.au (.dI _ _) _,_,_,I,_=>by simp[ai.eU]at I
 |.a9,_,_,_,V=>by unfold bx at V;exact V
 |.aM _,_,_,_,V=>by unfold bx at V;exact V
 |.d _,_,_,_,V=>by unfold bx at V;exact V
 |.f _,_,_,_,V=>by unfold bx at V;exact V
 |.aK _,_,_,_,V=>by unfold bx at V;exact V
 |.eM _,_,_,_,V=>by unfold bx at V;exact V
 |.eO,_,_,_,V=>by unfold bx at V;exact V
where eC:∀{a:bf}{aa:a3}{Y:aj},ai.lg a=ae->bF J a aa F Y->(∀N,Y N=k)/\b2 J a aa F
 |[],_,_,_,V=>by unfold bF at V;exact⟨V.2,by unfold b2;exact V.1⟩
 |y::a,_,Y,I,V=>by
  unfold ai.lg at I;obtain⟨d,f⟩:=kW.mp I;unfold bF at V;obtain⟨v,c,ab,af,e,j,S,G⟩:=V;obtain⟨ez,S⟩:=bx.eU d S;obtain⟨dC,G⟩:=eC f G;refine⟨λN=>?_,by unfold b2;exact⟨v,c,e,S,G⟩⟩
  rcases j N with⟨_,t⟩|⟨_,t⟩
  ·rw[t,dC]
  ·rw[t,ez]
theorem Fy:∀{y:ai},y.eT=ae->y.eU=ae
 |.au .a_ a,I=>eC I|.au .iu a,I=>eC I|.au .aG _,I=>by trivial
 |.au .dD _,I=>by trivial
 |.au (.gy _) _,I=>by trivial
 |.au (.dI _ _) _,I=>by trivial
 |.a9,_=>rfl|.aM _,_=>rfl|.d _,_=>rfl|.f _,_=>rfl|.aK _,_=>rfl|.eM _,_=>rfl|.eO,_=>rfl
where eC:∀{a:bf},ai.lT a=ae->ai.lg a=ae
 |[],_=>rfl|y::a,I=>by
  obtain⟨b,c⟩:=kW.mp I;unfold ai.lg;rw[Fy b,eC c];rfl
theorem Z1 (y:ai):y.bO.eU=ae:=by
 unfold ai.bO;split
 ·exact Fy (by assumption)
 split<;>rfl
theorem MY (y:ai):y.bO.bO=y.bO:=by
 unfold ai.bO;by_cases Y:y.eT=ae
 ·rw[if_pos Y,if_pos Y]
 ·rw[if_neg Y]
  lia
theorem u9 (c:dm bA bk bB Y ar)(j:cG D af Y)(d:dm bB (f9 ar af) ao br a5):bu bB ao/\cS D br/\dm bA bk ao (aH D br) a5:=by
 obtain⟨X,y,A,bL,f⟩:=c;obtain⟨x2,g,bj,h,i⟩:=d;have l:∀N,D N≠k->(f9 ar af) N≠k:=λN I=>by
  cases t:D N with
  |none=>exact absurd t I|some C=>
   have dC:af N=k:=by
    rcases j.fQ N with r |r
    ·rw[r]at t;cases t
    ·exact r
   rw[uE dC,A _ _ (j.s _ _ t)];exact fE _
 have n:cS D br:=λN=>by grind
 have a:bu bk (f9 ar af):=λN C e=>by
  have dC:af N=k:=by
   cases r:af N with
   |none=>rfl|some bS=>have:=bL N (by rw[j.G _ _ r];exact fE _);rw[this]at e;cases e
  rw[uE dC];exact X.2.2.1 _ _ e
 refine⟨x2.1,n,⟨X.1.b_ x2.1,x2.2.1,a.b_ x2.2.2.1,λN S b=>?_⟩,λN=>?_,λN C e=>?_,λN I=>?_,λN m e=>?_⟩
 ·cases t:bB N with
  |some C=>exact X.2.2.2 N S (by rw[t];exact fE _)|none=>exact a.ck (x2.2.2.2 N t b)
 ·unfold aH
  cases t:D N with
  |none=>exact g N|some C=>
   left;cases r:ao N with
   |none=>rfl|some bS=>
    have ez:bB N=k:=by
     rcases y N with I |I
     ·exact I
     ·rw[j.s _ _ t]at I;cases I
    exact absurd (x2.2.2.2 N ez (by rw[r];exact fE _)) (l N (by rw[t];exact fE _))
 ·unfold aH at e
  cases t:D N with
  |none=>rw[t]at e;exact bj _ _ e|some bS=>
   rw[t]at e;cases e;refine x2.2.2.1 _ _ ?_;have dC:af N=k:=by
    rcases j.fQ N with r |r
    ·rw[r]at t;cases t
    ·exact r
   rw[uE dC];exact A _ _ (j.s _ _ t)
 ·unfold aH at I
  cases t:D N with
  |none=>rw[t]at I;exact a.ck (h N I)|some C=>exact bL N (by rw[j.s _ _ t];exact fE _)
 ·unfold aH at e
  cases t:D N with
  |none=>rw[t]at e;exact i N m e|some C=>rw[t]at e;cases e;exact f N m (j.s _ _ t)
theorem MZ (a:dm bA bk bB Y ar)(j:cG D af Y):dm bB (f9 ar af) bB af ar:=
 uP a.1.2.1 (Ac a.2.1 j) (j.G.b_ a.2.2.1) λN m e=>a.2.2.2.2 N m (j.G _ _ e)
theorem Fz {Q:mm}(a:dm bA bk bB Y ar)(j:cG D af Y)(n:kg J l Q bk ao a5):kg J l Q (f9 ar af) ao a5:=by
 refine n.iH λN C e=>?_
 have dC:af N=k:=by
  cases r:af N with
  |none=>rfl|some bS=>have:=a.2.2.2.1 N (by rw[j.G _ _ r];exact fE _);simp_all
 rw[uE dC];exact a.1.2.2.1 _ _ e
def m_ (x:aX)(O:Nat):aX:=match x[O]? with |some (E y)=>x.set O (E y.bO)|_=>x
def pW (x:aX)(is:bo):aX:=is.foldl m_ x
theorem Z2 {O:Nat}(f:cY (eE J aD x) o F Y)(g:dm bA bk F Y R):∃a4 aE,cY (eE J aD (m_ x O)) o a4 aE/\dm bA bk a4 aE R:=by
 unfold m_;split
 ·rename_i y aB
  obtain⟨C,c,d,aN,j,n,w⟩:=cY.uX f (uY aB);obtain⟨v,rfl,q,s⟩:=xa n;obtain⟨a,h,i,l,u⟩:=g;refine⟨aH F c,d,?_,⟨a.1.b_ lP,λN C e=>?_,a.2.2.1,λN S b=>?_⟩,λN=>?_,j.G.b_ i,λN I=>?_,λN m e=>u N m (j.G _ _ e)⟩
  ·have:=w (nQ J (aD O) (E y.bO)) (E v) (aH F c) (λ_=>k) d lP (Au q (bx.bO (λ_=>rfl) (bx.w4 lP (qM (wR h j)) s))) λN=>.inl ⟨rfl,rfl⟩
   rw[As,Ar aN]at this;exact this
  ·unfold aH at e
   cases I:F N with
   |some r=>rw[I]at e;cases e;exact a.2.1 _ _ I|none=>rw[I]at e;exact i _ _ (j.s _ _ e)
  ·unfold aH at b
   cases I:F N with
   |some r=>exact a.2.2.2 N S (by rw[I];exact fE _)|none=>
    rw[I]at b;cases t:c N with
    |none=>exact absurd t b|some r=>exact l N (by rw[j.s _ _ t];exact fE _)
  ·unfold aH
   cases I:F N with
   |some r=>
    rcases Ac h j N with t |t
    ·rw[t]at I;cases I
    ·exact .inr t
   |none=>exact j.fQ N
  ·cases t:d N with
   |none=>exact absurd t I|some r=>exact l N (by rw[j.G _ _ t];exact fE _)
 ·exact⟨F,Y,f,g⟩
theorem M0:∀(is:bo) {x:aX}{F Y:aj},cY (eE J aD x) o F Y->dm bA bk F Y R->∃a4 aE,cY (eE J aD (pW x is)) o a4 aE/\dm bA bk a4 aE R
 |[],x,F,Y,a,c=>⟨F,Y,a,c⟩|O::is,x,F,Y,a,c=>by
  obtain⟨bB,ab,S,b⟩:=Z2  a c;exact M0 is S b
theorem Z3 (x:aX)(O j:Nat):e9 (m_ x O) j=e9 x j:=by
 unfold m_;split
 ·rename_i y aB
  unfold e9;by_cases e:O=j
  ·subst e;rw[tN (hF.mp aB).1,aB];dsimp only;rw[MY]
  rw[jO e]
 rfl
theorem M1:∀(is:bo) (x:aX) (j:Nat),e9 (pW x is) j=e9 x j
 |[],_,_=>rfl|O::is,x,j=>(M1 is _ j).trans (Z3 x O j)
def u_ (x:aX):aX:=x.map λC=>C.bind λy=>if y.eU then E y else k
def xi (x:aX)(O:Nat):Prop:=∀y,x[O]?=E (E y)->y.eU=ae
theorem M3 {x:aX}{O j:Nat}(Y:O=j\/xi x j):xi (m_ x O) j:=by
 unfold m_;split
 ·rename_i y aB
  intro dO e;by_cases I:O=j
  ·subst I;rw[tN (hF.mp aB).1]at e;cases e;exact Z1 y
  ·rw[jO I]at e
   rcases Y with Y |Y
   ·exact absurd Y I
   exact Y dO e
 ·rename_i aB
  rcases Y with Y |Y
  ·subst Y;exact λy e=>absurd e (aB y)
  exact Y
theorem M4:∀(is:bo) {x:aX}{j:Nat},(j∈is\/xi x j)->xi (pW x is) j
 |[],x,j,Y=>by rcases Y with Y |Y;exact absurd Y (by simp);exact Y
 |O::is,x,j,Y=>M4 is (by
  rcases Y with Y |Y
  ·rcases df.mp Y with Y |Y
   ·exact .inr (M3 (.inl Y.symm))
   exact .inl Y
  exact .inr (M3 (.inr Y)))
theorem Z4 {O:Nat}(Y:xi x O):e9 (u_ x) O=e9 x O:=by
 unfold e9 u_;rw[gC];cases I:x[O]? with
 |none=>rfl|some C=>
  cases C with
  |none=>rfl|some y=>
   have:=Y y I;simp[this]
theorem Z5 (a:cY (eE J aD x) o F Y):gW (g9 J (u_ x)) o F:=by
 intro O A e;unfold u_ at e;rw[gC,gC]at e;cases I:x[O]? with
 |none=>simp_all|some C=>
  rw[I]at e;cases e;cases C with
  |none=>trivial|some y=>
   by_cases Q:y.eU=ae
   ·simp only[Option.bind,Q,if_true]
    obtain⟨C,d,f,aN,j,b,w⟩:=cY.uX a (uY I);obtain⟨v,rfl,g,c⟩:=xa b;rw[aN];exact⟨v,rfl,(bx.eU Q c).2⟩
   ·simp only[Option.bind,Q]
    trivial
def s8 (J:cH)(G:bY aX ai)(l:b4)(aD:iv)(o:L2.bU)(bA bk:aj)(q:bX):Prop:=match G with
 |.i y x=>∀v F a af Y R,cY (eE J aD x) o F af->bx J y v F a->cG a af Y->dm bA bk F Y R->q v R|.aW Q x=>∀F Y R,cY (eE J aD x) o F Y->dm bA bk F Y R->kg J l Q bk F R|.aQ=>False
def hy (J:cH)(n:bN)(l:b4)(aD:iv)(x:aX)(G:bY aX ai):Prop:=
 ∀bA bk o F Y R (q:bX),cY (eE J aD x) o F Y->dm bA bk F Y R->s8 J G l aD o bA bk q->n o R q
def FA (J:cH)(G:bY aX ai)(l:b4)(aD:iv)(o:L2.bU)(bA bk b:aj)(q:bX):Prop:=match G with
 |.i y x=>∀v F a af Y R,cY (eE J aD x) o F af->bx J y v F a->cG a af Y->dm bA bk F Y R->bu b R->q v R|.aW Q x=>∀F Y R,cY (eE J aD x) o F Y->dm bA bk F Y R->kg J l Q bk F R|.aQ=>False
def xj (J:cH)(n:bN)(l:b4)(aD:iv)(x:aX)(G:bY aX ai):Prop:=
 ∀bA bk o F Y R (q:bX),cY (eE J aD x) o F Y->dm bA bk F Y R->FA J G l aD o bA bk R q->n o R q
theorem xj.e {G:bY aX ai}(Y:xj J n l aD x G):hy J n l aD x G:=λbA bk o F c R q d ok a=>Y bA bk o F c R q d ok (by
 cases G with
 |i y e=>exact λv F f af Y aq S b Q y _=>a v F f af Y aq S b Q y |_=>exact a)
def lY (ah:ft)(x:aX)(X:H):bY aX ai:=match X.aZ ah x with
 |.i y=>if y.ed then .i y x else .i y (pW x X.eg)
 |.aW Q=>.aW Q x|.aQ=>.aQ
theorem M5 (h:ah.dR J)(X:H):xj J (X.b5 J ah l) l aD x (lY ah x X):=by
 intro bA bk o F Y R q f ok b;unfold lY at b;cases e:X.aZ ah x with
 |aQ=>rw[e]at b;exact b.elim|aW Q=>
  rw[e]at b;refine H.dh h X l x o (aH F Y) R _ (qY (f.qN ok.2.1)) ok.qQ ?_;rw[e];exact λa4 aq t=>(b _ _ _ (f.bJ (ok.d1 t).2.1) (ok.d1 t).1).d1 ok t
 |i y=>
  rw[e]at b;have b:FA J (if y.ed then .i y x else .i y (pW x X.eg)) l aD o bA bk R q:=b
  by_cases j:y.ed=ae
  ·rw[if_pos j]at b
   refine H.dh h X l x o (aH F Y) R _ (qY (f.qN ok.2.1)) ok.qQ ?_;rw[e];intro a4 aq t v a g n s C;obtain⟨c,A,B⟩:=ok.d1 t;have D:cS (f9 a4 Y) a:=λN=>by
    unfold f9;cases I:Y N with
    |none=>exact n N|some r=>exact .inl rfl
   have u:cS a Y:=Ef ok.2.2.1 g;refine b v (f9 a4 Y) a Y (aH a Y) aq (f.bJ A) (bx.L4 B j C) (fH u) ⟨c.1,λN=>?_,λN C e=>?_,λN I=>?_,λN m I=>?_⟩ t.2.2.1
   ·unfold aH
    cases I:a N with
    |some r=>
     rcases D N with t |t
     ·exact .inl t
     ·rw[t]at I;cases I
    |none=>exact c.2.1 N
   ·unfold aH at e
    cases I:a N with
    |some r=>rw[I]at e;cases e;exact s _ _ I|none=>rw[I]at e;exact c.2.2.1 _ _ e
   ·unfold aH at I
    cases t:a N with
    |some r=>exact ok.1.2.2.1.ck (g N (by rw[t];exact fE _))|none=>rw[t]at I;exact ok.2.2.2.1 N I
   ·unfold aH at I
    cases t:a N with
    |some r=>rw[t]at I;cases I;exact bx.lO C N m t|none=>rw[t]at I;exact ok.2.2.2.2 N m I
  ·rw[if_neg j]at b
   obtain⟨bB,w,z,d⟩:=M0 X.eg f ok;have G:m9 X.eg (u_ (pW x X.eg)) x:=λO aB=>(Z4 (M4 X.eg (.inl aB))).trans (M1 _ _ _)
   refine H.dh h X l (u_ (pW x X.eg)) o bB R _ (Z5 z) d.1.2.1 ?_;rw[H.gb X G,e];intro a4 aq t v a g n s C;have c:=d.eU t;have u:cS a w:=Ef d.2.2.1 g;refine b v a4 a w (aH a w) aq (z.bJ t.1) C (fH u) ⟨c.1,λN=>?_,λN C e=>?_,λN I=>?_,λN m I=>?_⟩ t.2.2.1
   ·unfold aH
    cases I:a N with
    |some r=>
     rcases n N with t |t
     ·exact .inl t
     ·rw[t]at I;cases I
    |none=>exact c.2.1 N
   ·unfold aH at e
    cases I:a N with
    |some r=>rw[I]at e;cases e;exact s _ _ I|none=>rw[I]at e;exact c.2.2.1 _ _ e
   ·unfold aH at I
    cases t:a N with
    |some r=>exact d.1.2.2.1.ck (g N (by rw[t];exact fE _))|none=>rw[t]at I;exact d.2.2.2.1 N I
   ·unfold aH at I
    cases t:a N with
    |some r=>rw[t]at I;cases I;exact bx.lO C N m t|none=>rw[t]at I;exact d.2.2.2.2 N m I
theorem FC (a:ah.dR J)(X:H):hy J (X.b5 J ah l) l aD x (lY ah x X):=(M5 a X).e
end
noncomputable def pX:bo->bo->Bool
 |j::cK,O::is=>j != O ||pX cK is
 |_,_=>ax
theorem kO {D:h_}{a:bf}{j:Nat}{cK:bo}{S Q:ai}(e:a[j]?=E Q):(ai.au D a).gn (j::cK) S=.au D (a.set j (Q.gn cK S)):=by rw[ai.gn,e]
theorem nc {D:h_}{a:bf}{j:Nat}{cK:bo}{S:ai}(e:a[j]?=k):(ai.au D a).gn (j::cK) S=.au D a:=by rw[ai.gn,e]
theorem xk {y S:ai}{cK:bo}(Y:∀D a,y≠.au D a)(b:cK≠[]):y.gn cK S=y:=by
 cases cK with
 |nil=>exact absurd rfl b|cons j cK=>cases y with |au D a=>exact absurd rfl (Y D a)|_=>rfl
theorem M6 {y:ai}{cK:bo}(Y:∀D a,y≠.au D a)(b:cK≠[]):y.at cK=k:=by
 cases cK with
 |nil=>exact absurd rfl b|cons j cK=>cases y with |au D a=>exact absurd rfl (Y D a)|_=>simp[ai.at]
theorem xl (y:ai):(∃D a,y=.au D a)\/∀D a,y≠.au D a:=by grind
theorem oS {ay:Type}{s:List ay}{j:Nat}{Q X:ay}(e:s[j]?=E Q):(s.set j X)[j]?=E X:=tN (hF.mp e).1
theorem M7:∀(cK:bo) (y S b:ai),(y.gn cK S).gn cK b=y.gn cK b
 |[],y,S,b=>rfl|j::cK,y,S,b=>by
  rcases xl y with⟨D,a,rfl⟩|Y
  ·cases e:a[j]? with
   |none=>rw[nc e]|some Q=>rw[kO e,kO e,kO (oS e),tQ,M7 cK Q S b]
  rw[xk Y (by simp)]
theorem M8:∀(cK is:bo) (y S b:ai),pX cK is=ae->(y.gn cK S).gn is b=(y.gn is b).gn cK S
 |[],_,_,_,_,Y=>by cases Y
 |_::_,[],_,_,_,Y=>by cases Y
 |j::cK,O::is,y,S,b,Y=>by
  rcases xl y with⟨D,a,rfl⟩|d
  ·by_cases c:j=O
   ·subst c
    cases e:a[j]? with
    |none=>rw[nc e,nc e,nc e]|some Q=>rw[kO e,kO e,kO (oS e),kO (oS e),tQ,tQ,M8 cK is Q S b (by simpa [pX]using Y)]
   ·cases e:a[j]? with
    |none=>
     cases az:a[O]? with
     |none=>rw[nc e,nc az,nc e]|some f=>rw[nc e,kO az,nc (by rw[jO (λI=>c I.symm)];exact e)]
    |some Q=>
     cases az:a[O]? with
     |none=>rw[kO e,nc az,kO e,nc (by rw[jO c];exact az)]|some f=>rw[kO e,kO az,kO (by rw[jO c];exact az),kO (by rw[jO (λI=>c I.symm)];exact e),Iv _ _ c]
  ·rw[xk d (by simp),xk d (by simp),xk d (by simp)]
theorem M9:∀(cK:bo) (y S X:ai),y.at cK=E X->(y.gn cK S).at cK=E S
 |[],y,S,X,Y=>rfl|j::cK,y,S,X,Y=>by
  rcases xl y with⟨D,a,rfl⟩|c
  ·cases b:D.e4 with
   |false=>rw[qX,b]at Y;cases Y|true=>
    rw[qX,b]at Y;obtain⟨Q,e,Y⟩:=g4.mp Y;rw[kO e,qX,b,oS e];exact M9 cK Q S X Y
  rw[M6 c (by simp)]at Y;cases Y
theorem M_:∀(cK is:bo) (y S:ai),pX cK is=ae->(y.gn cK S).at is=y.at is
 |[],_,_,_,Y=>by cases Y
 |_::_,[],_,_,Y=>by cases Y
 |j::cK,O::is,y,S,Y=>by
  rcases xl y with⟨D,a,rfl⟩|c
  ·cases e:a[j]? with
   |none=>rw[nc e]|some Q=>
    rw[kO e,qX];congr 1;by_cases b:j=O
    ·subst b
     rw[oS e,e];exact M_ cK is Q S (by simpa [pX]using Y)
    rw[jO b]
  rw[xk c (by simp)]
theorem Na:∀{cK is:bo},pX cK is=ae->pX is cK=ae
 |[],_,Y=>by cases Y
 |_::_,[],Y=>by cases Y
 |j::cK,O::is,Y=>by
  unfold pX at Y ⊢;rw[pd]at Y ⊢;rcases Y with Y |Y
  ·left;simpa [ne_comm]using Y
  right;exact Na Y
noncomputable abbrev hg:=Nat×bo
def apart (V cL:hg):Bool:=V.1 != cL.1 ||pX V.2 cL.2
def d3 (x:aX)(V:hg):Option ai:=match x[V.1]? with |some (E y)=>y.at V.2 |_=>k
def eZ (x:aX)(V:hg)(Q:ai):aX:=match x[V.1]? with |some (E y)=>x.set V.1 (E (y.gn V.2 Q))|_=>x
theorem jD {x:aX}{V:hg}{Q y:ai}(e:x[V.1]?=E (E y)):eZ x V Q=x.set V.1 (E (y.gn V.2 Q)):=by unfold eZ;rw[e]
theorem mB {x:aX}{V:hg}{Q:ai}(e:∀y,x[V.1]?≠E (E y)):eZ x V Q=x:=by
 unfold eZ;simp_all
theorem mC (x:aX)(O:Nat):(∃y,x[O]?=E (E y))\/∀y,x[O]?≠E (E y):=by grind
theorem Z6 (x:aX)(V:hg)(S b:ai):eZ (eZ x V S) V b=eZ x V b:=by
 rcases mC x _ with⟨y,e⟩|e
 ·rw[jD e,jD e,jD (oS e),tQ,M7]
 rw[mB e]
theorem Z7 {x:aX}{V:hg}{Q:ai}{O:Nat}(Y:V.1≠O):(eZ x V Q)[O]?=x[O]?:=by
 rcases mC x _ with⟨y,e⟩|e
 ·rw[jD e,jO Y]
 rw[mB e]
theorem oT {x:aX}{V:hg}{y:ai}(e:x[V.1]?=E (E y)):d3 x V=y.at V.2:=by unfold d3;rw[e]
theorem Nb {x:aX}{V cL:hg}{Q:ai}(Y:apart V cL=ae):d3 (eZ x V Q) cL=d3 x cL:=by
 unfold apart at Y;by_cases e:V.1=cL.1
 ·have Y  := by simpa [e]using Y
  rcases mC x _ with⟨y,I⟩|I
  ·rw[jD I,oT  (by rw[<- e];exact oS I),oT  (by rwa[<- e])]
   exact M_ _ _ y Q Y
  rw[mB I]
 unfold d3;rw[Z7 e]
theorem Z8 {x:aX}{V:hg}{S X:ai}(Y:d3 x V=E X):d3 (eZ x V S) V=E S:=by
 rcases mC x _ with⟨y,I⟩|I
 ·rw[oT I]at Y
  rw[jD I,oT  (oS I)];exact M9 _ y S X Y
 ·unfold d3 at Y
  simp_all
theorem Z9 {x:aX}{V cL:hg}{S b:ai}(Y:apart V cL=ae):eZ (eZ x V S) cL b=eZ (eZ x cL b) V S:=by
 unfold apart at Y;by_cases e:V.1=cL.1
 ·have Y  := by simpa [e]using Y
  rcases mC x _ with⟨y,I⟩|I
  ·have c:x[cL.1]?=E (E y):=by rwa[<- e]
   rw[jD I,jD c,jD  (by rw[<- e];exact oS I),jD  (by rw[e];exact oS c),<- e,tQ,tQ,M8 _ _ y S b Y]
  ·rw[mB I,mB (show∀y,x[cL.1]?≠E (E y) by rw[<- e];exact I),mB I]
 ·rcases mC x _ with⟨y,I⟩|I
  ·rcases mC x _ with⟨d,a⟩|a
   ·rw[jD I,jD a,jD  (by rwa[jO e]),jD  (by rwa[jO (λt=>e t.symm)]),Iv _ _ e]
   ·rw[mB a,jD I,mB (by rwa[jO e])]
  ·rcases mC x _ with⟨d,a⟩|a
   ·rw[mB I,jD a,mB (by rwa[jO (λt=>e t.symm)])]
   rw[mB I,mB a,mB I]
section
variable {J:i5}{l:b4}{F a4 bB ao Y D R aq ar a5:aj}{y Q:ai}{a:bf}{v u:aL}{aa:a3}{N:aV}{q:bX}{x:aX}{n:bN}{o:L2.bU}{ah:ft}{V:hg}
inductive dS where
 |v (O:Nat)|w (N:dS) (z:Str)|A (N:dS) (X:H)
def dS.X:dS->H
 |.v O=>.v O|.w N z=>.d2 N.X z|.A N t=>.aT .fj N.X t
def gK:jq->d9->Nat
 |[],_=>0|a::b,D=>if a=D then 0 else gK b D+1
def xm (c:cx)(z:Str)(Q:ai):Option Nat:=match Q with
 |.au (.dI Q b) a=>if Q∈c/\b.idxOf z<a.length then E (b.idxOf z)else k
 |_=>k
def s9 (Q y:ai):Option Nat:=match Q with
 |.au .aG a=>(match y.aH with |.d O=>(h8 a.length O).bind λj=>if j<a.length then E j else k |_=>k)|.au .a_ a=>(match y.aH with |.d O=>(h8 a.length O).bind λj=>if j<a.length then E j else k |_=>k)|.au (.gy b) a=>(m4 y).bind λD=>if gK b D<b.length/\b.length=a.length then E (gK b D)else k
 |_=>k
def dS.aZ (ah:ft)(x:aX):dS->Mo hg
 |.v O=>if(d3 x (O,[])).isSome then .i (O,[])else .aQ
 |.w N z=>(N.aZ ah x).aC λV=>.e8 ((d3 x V).bind λQ=>(xm ah.c9 z Q).map λj=>(V.1,V.2++[j]))|.A N X=>(N.aZ ah x).aC λV=>(X.aZ ah x).aC λy=>.e8 ((d3 x V).bind λQ=>(s9 Q y).map λj=>(V.1,V.2++[j]))
def Z_ (J:cH)(n:bN)(l:b4)(x:aX)(G:Mo hg):Prop:=∀o F R (q:bX),gW (g9 J x) o F->bu F R ->
 (match G with
  |.i V=>∀a4 aq v u Q,fO F R a4 aq->o[V.1]?=E (E v)->k_ aq v V.2=E u->d3 x V=E Q->bz J Q u aq->q u aq|.aW Q=>∀a4 aq,fO F R a4 aq->kg J l Q R a4 aq|.aQ=>False)->n o R q
theorem FD:∀{a:jq}{aa:a3}{D:d9}{r:aL},aa[gK a D]?=E r->gK a D<a.length->g8 (a.zip aa) D=E r
 |[],_,_,_,_,Y=>by simp at Y
 |c::a,[],D,r,Y,_=>by simp at Y
 |c::a,u::aa,D,r,Y,b=>by
  unfold g8;rw[j7,qp];unfold gK at Y b;by_cases e:c=D
  ·rw[if_pos e]at Y;simp at Y;subst Y
   rw[decide_eq_true e];rfl
  ·rw[if_neg e]at Y
   rw[if_neg e]at b;rw[decide_eq_false e];exact FD Y (by simpa using b)
theorem Nc {D:h_}{a:bf}{j:Nat}{Q:ai}(b:D.e4=ae)(c:a[j]?=E Q):∀{cK:bo}{y:ai},y.at cK=E (.au D a)->y.at (cK++[j])=E Q
 |[],y,Y=>by cases Y;rw[yF,qX,b,c];rfl
 |O::cK,y,Y=>by
  rcases xl y with⟨f,dc,rfl⟩|g
  ·rw[qX]at Y
   cases d:f.e4 with
   |false=>simp_all|true=>
    rw[d]at Y;obtain⟨cR,e,Y⟩:=g4.mp Y;rw[yC,qX,d,e];exact Nc b c Y
  rw[M6 g (by simp)]at Y;cases Y
theorem Nd {x:aX}{b:hg}{D:h_}{a:bf}{j:Nat}{Q:ai}(d:D.e4=ae)(e:a[j]?=E Q)(Y:d3 x b=E (.au D a)):d3 x (b.1,b.2++[j])=E Q:=by
 rcases mC x _ with⟨y,c⟩|c
 ·rw[oT c]at Y
  rw[oT (V:=(b.1,b.2++[j])) c];exact Nc d e Y
 unfold d3 at Y;simp_all
theorem aaa {O:Nat}{y:ai}(a:gW (g9 J x) o F)(c:x[O]?=E (E y)):∃v,o[O]?=E (E v)/\bz J y v F:=by
 obtain⟨v,d,b⟩:=a O (mS J (E y)) (by simp_all)
 refine⟨v,?_,b⟩;cases I:o[O]? with
 |_=>simp_all
theorem dS.dh (m:ah.dR J):∀(N:dS) (l:b4) (x:aX),Z_ J (N.X.b5 J ah l) l x (N.aZ ah x)
 |.v O,l,x=>by
  intro o F R q f h V;unfold dS.aZ at V;rcases mC x O with⟨y,K⟩|K
  ·have ab:d3 x (O,[])=E y:=by rw[oT (V:=(O,[])) K];show y.at []=_;rw[ai.at]
   rw[ab]at V;obtain⟨v,n,aj⟩:=aaa f K;show oB O o R q
   unfold oB;rw[n];exact V F R v v y (.fc h) n rfl ab (aj.bJ h)
  ·rw[show d3 x (O,[])=k from by
    unfold d3;split
    ·rename_i y I;exact absurd I (K y)
    ·rfl]at V
   exact V.elim
 |.w N z,l,x=>by
  intro o F R q f h V;unfold dS.aZ at V;cases e:N.aZ ah x with
  |aQ=>rw[e]at V;exact V.elim|aW Q=>
   rw[e]at V;cases ac:ah.c9 with
   |nil=>exact absurd ac m.c9|cons ak aw=>exact⟨ak,by rw[ac];exact ek ..,dS.dh m N l x o F R _ f h (by rw[e];exact V)⟩
  |i b=>
   rw[e]at V;dsimp only[Mo.aC]at V;cases aN:d3 x b with
   |none=>rw[aN]at V;exact V.elim|some Q=>
    rw[aN]at V;cases az:xm ah.c9 z Q with
    |none=>rw[show(Option.bind (E Q) λQ=>(xm ah.c9 z Q).map λj=>(b.1,b.2++[j]))=k from by simp[az]]at V;exact V.elim|some j=>
     rw[show(Option.bind (E Q) λQ=>(xm ah.c9 z Q).map λj=>(b.1,b.2++[j]))=E (b.1,b.2++[j])from by simp[az]]at V
     unfold xm at az;split at az
     ·rename_i al am a
      split at az
      ·rename_i s
       cases az;refine⟨al,s.1,dS.dh m N l x o F R _ f h ?_⟩;rw[e];intro bB ar v u cR x1 n M B P;rw[aN]at B;cases B;obtain⟨eW,aa,rfl,c,G⟩:=P.au;rcases G.gQ (am.idxOf z)with⟨I,_⟩|⟨dO,r,S,d,T⟩
       ·rw[gd s.2]at I;cases I
       have an:=c;obtain⟨bH,ap,aq⟩:=c;exact⟨bH,_,r,ap,Fc d aq,V bB ar v r dO x1 n (E9 rfl an d M) (Nd rfl S aN) T⟩
      ·cases az
     ·cases az
 |.A N X,l,x=>by
  intro o F R q f h V;unfold dS.aZ at V;cases e:N.aZ ah x with
  |aQ=>rw[e]at V;exact V.elim|aW Q=>rw[e]at V;exact dS.dh m N l x o F R _ f h (by rw[e];exact V)|i b=>
   rw[e]at V;refine dS.dh m N l x o F R _ f h ?_;rw[e];intro bB ar v u Q x1 n M B P;dsimp only[Mo.aC]at V;cases aW:X.aZ ah x with
   |aQ=>rw[aW]at V;exact V.elim|aW Q=>
    rw[aW]at V;refine H.dh m X l x o bB ar _ (f.bJ x1.1) x1.2.1 ?_;rw[aW];exact λao a5 x2=>(V ao a5 (x1.b_ x2)).iH x1.2.2.1
   |i U=>
    rw[aW]at V;dsimp only at V;rw[B]at V;cases az:s9 Q U with
    |none=>rw[show(Option.bind (E Q) λQ=>(s9 Q U).map λj=>(b.1,b.2++[j]))=k from by simp[az]]at V;exact V.elim|some j=>
     rw[show(Option.bind (E Q) λQ=>(s9 Q U).map λj=>(b.1,b.2++[j]))=E (b.1,b.2++[j])from by simp[az]]at V
     refine g_ (H.dh m X l x) o bB ar _ (f.bJ x1.1) x1.2.1 ?_;rw[aW];intro ao a5 x2 t af;have L:=bz.aH af;have W:=P.bJ x2.2.2.1;have g:∀{D:h_}{a:bf}{eW:aV}{aa:a3},D.e4=ae->Q=.au D a->u=.a0 eW->m3 J D eW aa a5->b2 J a aa a5->j<a.length->∃r,aa[j]?=E r/\q r a5:=λ{D a eW aa} ag ec as c G C=>by
      subst ec;subst as;rcases G.gQ j with⟨I,_⟩|⟨dO,r,S,d,T⟩
      ·rw[gd C]at I;cases I
      exact⟨r,d,V ao a5 v r dO (x1.b_ x2) n (E9 ag c d (w_ x2.2.2.1 M)) (Nd ag S B) T⟩
     unfold s9 at az;split at az
     ·split at az
      ·rename_i O Y
       rw[Y]at L;cases L.d;obtain⟨au,Z,az⟩:=g4.mp az;split at az
       ·rename_i C
        cases az;obtain⟨eW,aa,rfl,c,G⟩:=W.au;obtain⟨r,d,g⟩:=g rfl rfl rfl c G C;refine .inl ⟨aa,.inl (.of c),?_⟩;rw[show eb aa O=E r from by unfold eb;rw[<- G.b6,Z];exact d];exact g
       ·cases az
      ·cases az
     ·split at az
      ·rename_i O Y
       rw[Y]at L;cases L.d;obtain⟨au,Z,az⟩:=g4.mp az;split at az
       ·rename_i C
        cases az;obtain⟨eW,aa,rfl,c,G⟩:=W.au;obtain⟨r,d,g⟩:=g rfl rfl rfl c G C;refine .inl ⟨aa,.inr (.of c),?_⟩;rw[show eb aa O=E r from by unfold eb;rw[<- G.b6,Z];exact d];exact g
       ·cases az
      ·cases az
     ·rename_i ay a
      obtain⟨D,av,az⟩:=g4.mp az;split at az
      ·rename_i s
       cases az;obtain⟨eW,aa,rfl,c,G⟩:=W.au;obtain⟨r,d,g⟩:=g rfl rfl rfl c G (by rw[<- s.2];exact s.1)
       exact .inr (EZ rfl (w7 av af).1 c.1 ⟨r,FD d s.1,g⟩)
      ·cases az
     ·cases az
end
def bY.aC {A ay cQ:Type}(h:bY A ay)(D:ay->A->bY A cQ):bY A cQ:=match h with |.i S n=>D S n |.aW Q n=>.aW Q n |.aQ=>.aQ
inductive p where
 |X (X:H)|s (N:dS)
 |h (N:dS)
abbrev nU:=List p
def p.n:p->H
 |.X t=>t|.s N=>N.X|.h N=>N.X
inductive q7 where
 |y (y:ai)|s (V:hg)
abbrev iK:=List q7
def FE (ah:ft)(x:aX)(N:dS):bY aX ai:=match N.aZ ah x with
 |.i V=>(match d3 x V with |some Q=>.i Q (eZ x V .eO)|none=>.aQ)|.aW Q=>.aW Q x|.aQ=>.aQ
def eh (ah:ft):aX->nU->bY aX iK
 |x,[]=>.i [] x|x,.X X::aI=>(lY ah x X).aC λy e=>(eh ah e aI).aC λa b=>.i (.y y::a) b|x,.s N::aI=>match N.aZ ah x with
  |.i V=>(eh ah x aI).aC λa b=>.i (.s V::a) b|.aW Q=>.aW Q x|.aQ=>.aQ
 |x,.h N::aI=>(FE ah x N).aC λy e=>(eh ah e aI).aC λa b=>.i (.y y::a) b
section
variable {J:i5}{l:b4}{F a4 bA bB ao bk Y ab af R aq ar a5:aj}{y Q:ai}{a:bf}{v u:aL}{c:a3}{N:aV}{q:bX}{x:aX}{n:bN}{aD:iv}{o:L2.bU}{ah:ft}{V:hg}{bE:fg}{w:b0}
def oU (J:cH)(o:L2.bU)(F R:aj):List q7->a3->aj->Prop
 |[],c,Y=>c=[]/\∀N,Y N=k|.y y::b,c,Y=>∃v a ab af,c=v::a/\cG ab af Y/\bx J y v F ab/\oU J o F R b a af|.s V::b,c,Y=>∃u v a,c=u::a/\o[V.1]?=E (E v)/\k_ R v V.2=E u/\oU J o F R b a Y
def Nf (J:cH)(G:bY aX (List q7))(l:b4)(aD:iv)(o:L2.bU)(bA bk d:aj)(q:List aL->aj->Prop):Prop:=match G with
 |.i e x=>∀c F a b Y R,cY (eE J aD x) o F b->oU J o F R e c a->cG a b Y->dm bA bk F Y R->bu d R->q c R|.aW Q x=>∀F Y R,cY (eE J aD x) o F Y->dm bA bk F Y R->kg J l Q bk F R|.aQ=>False
def q8 (J:cH)(n:fg)(l:b4)(aD:iv)(x:aX)(G:bY aX (List q7)):Prop:=
 ∀bA bk o F Y R (q:List aL->aj->Prop),cY (eE J aD x) o F Y->dm bA bk F Y R->Nf J G l aD o bA bk R q->n o R q
theorem hh (I:aj)(a:∀N,I N=k):cG I Y Y:=λN=>.inl ⟨a N,rfl⟩
theorem AM {S b Q:aj}(d:cS S b)(a:cS S Q)(c:cS b Q):cG (aH S b) Q (aH S (aH b Q)):=λN=>by
 unfold aH;cases X:S N with
 |some C=>
  right;rcases a N with t |t
  ·rw[t]at X;cases X
  ·exact⟨t,rfl⟩
 |none=>
  cases t:b N with
  |some C=>
   right;rcases c N with I |I
   ·rw[I]at t;cases t
   ·exact⟨I,rfl⟩
  |none=>left;exact⟨rfl,rfl⟩
theorem ix (j:cG ab af Y):Y=aH ab af:=funext λN=>by
 unfold aH;rcases j N with⟨S,b⟩|⟨S,b⟩
 ·rw[S,b]
 ·rw[b]
  cases ab N with
  |none=>exact S.symm|some C=>rfl
theorem aab:q8 J hG l aD x (.i [] x):=λbA bk o F Y R q a b c=>c [] F _ Y Y R a ⟨rfl,λ_=>rfl⟩ (hh _ λ_=>rfl) b (bu.fc _)
theorem Ng {G:bY aX ai}{g:aX->bY aX iK}(B:xj J n l aD x G)(C:∀e,q8 J bE l aD e (g e)):q8 J (gT n bE) l aD x (G.aC λy e=>(g e).aC λt h=>.i (.y y::t) h):=by
 intro bA bk o F Y R q D ok a;refine B bA bk o F Y R _ D ok ?_;cases G with
 |aQ=>exact a|aW Q e=>exact a|i y e=>
  intro v bB u K aE ar L M j b O;refine C e bB _ o bB K ar _ L (MZ b j) ?_;dsimp only[bY.aC]at a;cases az:g e with
  |aQ=>rwa[az]at a|aW Q h=>
   rw[az]at a;intro ao af a5 m r;obtain⟨A,d,s⟩:=u9 b j r;refine Fz b j (a ao _ a5 (cY.pG m (fH d)) s)
  |i t h=>
   rw[az]at a;intro c ao w P af a5 m S f r T;obtain⟨A,d,s⟩:=u9 b j r;have U:=ix f;subst U;have z:cS u w:=λN=>by rcases d N with I |I;exact .inl I;exact .inr ((fH f.fQ).s.ck I)
   exact a _ ao _ P _ a5 m ⟨v,c,u,w,rfl,fH z,M.bJ A,S⟩ (AM z (λN=>by rcases d N with I |I;exact .inl I;exact .inr ((fH f.fQ).G.ck I)) f.fQ) s (O.b_ T)
theorem aac (j:ah.dR J){b:dS}{G:bY aX iK}(m:q8 J bE l aD x G):q8 J (gT (b.X.b5 J ah l) bE) l aD x (match b.aZ ah x with |.i V=>G.aC λf g=>.i (.s V::f) g |.aW Q=>.aW Q x |.aQ=>.aQ):=by
 intro bA bk o F Y R q d ok a;refine dS.dh j b l x o _ R _ (qY (d.qN ok.2.1)) ok.qQ ?_;cases e:b.aZ ah x with
 |aQ=>rwa[e]at a|aW Q=>
  rw[e]at a;exact λa4 aq t=>(a _ _ _ (d.bJ (ok.d1 t).2.1) (ok.d1 t).1).d1 ok t
 |i V=>
  rw[e]at a;intro bB ar v u Q x1 n r _ _;obtain⟨s,w,I⟩:=ok.d1 x1;refine m bA bk o _ Y ar _ (d.bJ w) s ?_;cases G with
  |i f g=>exact λc ao y z af a5 A B C D h=>a _ ao y z af a5 A ⟨u,v,c,rfl,n,w_ h r,B⟩ C D (x1.2.2.1.b_ h)|_=>exact a
theorem nV {Y:aj}(a:∀N,Y N=k):bx J .eO v F Y:=by trivial
theorem aad (h:ah.dR J){c:dS}:xj J (c.X.b5 J ah l) l aD x (FE ah x c):=by
 intro bA bk o F Y R q d ok a;unfold FE at a;refine dS.dh h c l x o _ R _ (qY (d.qN ok.2.1)) ok.qQ ?_;cases e:c.aZ ah x with
 |aQ=>rwa[e]at a|aW Q=>
  rw[e]at a;exact λa4 aq t=>(a _ _ _ (d.bJ (ok.d1 t).2.1) (ok.d1 t).1).d1 ok t
 |i V=>
  rw[e]at a;intro bB ar v u Q x1 m n b _;obtain⟨f,r,C⟩:=ok.d1 x1;have a:FA J (match d3 x V with |some Q=>.i Q _ |none=>.aQ) l aD o bA bk R q:=a
  rw[b]at a;unfold d3 at b;split at b
  ·rename_i y g
   obtain⟨D,G,ab,af,aN,s,j,w,z⟩:=Av (d.bJ r) g b;have A  := aN.symm.trans m;cases A;have B:=(s ar f.1.2.1 f.2.2.1).symm.trans n;cases B;exact a u _ ab af Y ar (by rw[jD g];exact z _ _ _ af (bu.fc _) (nV λ_=>rfl) (hh _ λ_=>rfl)) w j f x1.2.2.1
  cases b
theorem oV (a:ah.dR J):∀(aI:nU) (x:aX),q8 J (H.d_ J ah l (aI.map p.n)) l aD x (eh ah x aI)
 |[],x=>aab|.X X::aI,x=>Ng (M5 a X) (oV a aI)|.s N::aI,x=>aac a (oV a aI x)|.h N::aI,x=>Ng (aad a) (oV a aI)
def ie (x:aX):List q7->Option bf
 |[]=>E []|.y y::b=>(ie x b).map λa=>y::a|.s V::b=>(d3 x V).bind λQ=>(ie x b).map λa=>Q::a
def oW (V:hg):List q7->Bool
 |[]=>ae|.y _::a=>oW V a|.s cL::a=>apart V cL && oW V a
def oX:iK->Bool
 |[]=>ae|.y _::a=>oX a|.s V::a=>oW V a && oX a
def je (x:aX):List q7->bf->aX
 |.y _::b,_::a=>je x b a|.s V::b,y::a=>eZ (je x b a) V y|_,_=>x
theorem FF {Q:ai}:∀{a:iK},oW V a=ae->ie (eZ x V Q) a=ie x a
 |[],_=>rfl|.y y::a,Y=>by unfold oW at Y;unfold ie;rw[FF Y]
 |.s cL::a,Y=>by
  obtain⟨ab,af⟩:=kW.mp Y;unfold ie;rw[FF af,Nb ab]
theorem FG {Q:ai}:∀{b:iK}{a:bf},oW V b=ae->je (eZ x V Q) b a=eZ (je x b a) V Q
 |[],_,_=>rfl|.y y::b,[],_=>rfl|.s cL::b,[],_=>rfl|.y y::b,_::a,Y=>by unfold je;exact FG Y
 |.s cL::b,y::a,Y=>by
  obtain⟨ab,af⟩:=kW.mp Y;unfold je;rw[FG af,Z9 ab]
theorem FH:∀{b:iK}{a:bf},oW V b=ae->d3 (je x b a) V=d3 x V
 |[],_,_=>rfl|.y y::b,[],_=>rfl|.s cL::b,[],_=>rfl|.y y::b,_::a,Y=>by unfold je;exact FH Y
 |.s cL::b,y::a,Y=>by
  obtain⟨ab,af⟩:=kW.mp Y;unfold je;have c:apart cL V=ae:=by
   unfold apart at ab ⊢;rw[pd]at ab ⊢;rcases ab with ab |ab
   ·left;simpa [ne_comm]using ab
   right;exact Na ab
  rw[Nb c,FH af]
theorem FI:∀{f:iK}{x:aX}{a:bf}{c:a3}{t B Y:aj},ie x f=E a->oX f=ae->oU J o F R f c t->cY (eE J aD x) o F B->cG t B Y->bu F R->bu Y R ->
  ∃l s,cG l s Y/\bF J a c F l/\a.length=f.length/\∀dc a4 C aE,bu F a4->bF J dc c a4 C->cG C s aE->cY (eE J aD (je x f dc)) o a4 aE
 |[],x,a,c,t,B,Y,e,_,n,D,j,G,K=>by
  unfold ie at e;cases e;obtain⟨rfl,z⟩:=n;refine⟨t,B,j,by unfold bF;exact⟨rfl,z⟩,rfl,λdc a4 C aE A T L=>?_⟩
  unfold je;exact cY.pG (D.bJ A) L
 |.y y::f,x,a,c,t,B,Y,e,M,n,D,j,G,K=>by
  unfold ie at e;obtain⟨as,aN,rfl⟩:=ik.mp e;obtain⟨v,X,ab,af,rfl,au,av,n⟩:=n;obtain⟨h,Z,m⟩:=iI au j;obtain⟨l,s,q,T,aa,w⟩:=FI aN (by unfold oX at M;exact M) n D Z G (m.G.b_ K)
  obtain⟨S,a0,a1⟩:=iI (jc m |> λI=>I |> jc) (show cG Y (λ_=>k) Y from λN=>.inr ⟨rfl,rfl⟩)
  have c_:cS ab l:=λN=>by rcases m.fQ N with I |I;exact .inl I;exact .inr (q.s.ck I)
  have ac:cS ab s:=λN=>by rcases m.fQ N with I |I;exact .inl I;exact .inr (q.G.ck I)
  refine⟨aH ab l,s,?_,by unfold bF;exact⟨v,X,ab,l,rfl,fH c_,av,T⟩,by rw[ee,ee,aa],λdc a4 C aE A d L=>?_⟩
  ·have:=AM c_ ac q.fQ
   rw[<- ix q,<- ix m]at this;exact this
  ·cases dc with
   |nil=>unfold bF at d;cases d.1|cons dO dc=>
    unfold bF at d;obtain⟨aw,ay,ap,ag,ah,ak,_,d⟩:=d;cases ah;obtain⟨b,al,am⟩:=iI ak L;unfold je;exact cY.pG (w dc a4 ag b A d al) am
 |.s V::f,x,a,c,t,B,Y,e,M,n,D,j,G,K=>by
  unfold ie at e;obtain⟨Q,ec,e⟩:=g4.mp e;obtain⟨as,aN,rfl⟩:=ik.mp e;obtain⟨u,v,X,rfl,az,aA,n⟩:=n;unfold oX at M;obtain⟨an,aB⟩:=kW.mp M;rcases mC x V.1 with⟨aq,O⟩|O
  rotate_left
  ·unfold d3 at ec;split at ec
   ·rename_i y I;exact absurd I (O y)
   ·cases ec
  have aC:aq.at V.2=E Q:=by rw[<- oT O];exact ec
  obtain⟨aw,i,U,ao,ar,aF,aG,aI,g⟩:=Av D O aC;rw[az]at ar;cases ar;have aJ:bu B R:=j.G.b_ K;have aK:i=u:=jQ ((aF R G aJ).symm.trans aA);subst aK;have aM:eZ x V (.eM i)=x.set V.1 (E (aq.gn V.2 (.eM i))):=jD O;have aP:cY (eE J aD (eZ x V (.eM i))) o F ao:=by
   rw[aM];exact g (.eM i) F (λ_=>k) ao (bu.fc _) (by unfold bx;exact⟨λ_=>rfl,by unfold bz;rfl⟩) (hh _ λ_=>rfl)
  obtain⟨h,Z,m⟩:=iI aG (jc j);have aQ:cG t ao h:=jc Z;obtain⟨l,s,q,T,aa,w⟩:=FI (f:=f) (x:=eZ x V (.eM i)) (by rw[FF an];exact aN) aB n aP aQ G (m.G.b_ K)
  have c_:cS U l:=λN=>by rcases m.fQ N with I |I;exact .inl I;exact .inr (q.s.ck I)
  have ac:cS U s:=λN=>by rcases m.fQ N with I |I;exact .inl I;exact .inr (q.G.ck I)
  refine⟨aH U l,s,?_,by unfold bF;exact⟨i,X,U,l,rfl,fH c_,aI,T⟩,by rw[ee,ee,aa],λdc a4 C aE A d L=>?_⟩
  ·have:=AM c_ ac q.fQ
   rw[<- ix q,<- ix m]at this;exact this
  ·cases dc with
   |nil=>unfold bF at d;cases d.1|cons dO dc=>
    unfold bF at d;obtain⟨r,ay,ap,ag,ah,ak,aR,d⟩:=d;cases ah;obtain⟨b,al,am⟩:=iI ak L;have af:=w dc a4 ag b A d al;have W:d3 (je (eZ x V (.eM i)) f dc) V=E (.eM i):=by rw[FH an];exact Z8 ec
    rcases mC (je (eZ x V (.eM i)) f dc) V.1 with⟨aS,P⟩|P
    rotate_left
    ·unfold d3 at W;split at W
     ·rename_i y I;exact absurd I (P y)
     ·cases W
    have aT:aS.at V.2=E (.eM i):=by rw[<- oT P];exact W
    obtain⟨a2,aU,ez,dC,_,_,aV,on,aW⟩:=Av af P aT;unfold bx at on;obtain⟨aY,on⟩:=on;unfold bz at on;subst on;have aZ:b=dC:=by rw[ix aV];funext N;unfold aH;rw[aY N]
    subst aZ;have:=aW dO a4 ap aE (bu.fc _) aR am;unfold je;rw[show eZ (je x f dc) V dO=eZ (je (eZ x V (.eM aU)) f dc) V dO from by rw[FG an,Z6],jD P]
    exact this
def gY (w:b0)(b:iK)(x:aX):bY aX ai:=match ie x b with
 | some a=>if oX b then(match w a with
   |.i y dc=>.i y (je x b dc)|.aW Q dc=>.aW Q (je x b dc)|.aQ=>.aQ)else .aQ
 |none=>.aQ
def AN (J:cH)(w:b0)(a:bf)(c:a3)(R:aj)(q:bX)(l:b4):Prop:=∃F Y,bu F R/\cS F Y/\bu Y R/\bF J a c F Y/\E_ J (w a) l F (f9 R Y) c q
theorem AN.fu {a:bf}(Y:AN J w a c R q l):fJ J w c R q l:=by obtain⟨F,Y,S⟩:=Y;exact⟨F,Y,a,S⟩
theorem Nh {e:iK}{L M:aj}(P:cY (eE J aD x) o F M)(S:oU J o F R e c L)(j:cG L M Y)(ok:dm bA bk F Y R)(b:s8 J (gY w e x) l aD o bA bk q):∃a,ie x e=E a/\AN J w a c R q l:=by
 unfold gY at b;cases n:ie x e with
 |none=>rw[n]at b;exact b.elim|some a=>
  rw[n]at b;dsimp only at b;by_cases r:oX e=ae
  rotate_left
  ·rw[if_neg r]at b;exact b.elim
  rw[if_pos r]at b;obtain⟨T,d,s,U,aa,g⟩:=FI n r S P j ok.1.2.1 ok.2.2.1;have u:=jc s;refine⟨a,rfl,F,T,ok.1.2.1,wR ok.2.1 s,s.s.b_ ok.2.2.1,U,?_⟩;cases z:w a with
  |aQ=>rw[z]at b;exact b|aW Q dc=>
   rw[z]at b;intro ao af a5 B D;obtain⟨A,h,G⟩:=u9 ok u B;exact Fz ok u (b ao (aH d af) a5 (g dc ao af _ A D (jc (fH h))) G)
  |i y dc=>
   rw[z]at b;intro v ao af a5 K f B m V D;obtain⟨A,h,G⟩:=u9 ok u B;have W:cS d K:=λN=>by rcases h N with I |I;exact .inl I;exact .inr (m.s.ck I)
   have O:cS d f:=λN=>by rcases h N with I |I;exact .inl I;exact .inr (m.G.ck I)
   have Z:cS f d:=λN=>(O N).symm
   refine b v ao K (aH f d) (aH d af) a5 (g dc ao f _ A D (fH Z)) V ?_ G;rw[ix m];intro N;unfold aH;cases X:K N with
   |some C=>
    right;rcases m.fQ N with I |I
    ·rw[I]at X;cases X
    ·rcases W N with t |t
     ·rw[I,t];exact⟨rfl,rfl⟩
     ·rw[t]at X;cases X
   |none=>
    left;refine⟨rfl,?_⟩;cases t:d N with
    |some C=>
     rcases O N with I |I
     ·rw[I]at t;cases t
     ·rw[I]
    |none=>cases f N<;>rfl
theorem xn {b:iK}{d e:aj}(f:cY (eE J aD x) o F e)(g:oU J o F R b c d)(j:cG d e Y)(h:dm bA bk F Y R)(i:s8 J (gY w b x) l aD o bA bk q):fJ J w c R q l:=by
 obtain⟨a,_,Q⟩:=Nh f g j h i;exact Q.fu
theorem aae {G:bY aX iK}(b:q8 J bE l aD x G):hy J (qD (fJ J w) [] l bE) l aD x (G.aC (gY w)):=by
 intro bA bk o F Y R q d ok a;refine b bA bk o F Y R _ d ok ?_;cases G with
 |i m e=>
  intro c bB n r ab ar f g j h _;rw[lC];exact xn f g j h a |_=>exact a
end
inductive eY where
 |de |en (y:ai)|iC |gE
abbrev lh:=aX->bY aX eY
section
variable {J:i5}{l:b4}{F a4 bA bB ao bk Y ab af R aq ar a5:aj}{y Q:ai}{a:bf}{v u:aL}{c:a3}{N:aV}{x:aX}{n:bN}{aD:iv}{o:L2.bU}{bE:fg}{w:b0}{A bh bj:fY}{O:Nat}
def oY (J:cH)(G:bY aX eY)(l:b4)(aD:iv)(bA bk:aj)(bw:r3):Prop:=match G with
 |.i .de x=>∀o F Y R,cY (eE J aD x) o F Y->dm bA bk F Y R->bw.de o R|.i .iC x=>∀o F Y R,cY (eE J aD x) o F Y->dm bA bk F Y R->bw.iC o R|.i .gE x=>∀o F Y R,cY (eE J aD x) o F Y->dm bA bk F Y R->bw.gE o R|.i (.en y) x=>∀v o F a af Y R,cY (eE J aD x) o F af->bx J y v F a->cG a af Y->dm bA bk F Y R->bw.en v R|.aW Q x=>∀o F Y R,cY (eE J aD x) o F Y->dm bA bk F Y R->kg J l Q bk F R|.aQ=>False
def hi (J:cH)(n:fY)(l:b4)(aD:iv)(x:aX)(G:bY aX eY):Prop:=
 ∀bA bk o F Y R (bw:r3),cY (eE J aD x) o F Y->dm bA bk F Y R->oY J G l aD bA bk bw->n bw o R
theorem Ni:hi J t_ l aD x (.i .de x):=λbA bk o F Y R bw a b c=>c o F Y R a b
theorem aaf:hi J Df l aD x (.i .iC x):=λbA bk o F Y R bw a b c=>c o F Y R a b
def jX (G:bY aX eY)(g:lh):bY aX eY:=G.aC λC e=>match C with |.de=>g e |_=>.i C e
theorem Nj {G:bY aX eY}{g:lh}(c:hi J bh l aD x G)(d:∀e,hi J bj l aD e (g e)):hi J (r7 bh bj) l aD x (jX G g):=by
 intro bA bk o F Y R bw b ok a;refine c bA bk o F Y R _ b ok ?_;cases G with
 |aQ=>exact a|aW Q e=>exact a|i C e=>
  cases C with
  |de=>exact λo F Y R b ok=>d e bA bk o F Y R bw b ok a|_=>exact a
theorem Nk {a c:aj}(hw:aD O=k)(aB:O<x.length)(f:cY (eE J aD x) o F c)(h:bx J y v F a)(j:cG a c Y):cY (eE J aD (x.set O (E y))) (o.set O (E v)) F Y:=by
 obtain⟨C,d,e,aN,b,l,g⟩:=cY.uX f (uY (gd aB));have i:cS a e:=λN=>by rcases j.fQ N with I |I;exact .inl I;exact .inr (b.G.ck I)
 have:=g (nQ J (aD O) (E y)) (E v) F a (aH a e) (bu.fc _) (Au (λu I=>by rw[hw]at I;cases I) h) (fH i)
 rw[As]at this;refine cY.pG this (g:=d) ?_;rw[ix j,ix b];intro N;unfold aH;cases X:a N with
 |some C=>
  left;refine⟨?_,rfl⟩;rcases j.fQ N with I |I
  ·rw[I]at X;cases X
  ·exact b.s.ck I
 |none=>
  cases t:d N with
  |some C=>
   right;refine⟨?_,rfl⟩;rcases b.fQ N with I |I
   ·rw[I]at t;cases t
   ·exact I
  |none=>left;exact⟨rfl,rfl⟩
def AO (aA:i7)(O:Nat)(G:bY aX ai):bY aX eY:=G.aC λy e=>if aA O=ax/\O<e.length then .i .de (e.set O (E y))else .aQ
theorem aag {aA:i7}{G:bY aX ai}(b:∀O,aA O=ax->aD O=k)(c:hy J n l aD x G):hi J (ot n (oq O)) l aD x (AO aA O G):=by
 intro bA bk o F Y R bw d ok a;refine c bA bk o F Y R _ d ok ?_;cases G with
 |aQ=>exact a|aW Q e=>exact a o|i y e=>
  have a:oY J (if aA O=ax/\O<e.length then .i _ _ else .aQ) l aD bA bk bw:=a
  split at a
  ·rename_i I
   exact λv bB m q ab ar f g j h=>a _ bB ab ar (Nk (b O I.1) I.2 f g j) h
  exact a.elim
def pY (G:bY aX ai):bY aX eY:=G.aC λ_ e=>.i .de e
theorem aah {G:bY aX ai}(b:hy J n l aD x G):hi J (Dg n) l aD x (pY G):=by
 intro bA bk o F Y R bw c ok a;refine b bA bk o F Y R _ c ok ?_;cases G with
 |aQ=>exact a|aW Q e=>exact a o|i y e=>exact λv bB g h ab ar d m j f=>a o bB ab ar (cY.pG d j) f
def FJ (G:bY aX ai):bY aX eY:=G.aC λy e=>.i (.en y) e
theorem aai {G:bY aX ai}(b:hy J n l aD x G):hi J (Dh n) l aD x (FJ G):=by
 intro bA bk o F Y R bw c ok a;refine b bA bk o F Y R _ c ok ?_;cases G with
 |aQ=>exact a|aW Q e=>exact a o|i y e=>exact λv bB d f ab ar g h j m=>a v o bB d f ab ar g h j m
theorem aaj:hi J Di l aD x (.i (.en .a9) x):=λbA bk o F Y R bw a b c=>
 c _ o F _ Y Y R a (⟨λ_=>rfl,rfl⟩) (hh _ λ_=>rfl) b
def oZ (x:aX)(b:mZ)(bC bR:bY aX eY):bY aX eY:=match b with
 |.i Q=>if Q then bC else bR
 |.aW Q=>.aW Q x|.aQ=>.aQ
theorem FK {ht:f7}{b:mZ}{bC bR:bY aX eY}(e:mn J ht l (g9 J x) b)(f:hi J bh l aD x bC)(g:hi J bj l aD x bR):hi J (sh ht bh bj) l aD x (oZ x b bC bR):=by
 intro bA bk o F Y R bw a ok c;refine e o _ R _ (qY (a.qN ok.2.1)) ok.qQ ?_;cases b with
 |aQ=>exact c|aW Q=>exact λa4 aq t=>(c o _ _ _ (a.bJ (ok.d1 t).2.1) (ok.d1 t).1).d1 ok t|i Q=>
  intro a4 aq t;obtain⟨C,d,h⟩:=ok.d1 t;refine⟨λI=>?_,λI=>?_⟩
  ·subst I;exact f bA bk o _ Y aq bw (a.bJ d) C c
  subst I;exact g bA bk o _ Y aq bw (a.bJ d) C c
def nd (b:aX->bf->bY aX eY):List bf->aX->bY aX eY
 |[],e=>.i .de e|X::m,e=>(b e X).aC λC a=>match C with |.de=>nd b m a |.iC=>nd b m a |.gE=>.i .de a |.en y=>.i (.en y) a
def i0 (aA:i7):aX->bo->bf->Option aX
 |e,O::is,y::a=>if aA O=ax/\O<e.length then i0 aA (e.set O (E y.bO)) is a else k
 |e,[],[]=>E e|_,_,_=>k
theorem FL {aA:i7}(f:∀O,aA O=ax->aD O=k):∀{is:bo}{a:bf}{x e:aX}{o:L2.bU}{c:y6},i0 aA x is a=E e->qP F (xc J is a) c->cY (eE J aD x) o F Y->cY (eE J aD e) (qO o c) F Y
 |[],[],x,e,o,c,I,b,d=>by cases I;cases b;exact d
 |O::is,y::a,x,e,o,c,I,b,d=>by
  unfold i0 at I;split at I
  ·rename_i t
   cases b with
   |cons g b=>
    exact FL f   (o:=o.set O (E _)) I b (Nk (f O t.1) t.2 d (bx.bO  (λ_=>rfl) g) (hh _ λ_=>rfl))
  cases I
 |[],_::_,_,_,_,_,I,_,_=>by trivial
 |_::_,[],_,_,_,_,I,_,_=>by trivial
theorem Nl {d g:aj}(n:bF J a c F d)(j:cG d g Y)(o:dm bA bk F Y R):b2 J a c (aH F d)/\bu F (aH F d)/\dm bA bk (aH F d) g R:=by
 obtain⟨f,h,i,l,q⟩:=o;refine⟨bx.w4.eC lP (qM (wR h j)) n,lP,⟨f.1.b_ lP,λN C e=>?_,f.2.2.1,λN S b=>?_⟩,λN=>?_,j.G.b_ i,λN I=>?_,λN m e=>q N m (j.G _ _ e)⟩
 ·unfold aH at e
  cases I:F N with
  |some r=>rw[I]at e;cases e;exact f.2.1 _ _ I|none=>rw[I]at e;exact i _ _ (j.s _ _ e)
 ·unfold aH at b
  cases I:F N with
  |some r=>exact f.2.2.2 N S (by rw[I];exact fE _)|none=>
   rw[I]at b;cases t:d N with
   |none=>exact absurd t b|some r=>exact l N (by rw[j.s _ _ t];exact fE _)
 ·unfold aH
  cases I:F N with
  |some r=>
   rcases Ac h j N with t |t
   ·rw[t]at I;cases I
   ·exact .inr t
  |none=>exact j.fQ N
 ·cases t:g N with
  |none=>exact absurd t I|some r=>exact l N (by rw[j.G _ _ t];exact fE _)
noncomputable def pZ:iK->Option bf
 |[]=>E []|.y y::b=>(pZ b).map λa=>y::a|.s _::_=>k
theorem Nm:∀{b:iK}{a:bf}{c:a3}{Y:aj},pZ b=E a->oU J o F R b c Y->bF J a c F Y
 |[],_,_,_,e,G=>by cases e;exact G
 |.y y::b,_,_,_,e,d=>by
  obtain⟨v,f,ab,af,aN,j,C,G⟩:=d;unfold pZ at e;obtain⟨a,az,rfl⟩:=ik.mp e;exact⟨v,f,ab,af,aN,j,C,Nm az G⟩
 |.s _::_,_,_,_,e,_=>by trivial
def AP (aA:i7)(du:hb)(g:iw)(G:bY aX iK)(body:lh):bY aX eY:=G.aC λb e=>match pZ b with
 |some a=>(match du.w a with
  |.i c=>(match hM g c with
   |some m=>nd (λe X=>match i0 aA e g.is X with |some d=>body d |none=>.aQ) m e|none=>.aQ)
  |_=>.aQ)
 |none=>.aQ
theorem aak {aA:i7}{du:hb}{g:iw}{G:bY aX iK}{body:lh}(U:∀O,aA O=ax->aD O=k)(V:q8 J bE l aD x G)(W:∀e,hi J A l aD e (body e)):hi J (Dn (du.n J bE) (pP J g) A) l aD x (AP aA du g G body):=by
 intro bA bk o F Y R bw d ok b;refine V bA bk o F Y R _ d ok ?_;cases G with
 |aQ=>exact b|aW Q e=>exact λF Y R d ok=>b o F Y R d ok|i L e=>
  intro c bB Z aa ab ar ac ag j ah _
  have b:oY J (match pZ L with
   |some a=>(match du.w a with
    |.i w=>(match hM g w with
     |some m=>nd (λe X=>match i0 aA e g.is X with |some f=>body f |none=>.aQ) m e|none=>.aQ)
    |_=>.aQ)
   |none=>.aQ) l aD bA bk bw:=b
  cases aN:pZ L with
  |none=>rw[aN]at b;exact b.elim|some a=>
   rw[aN]at b;dsimp only at b;obtain⟨aj,ak,M⟩:=Nl (Nm aN ag) j ah;cases az:du.w a with
   |aQ=>rw[az]at b;exact b.elim|aW Q=>rw[az]at b;exact b.elim|i w=>
    rw[az]at b;dsimp only at b;cases B:hM g w with
    |none=>rw[B]at b;exact b.elim|some m=>
     rw[B]at b;dsimp only at b;refine MS (l:=l) du a c o (aH bB Z) ar _ M.1.2.1 aj ?_;rw[az];intro ao a5 x2 aI N;have P:=M.eU x2;obtain⟨s,al⟩:=Fe B;have q:fO bA bk ao a5:=P.1
     refine⟨λz h o R=>h=m.length-z/\z<=m.length/\∃e F Y,cY (eE J aD e) o F Y/\dm ao bk F Y R/\oY J (nd (λe X=>match i0 aA e g.is X with |some f=>body f |none=>.aQ) (m.drop z) e) l aD bA bk bw,
      ⟨_,rfl,jl _,e,ao,aa,ac.bJ (ak.b_ x2.1),P.Ww q (bu.fc _),b⟩,?_⟩
     rintro z h o R ⟨rfl,aJ,e,F,Y,d,ok,b⟩;have bh:bu ao R:=ok.1.1.b_ ok.1.2.1;by_cases u:z<m.length
     ·right
      obtain⟨y,am,lL⟩:=al z m[z] (gd u);obtain⟨an,ap⟩:=N.eC z R y bh am;refine⟨an,λn aq=>z+1<=m.length/\∃e F Y,cY (eE J aD e) n F Y/\dm ao bk F Y aq/\oY J (nd (λe X=>match i0 aA e g.is X with |some f=>body f |none=>.aQ) (m.drop (z+1)) e) l aD bA bk bw,λn aq I=>⟨m.length-(z+1),by lia,rfl,I⟩,λv D as=>?_⟩
      obtain⟨T,x3,au⟩:=ap v D as F ok.1.1 ok.1.2.1;refine Ml g m[z] v o T D _ x3.2.1 (Mm lL au) λc av=>?_
      rw[rF u]at b;unfold nd at b;cases aw:i0 aA e g.is m[z]with
      |none=>rw[aw]at b;exact b.elim|some f=>
       rw[aw]at b;refine W f ao bk _ T Y D _ (FL U aw av (d.bJ x3.1)) (ok.eU x3) ?_;dsimp only[bY.aC]at b;cases K:body f with
       |aQ=>rw[K]at b;exact b|aW Q az=>rw[K]at b;exact λo F Y R d ok=>b o F Y R d (ok.z0 q)|i C az=>
        rw[K]at b;cases C with
        |de=>exact λn a4 aE aq r t=>⟨u,az,a4,aE,r,t,b⟩|iC=>exact λn a4 aE aq r t=>⟨u,az,a4,aE,r,t,b⟩|gE=>exact λn a4 aE aq r t=>b n a4 aE aq r (t.z0 q)|en S=>exact λv o F ay af Y R aB aC aF ok=>b v o F ay af Y R aB aC aF (ok.z0 q)
     ·left
      have aG:z=m.length:=by lia
      subst aG;rw[vI]at b;exact⟨by rw[s];exact N.pw R bh,b o F Y R d (ok.z0 q)⟩
set_option genSizeOf false
set_option genSizeOfSpec false
set_option bootstrap.genMatcherCode false
noncomputable section
open Classical
def AQ (G:bY aX eY):bY aX eY:=match G with |.aW _ _=>.aQ |G=>G
end
def nf (Q:aX->mZ)(body:lh):Nat->aX->bY aX eY
 |0,_=>.aQ|z+1,e=>oZ e (Q e) ((body e).aC λC a=>match C with |.de=>nf Q body z a |.iC=>nf Q body z a |.gE=>.i .de a |.en y=>.i (.en y) a) (.i .de e)
theorem aal {ht:f7}(z:Nat){Q:aX->mZ}{body:lh}(q:∀e,mn J ht l (g9 J e) (Q e))(r:∀e,hi J A l aD e (body e)):hi J (Dk ht A) l aD x (nf Q body z x):=by
 intro bA bk o F Y R bw c ok a;refine⟨λh o R=>∃e F Y,cY (eE J aD e) o F Y/\dm bA bk F Y R/\oY J (nf Q body h e) l aD bA bk bw,⟨z,x,F,Y,c,ok,a⟩,?_⟩
 rintro h o R ⟨e,F,Y,c,ok,a⟩;cases h with
 |zero=>exact a.elim|succ h=>
  unfold nf at a;refine q e o _ R _ (qY (c.qN ok.2.1)) ok.qQ ?_;cases ec:Q e with
  |aQ=>rwa[ec]at a|aW X=>rw[ec]at a;exact λa4 aq t=>(a o _ _ _ (c.bJ (ok.d1 t).2.1) (ok.d1 t).1).d1 ok t|i b=>
   rw[ec]at a;intro a4 aq t;obtain⟨C,m,v⟩:=ok.d1 t;cases b with
   |false=>exact a o _ Y aq (c.bJ m) C|true=>
    refine⟨λg n=>∃e F Y,cY _ g F Y/\dm bA bk F Y n/\oY J _ l aD bA bk bw,λg n I=>⟨h,vO _,I⟩,?_⟩
    refine r e bA bk o _ Y aq _ (c.bJ m) C ?_;have d:oY J ((body e).aC λC f=>match C with |.de=>nf Q body h f |.iC=>nf Q body h f |.gE=>.i _ f |.en y=>.i _ f) l aD bA bk bw:=a
    cases j:body e with
    |aQ=>rwa[j]at d|aW X az=>rwa[j]at d|i C az=>
     rw[j]at d;cases C with
     |gE=>exact d|en S=>exact d |_=>exact λg a4 aE aq s u=>⟨az,a4,aE,s,u,d⟩
theorem AR:∀{a:iK}{c:a3}{Y:aj},oU J o F R a c Y->c.length=a.length
 |[],_,_,G=>by rw[G.1];rfl
 |.y y::a,_,_,G=>by obtain⟨v,b,ab,af,e,j,C,G⟩:=G;rw[e,ee,ee,AR G]
 |.s V::a,_,_,G=>by obtain⟨u,v,b,e,aN,w,G⟩:=G;rw[e,ee,ee,AR G]
end
section
variable {J:i5}{l:b4}{F a4 bA bB ao bk Y ab af br D R aq ar a5:aj}{y Q:ai}{a:bf}{v u:aL}{aa c:a3}{N:aV}{q:bX}{x:aX}{n:bN}{aD:iv}{o:L2.bU}{ah:ft}{V:hg}{w:b0}{A:fY}{O:Nat}
theorem bF.snoc:∀{a:bf}{aa:a3}{ab Y:aj},bF J a aa F ab->bx J y v F af->cG ab af Y->bF J (a++[y]) (aa++[v]) F Y
 |[],_,ab,Y,V,C,j=>by
  rw[V.1];have:Y=af:=by rw[ix j];funext N;unfold aH;rw[V.2 N]
  subst this;exact⟨v,[],Y,λ_=>k,rfl,gX _ λ_=>rfl,C,⟨rfl,λ_=>rfl⟩⟩
 |e::aw,_,ab,Y,V,C,j=>by
  obtain⟨r,aD,b,g,rfl,c,S,G⟩:=V;obtain⟨h,d,f⟩:=iI c j;exact⟨r,aD++[v],b,h,rfl,f,S,bF.snoc G C d⟩
theorem bF.uU:∀{a aw:bf}{aa aD:a3}{ab af Y:aj},bF J a aa F ab->bF J aw aD F af->cG ab af Y->bF J (a++aw) (aa++aD) F Y
 |[],aw,_,aD,ab,af,Y,V,C,j=>by
  rw[V.1];have:Y=af:=by rw[ix j];funext N;unfold aH;rw[V.2 N]
  subst this;exact C
 |e::a,aw,_,aD,ab,af,Y,V,C,j=>by
  obtain⟨r,b,c,i,rfl,d,S,G⟩:=V;obtain⟨h,f,g⟩:=iI d j;exact⟨r,b++aD,c,h,rfl,g,S,bF.uU G C f⟩
theorem AS {C bS:fF}{w x D:aj}{dc:bf}(f:bu F R)(g:cS F Y)(h:bu Y R)(i:∀N m,Y N≠E (.a_ m))(d:cG (cN N C) D Y)(j:∀m,bS≠.a_ m){y:ai}{v:aL}{a af:aj}(l:cG a af (aH (cN N bS) D))
  (n:bx J y v F a) (o:bF J dc c F af) (r:∀v a4 aE aq a af,dm F (f9 R Y) a4 aE aq->cG a af aE->bx J y v a4 a->bF J dc c a4 af->q v aq):q v (b8 R N bS):=by
 have s:=uP f g h i;have t:Y N≠k:=by rw[d.s _ _ jy];exact fE _
 have u:=Eh (n:=Y) (o:=Y) (aE:=Y) s t j (aH (cN N bS) D) λV=>by
  unfold aH;rw[jW];by_cases e:V=N
  ·rw[if_pos e,if_pos e]
  ·rw[if_neg e,if_neg e]
   rcases d V with⟨_,b⟩|⟨S,b⟩
   ·exact b.symm
   ·rw[S,b,jW,if_neg e]
 exact r v F _ _ a af u l n o
def s_ (J:cH)(G:aL->a3->aj->bX->Prop)(w:b0):Prop:=∀X m R q l,fJ J w (X::m) R q l->G X m R q
def q9:b0:=λa=>match a with
 |[.au .aG m,y]=>if m.length<cw then .i .a9 [.au .aG (m++[y]),.eO]else .aQ
 |_=>.aQ
theorem ta (b:bF J a c F Y):∀N m,Y N≠E (.a_ m):=bx.lO.eC b
theorem p0 {Y:aj}(a:∀N,Y N=k):bx J .a9 .a9 F Y:=by trivial
theorem aam:s_ J DC q9:=by
 rintro X m R q l ⟨F,Y,a,i,j,f,b,c⟩;have n:=ta b;unfold q9 at c;split at c
 ·rename_i aS y
  split at c
  ·rename_i o
   unfold bF at b;obtain⟨r,aD,M,s,aN,u,g,b⟩:=b;cases aN;unfold bF at b;obtain⟨t,O,ez,dC,az,v,w,b⟩:=b;cases az;unfold bF at b;obtain⟨rfl,x⟩:=b;unfold bx at g;obtain⟨N,aa,z,P,rfl,bZ,A,h⟩:=g;have B:z=cN N (.aG aa):=bZ;subst B;have D:s=ez:=by rw[ix v];funext V;unfold aH;cases I:ez V with |none=>exact x V |some C=>rfl
   subst D;obtain⟨S,G,d⟩:=iI A u;have K:R N=E (.aG aa):=f _ _ (d.s _ _ jy);refine⟨N,aa,t,rfl,rfl,K,by rw[<- bF.b6 h];exact o,?_⟩
   have L:cS (cN N (.aG (aa++[t]))) S:=λV=>by
    rw[jW];split
    ·rename_i e;subst e;right;exact(by rcases d.fQ V with I |I;rw[jy]at I;cases I;exact I)
    ·exact .inl rfl
   refine AS (c:=[.a0 N,t]) (dc:=[.au .aG (aS++[y]),.eO]) (a:=λ_=>k) (af:=aH (cN N (.aG (aa++[t]))) S) (w:=Y) (x:=Y) i j f n d (λm I=>by cases I) (hh _ λ_=>rfl) (p0 λ_=>rfl) ?_ c
   unfold bF;refine⟨.a0 N,[t],_,λ_=>k,rfl,gX _ λ_=>rfl,?_,?_⟩
   ·unfold bx
    exact⟨N,aa++[t],_,S,rfl,rfl,fH L,bF.snoc h w G⟩
   ·unfold bF
    exact⟨t,[],λ_=>k,λ_=>k,rfl,gX _ λ_=>rfl,nV λ_=>rfl,by unfold bF;exact⟨rfl,λ_=>rfl⟩⟩
  ·exact c.elim
 ·exact c.elim
theorem FN {D:h_}{aS d:bf}{X:aL}{m:a3}(a:bF J (.au D aS::d) (X::m) F Y):∃N aa b c e S,X=.a0 N/\mu J D N aa F b/\cG b S Y/\cG c e S/\bF J aS aa F c/\bF J d m F e:=by
 unfold bF at a;obtain⟨r,aD,o,g,aN,h,f,a⟩:=a;cases aN;unfold bx at f;obtain⟨N,aa,b,c,rfl,bZ,i,j⟩:=f;obtain⟨S,l,n⟩:=iI i h;exact⟨N,aa,b,c,g,S,rfl,bZ,n,l,j,a⟩
theorem q_ {C bS:fF}{S:aj}(a:cG (cN N C) S Y):cS (cN N bS) S:=λV=>by
 rw[jW];split
 ·rename_i e;subst e;right;rcases a.fQ V with I |I
  ·rw[jy]at I;cases I
  exact I
 exact .inl rfl
theorem FO {e f:bf}{a:a3}{m:a3}{S b c:aj}(g:cS (cN N (.aG a)) S)(d:cG c b S)(i:bF J e a F c)(j:bF J f m F b):bF J (.au .aG e::f) (.a0 N::m) F (aH (cN N (.aG a)) S):=by
 have h:cS (cN N (.aG a)) c:=λV=>by rcases g V with I |I;exact .inl I;exact .inr (d.s.ck I)
 have l:cS (cN N (.aG a)) b:=λV=>by rcases g V with I |I;exact .inl I;exact .inr (d.G.ck I)
 unfold bF;refine⟨.a0 N,m,aH (cN N (.aG a)) c,b,rfl,?_,?_,j⟩
 ·have:=AM h l d.fQ
  rw[<- ix d]at this;exact this
 ·unfold bx
  exact⟨N,a,_,c,rfl,rfl,fH h,i⟩
theorem aan {t:aL}:bF J [.eO] [t] F (λ_=>k):=⟨t,[],λ_=>k,λ_=>k,rfl,gX _ λ_=>rfl,nV λ_=>rfl,⟨rfl,λ_=>rfl⟩⟩
theorem Nn:∀{a:bf}{aa:a3},a.length=aa.length->bF J (a.map λ_=>.eO) aa F (λ_=>k)
 |[],[],_=>⟨rfl,λ_=>rfl⟩|y::a,u::aa,s=>⟨u,aa,λ_=>k,λ_=>k,rfl,gX _ λ_=>rfl,nV λ_=>rfl,Nn (by simpa using s)⟩|[],_::_,s=>by simp at s
 |_::_,[],s=>by simp at s
theorem xo:bF J [] [] F (λ_=>k):=⟨rfl,λ_=>rfl⟩
theorem xp {t:aL}(ab:bF J [y] [t] F Y):bx J y t F Y:=by
 obtain⟨v,c,a,b,e,j,C,G⟩:=ab;cases e;have:Y=a:=by rw[ix j];funext V;unfold aH;cases I:a V with |none=>exact G.2 V |some C=>rfl
 rwa[this]
theorem FP {m:a3}(ab:bF J [y] m F Y):∃t,m=[t]:=qg.mp (bF.b6 ab).symm
theorem Np {s:a3}(Y:s.length=2):∃S b,s=[S,b]:=by
 obtain⟨S,n,rfl⟩:=j5 Y;obtain⟨b,rfl⟩:=qg.mp (fD Y);exact⟨S,b,rfl⟩
theorem Nq {s:a3}(Y:s.length=3):∃S b Q,s=[S,b,Q]:=by
 obtain⟨S,n,rfl⟩:=j5 Y;obtain⟨b,Q,rfl⟩:=Np (fD Y);exact⟨S,b,Q,rfl⟩
def tb:b0:=λa=>match a with
 |[.au .aG m,.au .aG aS]=>if m.length+aS.length<=cw then .i .a9 [.au .aG (m++aS),.au .aG (aS.map λ_=>.eO)]else .aQ
 |[.au .aG m,.aK y]=>(match y.aH with |.au .aG aS=>if m.length+aS.length<=cw then .i .a9 [.au .aG (m++aS.map .bO),.eO]else .aQ |_=>.aQ)|_=>.aQ
theorem aao {a:bf}{l:b4}{F R:aj}{c:a3}{q:aL->aj->Prop}(b:E_ J (tb a) l F R c q):(∃aS d,a=[.au .aG aS,.au .aG d])\/∃aS y,a=[.au .aG aS,.aK y]:=by
 cases a with
 |nil=>exact b.elim|cons Q a=>cases Q with
  |au D aS=>cases D with
   |aG=>cases a with
    |nil=>exact b.elim|cons y a=>cases y with
     |au D d=>cases D with
      |aG=>cases a with
       |nil=>exact .inl ⟨_,_,rfl⟩|cons=>exact b.elim
      |_=>exact b.elim
     |aK y=>cases a with
      |nil=>exact .inr ⟨_,_,rfl⟩|cons=>exact b.elim
     |_=>exact b.elim
   |_=>exact b.elim
  |_=>exact b.elim
theorem aap:s_ J DE tb:=by
 rintro X m R q l ⟨F,Y,a,r,D,f,s,b⟩;have K:=ta s;rcases aao b with⟨aS,n,rfl⟩|⟨aS,y,rfl⟩<;>unfold tb at b<;>dsimp only at b
 ·
  split at b
  ·rename_i u
   obtain⟨N,aa,v,w,M,S,rfl,bZ,d,o,g,i⟩:=FN s;have x:v=cN N (.aG aa):=bZ;subst x;obtain⟨t,rfl⟩:=FP i;have j:=xp i;unfold bx at j;obtain⟨c7,c,af,ah,rfl,O,L,A⟩:=j;have az:af=cN c7 (.aG c):=O;subst az;have B:R N=E (.aG aa):=f _ _ (d.s _ _ jy);have P:R c7=E (.aG c):=f _ _ (d.G _ _ (o.G _ _ (L.s _ _ jy)));refine⟨N,c7,aa,c,rfl,rfl,B,P,by rw[<- bF.b6 g,<- bF.b6 A];exact u,?_⟩
   obtain⟨h,Q,T⟩:=iI (jc L) (jc o);obtain⟨U,W,Z⟩:=iI Q (jc T);have ab:=bF.uU g A W;have ac:cG U (cN c7 (.aG c)) S:=jc Z;refine AS (c:=[.a0 N,.a0 c7]) (dc:=[.au .aG (aS++n),.au .aG (n.map λ_=>.eO)]) (a:=λ_=>k) (af:=aH (cN N (.aG (aa++c))) S) (w:=Y) (x:=Y) r D f K d (λm I=>by cases I) (hh _ λ_=>rfl) (p0 λ_=>rfl) (FO (q_ d) ac ab ?_) b
   unfold bF;refine⟨.a0 c7,[],_,λ_=>k,rfl,gX _ λ_=>rfl,?_,xo⟩
   unfold bx;exact⟨c7,c,_,λ_=>k,rfl,rfl,gX _ λ_=>rfl,Nn (bF.b6 A)⟩
  ·exact b.elim
 ·
  split at b
  ·rename_i n e
   split at b
   ·rename_i u
    obtain⟨N,aa,v,w,M,S,rfl,bZ,d,o,g,i⟩:=FN s;have x:v=cN N (.aG aa):=bZ;subst x;obtain⟨t,rfl⟩:=FP i;have j:=xp i;unfold bx at j;obtain⟨dC,bR⟩:=j;have bR:=bz.aH bR;rw[show(ai.aK y).aH=y.aH from by rw[ai.aH],e]at bR
    obtain⟨c7,c,rfl,z,G⟩:=bR.au;have B:R N=E (.aG aa):=f _ _ (d.s _ _ jy);refine⟨N,c7,aa,c,rfl,rfl,B,r _ _ z,by rw[<- bF.b6 g,<- G.b6];exact u,?_⟩
    have ag:S=w:=by rw[ix o];funext V;unfold aH;cases I:w V with |none=>exact dC V |some C=>rfl
    subst ag;exact AS (c:=[.a0 N,.a0 c7]) (dc:=[.au .aG (aS++n.map ai.bO),.eO]) (a:=λ_=>k) (af:=aH (cN N (.aG (aa++c))) S) (w:=Y) (x:=Y) r D f K d (λm I=>by cases I) (hh _ λ_=>rfl) (p0 λ_=>rfl) (FO (q_ d) (gX _ λ_=>rfl) (bF.uU g (bF.bO (Y:=λ_=>k) (λ_=>rfl) G) (gX _ λ_=>rfl)) aan) b
   ·exact b.elim
  ·exact b.elim
theorem bF.erase:∀{a:bf}{aa:a3}{Y:aj}{O:Nat}{Q:ai},bF J a aa F Y->a[O]?=E Q->∃u ab af,aa[O]?=E u/\cG ab af Y/\bx J Q u F ab/\bF J (a.eraseIdx O) (aa.eraseIdx O) F af
 |[],_,_,_,_,_,e=>by simp at e
 |y::a,_,Y,0,Q,V,e=>by
  obtain⟨v,c,ab,af,rfl,j,S,G⟩:=V;simp at e;subst e;exact⟨v,ab,af,rfl,j,S,G⟩
 |y::a,_,Y,O+1,Q,V,e=>by
  obtain⟨v,c,ab,af,rfl,j,S,G⟩:=V;obtain⟨u,b,d,aN,f,g,w⟩:=bF.erase G (by simpa using e)
  obtain⟨h,i,l⟩:=iI f (jc j);refine⟨u,b,h,by simpa using aN,l,g,?_⟩
  rw[List.eraseIdx_cons_succ];exact⟨v,c.eraseIdx O,ab,d,rfl,jc i,S,w⟩
def AU:b0:=λa=>match a with
 |[.au .aG m,.d O]=>if -(2 ^ 63)<=O/\O<2 ^ 63 then(match h8 m.length O with |some j=>(match m[j]? with |some y=>.i y [.au .aG (m.eraseIdx j),.d O]|none=>.aQ)|none=>.aQ)else .aQ
 |_=>.aQ
theorem aaq:s_ J DF AU:=by
 rintro X m R q l ⟨F,Y,a,z,A,i,n,b⟩;have B:=ta n;unfold AU at b;split at b
 ·rename_i aS O
  split at b
  ·rename_i aB
   obtain⟨N,aa,D,o,Z,S,rfl,bZ,c,G,s,u⟩:=FN n;have K:D=cN N (.aG aa):=bZ;subst K;obtain⟨t,rfl⟩:=FP u;have w:=xp u;unfold bx at w;obtain⟨dC,bR⟩:=w;cases bR.d;cases f:h8 aS.length O with
   |none=>rw[f]at b;exact b.elim|some j=>
    rw[f]at b;dsimp only at b;cases g:aS[j]? with
    |none=>rw[g]at b;exact b.elim|some y=>
     rw[g]at b;dsimp only at b;obtain⟨r,h,x,L,e,M,P⟩:=bF.erase s g;have Q:S=o:=by rw[ix G];funext V;unfold aH;cases I:o V with |none=>exact dC V |some C=>rfl
     subst Q;have T:=bF.b6 s;refine⟨N,aa,O,j,r,rfl,rfl,i _ _ (c.s _ _ jy),aB.1,aB.2,by rw[<- T];exact(zt f).1,L,?_⟩
     have U:cS (cN N (.aG (aa.eraseIdx j))) h:=λV=>by rcases q_ (bS:=.aG (aa.eraseIdx j)) c V with I |I;exact .inl I;exact .inr (e.s.ck I)
     have W:cS (cN N (.aG (aa.eraseIdx j))) x:=λV=>by rcases q_ (bS:=.aG (aa.eraseIdx j)) c V with I |I;exact .inl I;exact .inr (e.G.ck I)
     refine AS (c:=[.a0 N,.d O]) (dc:=[.au .aG (aS.eraseIdx j),.d O]) (y:=y) (v:=r) (a:=h) (af:=aH (cN N (.aG (aa.eraseIdx j))) x) (w:=Y) (x:=Y) z A i B c (λm I=>by cases I) ?_ M (FO W (gX _ λ_=>rfl) P ?_) b
     ·rw[ix e]
      intro V;unfold aH;cases x1:cN N (.aG (aa.eraseIdx j)) V with
      |some C=>
       left;rcases U V with I |I
       ·rw[I]at x1;cases x1
       ·exact⟨I,rfl⟩
      |none=>
       cases x2:h V with
       |some C=>
        right;rcases e.fQ V with I |I
        ·rw[I]at x2;cases x2
        ·exact⟨I,rfl⟩
       |none=>left;exact⟨rfl,rfl⟩
     ·unfold bF
      exact⟨.d O,[],λ_=>k,λ_=>k,rfl,gX _ λ_=>rfl,by unfold bx;exact⟨λ_=>rfl,by unfold bz;rfl⟩,xo⟩
  ·exact b.elim
 ·exact b.elim
theorem FQ {b c:ai}{d:bf}{X t:aL}{m:a3}(a:bF J (b::c::d) (X::t::m) F Y):∃ab af br S,cG ab S Y/\cG af br S/\bx J b X F ab/\bx J c t F af/\bF J d m F br:=by
 obtain⟨r,aD,e,f,aN,g,h,a⟩:=a;cases aN;obtain⟨l,n,ez,dC,az,i,j,a⟩:=a;cases az;exact⟨e,ez,dC,f,g,i,h,j,a⟩
def aar:ua:=λC O v R q=>sq C O R λS ba D=>ba.length<cw/\q (b8 R S (.ey (jx ba D v)))
def xq:ua:=λC O v R q=>KC C O v R q\/aar C O v R q
theorem aas {H:bQ}(j:H.p.units+60<cLine):zc H xq:=by
 intro ag A o R C O v e f u q a b c d Y;rcases Y with Y |Y
 ·exact VF ag A o R C O v e f u q a b c d Y
 ·obtain⟨S,ba,D,rfl,rfl,g,h,V⟩:=KZ Y
  cases b;exact V3 (by lia) a (zU.D g h) c d λl i=>⟨_,i,V⟩
def ng:b0:=λa=>match a with
 |[v,.au .aG m,.d O]=>(match h8 m.length O with |some j=>.i .a9 [.eO,.au .aG (m.set j v),.d O]|none=>.aQ)|[v,.au (.gy b) m,D]=>(match m4 D with
  |some c=>if gK b c<b.length/\m.length<cw then .i .a9 [.eO,.au (.gy b) (m.set (gK b c) v),D]else if m.length<cw/\¬gK b c<b.length then .i .a9 [.eO,.au (.gy (b++[c])) (m++[v]),D]else .aQ
  |none=>.aQ)
 |_=>.aQ
theorem AV {C bS:fF}{D h:aj}{dc:bf}(f:bu F R)(g:cS F Y)(i:bu Y R)(j:∀N m,Y N≠E (.a_ m))(d:cG (cN N C) D Y)(l:∀m,bS≠.a_ m)(n:bu h (aH (cN N bS) D)){y:ai}{v:aL}{a af:aj}(o:cG a af h)
  (r:bx J y v F a) (s:bF J dc c F af) (t:∀v a4 aE aq a af,dm F (f9 R Y) a4 aE aq->cG a af aE->bx J y v a4 a->bF J dc c a4 af->q v aq):q v (b8 R N bS):=by
 exact t v F _ _ a af (wU (Eh (n:=Y) (o:=Y) (aE:=Y) (uP f g i j) (by rw[d.s _ _ jy];exact fE _) l _ λV=>by
  unfold aH;rw[jW];by_cases e:V=N
  ·rw[if_pos e,if_pos e]
  ·rw[if_neg e,if_neg e]
   rcases d V with⟨_,b⟩|⟨S,b⟩
   ·exact b.symm
   rw[S,b,jW,if_neg e]) n) o r s
theorem AW:∀{a:jq}{D:d9},gK a D<a.length↔D∈a
 |[],D=>by simp[gK]
 |b::a,D=>by
  unfold gK;by_cases e:b=D
  ·subst e;simp
  ·rw[if_neg e,ee,Nat.succ_lt_succ_iff,AW,df]
   exact⟨.inr,λI=>by rcases I with I |I;exact absurd I.symm e;exact I⟩
theorem aat:∀{c:jq}{aa:a3}{D:d9}{v:aL},D∈c->c.Nodup->c.length=aa.length->jx (c.zip aa) D v=c.zip (aa.set (gK c D) v):=λ{c aa D v} d j g=>by
 have h:((c.zip aa).any λl=>decide (l.1=D))=ae:=by
  rw[yA];obtain⟨O,aB,e⟩:=Ct d;exact⟨(c[O],aa[O]'(by lia)),qh (i:=O) (by rw[H8];exact⟨by rw[gd aB],by rw[gd]⟩),by simpa using e⟩
 unfold jx;rw[if_pos h];clear h;induction c generalizing aa with
 |nil=>simp at d|cons f c m=>
  cases aa with
  |nil=>simp at g|cons u aa=>
   obtain⟨ez,dC⟩:=qo.mp j;rw[j7,eR];unfold gK;by_cases e:f=D
   ·subst e
    rw[if_pos rfl,if_pos rfl,vH,j7];congr 1;have:∀V∈c.zip aa,(if V.1=f then(V.1,v)else V)=V:=λV n=>by
     have ab:=(rI (a:=V.1) (b:=V.2) n).1;rw[if_neg (show¬V.1=f from λI=>ez (I ▸ ab))]
    exact(qi this).trans (vM _)
   ·rw[if_neg e,if_neg e,yx,j7]
    congr 1;exact m (by rcases df.mp d with I |I;exact absurd I.symm e;exact I) dC (by simpa using g)
theorem Nr {a:jq}{aa:a3}{D:d9}{v:aL}(b:D∉a)(c:a.length=aa.length):jx (a.zip aa) D v=(a++[D]).zip (aa++[v]):=by
 have d:¬((a.zip aa).any λf=>decide (f.1=D))=ae:=by
  rw[yA];rintro⟨V,g,e⟩;exact b (by have:=(rI g).1;simp_all)
 unfold jx;rw[if_neg d,List.zip_append c];rfl
theorem ra {D:h_}{aS:bf}(C:bx J (.au D aS) v F Y):∃N aa a b,v=.a0 N/\mu J D N aa F a/\cG a b Y/\bF J aS aa F b:=by unfold bx at C;exact C
theorem AX {S b Q:ai}{X t I:aL}{ab af br h:aj}(a:bx J S X F ab)(c:bx J b t F af)(d:bx J Q I F br)(e:cG af br h)(f:cG ab h Y):bF J [S,b,Q] [X,t,I] F Y:=⟨X,[t,I],ab,h,rfl,f,a,⟨t,[I],af,br,rfl,e,c,⟨I,[],br,λ_=>k,rfl,gX _ λ_=>rfl,d,xo⟩⟩⟩
theorem aau {X C O:aL}{x:aj->Prop}(aF:fJ J ng [X,C,O] R (λv aq=>v=.a9->x aq) l):xq C O X R x:=by
 obtain⟨F,Y,a,W,Z,z,ac,c⟩:=aF;have ag:=ta ac;unfold ng at c;split at c
 ·rename_i ah aS az
  obtain⟨ab,af,br,S,ak,al,L,am,n⟩:=FQ ac;have n:=xp n;unfold bx at n;obtain⟨A,an⟩:=n;cases an.d;obtain⟨N,aa,aA,ao,rfl,bZ,ap,s⟩:=ra am;have ar:aA=cN N (.aG aa):=bZ;subst ar;have as:S=af:=by rw[ix al];funext V;unfold aH;cases I:af V with |none=>exact A V |some C=>rfl
  subst as;cases M:h8 aS.length az with
  |none=>rw[M]at c;exact c.elim|some j=>
   rw[M]at c;dsimp only at c;have aG:=(zt M).2.1;obtain⟨u,aI,i,aJ,B,aK,g⟩:=bF.focus s (gd aG);obtain⟨h,t,o⟩:=iI ap (jc ak);have av:cS ab ao:=λV=>(t.fQ V).symm
   have aw:cS ab i:=λV=>by rcases av V with I |I;exact .inl I;exact .inr (B.G.ck I)
   have on:=g ah F X ab (aH ab i) (bu.fc _) L (fH aw);have P:R N=E (.aG aa):=z _ _ (o.s _ _ jy);have G:bu (aH ab i) h:=λV C e=>by
    unfold aH at e;cases I:ab V with
    |some r=>rw[I]at e;cases e;exact t.G _ _ I|none=>rw[I]at e;exact t.s _ _ (B.G _ _ e)
   have K:cS (cN N (.aG (aa.set j X))) (aH ab i):=λV=>by
    rcases q_ (bS:=.aG (aa.set j X)) o V with I |I
    ·exact .inl I
    ·exact .inr (G.ck I)
   refine .inl ⟨aa,P,?_⟩;rw[<- bF.b6 s,M];refine AV (c:=[X,.a0 N,.d az]) (h:=aH (cN N (.aG (aa.set j X))) (aH ab i)) (y:=.a9) (v:=.a9) (q:=λv aq=>v=.a9->x aq) (a:=λ_=>k) W Z z ag o (λm I=>by cases I) (λV C e=>?_) (hh _ λ_=>rfl) (p0 λ_=>rfl) (AX (nV λ_=>rfl) ?_ (by unfold bx;exact⟨λ_=>rfl,by unfold bz;rfl⟩) (gX _ λ_=>rfl) (hh _ λ_=>rfl)) c rfl
   ·unfold aH at e ⊢
    cases I:cN N (.aG (aa.set j X)) V with
    |some r=>rw[I]at e;exact e|none=>rw[I]at e;exact G _ _ e
   ·unfold bx
    exact⟨N,aa.set j X,_,aH ab i,rfl,rfl,fH K,on⟩
 ·rename_i ah f aS aB
  obtain⟨ab,af,br,S,ak,al,L,am,n⟩:=FQ ac;have n:=xp n;obtain⟨N,aa,aA,ao,rfl,bZ,ap,s⟩:=ra am;obtain⟨ar,w,au⟩:=bZ;subst ar;cases T:m4 aB with
  |none=>rw[T]at c;exact c.elim|some q=>
   rw[T]at c;dsimp only at c;have aM:(∀V,br V=k)/\bz J aB O F:=by
    have:∀{y:ai}{D:d9},m4 y=E D->y.eU=ae:=λ{y}=>by
     cases y with
     |au=>intro D e;cases e
     |_=>intro D e;rfl
    exact bx.eU (this T) n
   obtain⟨A,an⟩:=aM;have aC:=w7 T an;have as:S=af:=by rw[ix al];funext V;unfold aH;cases I:af V with |none=>exact A V |some C=>rfl
   subst as;obtain⟨h,t,o⟩:=iI ap (jc ak);have P:R N=E (.ey (f.zip aa)):=z _ _ (o.s _ _ jy);have av:cS ab ao:=λV=>(t.fQ V).symm
   split at c
   ·rename_i aN
    obtain⟨U,ay⟩:=aN;have aP:gK f q<aS.length:=by rw[bF.b6 s,<- w];exact U
    obtain⟨u,aI,i,aJ,B,aK,g⟩:=bF.focus s (gd aP);have aw:cS ab i:=λV=>by rcases av V with I |I;exact .inl I;exact .inr (B.G.ck I)
    have on:=g ah F X ab (aH ab i) (bu.fc _) L (fH aw);have G:bu (aH ab i) h:=λV C e=>by
     unfold aH at e;cases I:ab V with
     |some r=>rw[I]at e;cases e;exact t.G _ _ I|none=>rw[I]at e;exact t.s _ _ (B.G _ _ e)
    have K:cS (cN N (.ey (f.zip (aa.set (gK f q) X)))) (aH ab i):=λV=>by
     rcases q_ (bS:=.ey (f.zip (aa.set (gK f q) X))) o V with I |I
     ·exact .inl I
     ·exact .inr (G.ck I)
    refine .inr (Ap rfl aC.1 P ⟨?_,?_⟩)
    ·rw[qn,w,rO,<- bF.b6 s];exact ay
    ·rw[aat (AW.mp U) au w]
     refine AV (c:=[X,.a0 N,O]) (h:=aH (cN N (.ey (f.zip (aa.set (gK f q) X)))) (aH ab i)) (y:=.a9) (v:=.a9) (q:=λv aq=>v=.a9->x aq) (a:=λ_=>k) W Z z ag o (λm I=>by cases I) (λV C e=>?_) (hh _ λ_=>rfl) (p0 λ_=>rfl) (AX (nV λ_=>rfl) ?_ n (λV=>.inr ⟨A V,rfl⟩) (hh _ λ_=>rfl)) c rfl
     ·unfold aH at e ⊢
      cases I:cN N (.ey (f.zip (aa.set (gK f q) X))) V with
      |some r=>rw[I]at e;exact e|none=>rw[I]at e;exact G _ _ e
     ·unfold bx
      exact⟨N,aa.set (gK f q) X,_,aH ab i,rfl,⟨rfl,by rw[vF];exact w,au⟩,fH K,on⟩
   ·split at c
    ·rename_i ay
     obtain⟨aQ,U⟩:=ay;have aD:q∉f:=λI=>U (AW.mpr I)
     refine .inr (Ap rfl aC.1 P ⟨by rw[qn,w,rO,<- bF.b6 s];exact aQ,?_⟩)
     rw[Nr aD w];have on:=bF.snoc s L t;have K:=q_ (bS:=.ey ((f++[q]).zip (aa++[X]))) o;refine AV (c:=[X,.a0 N,O]) (h:=aH (cN N (.ey ((f++[q]).zip (aa++[X])))) h) (y:=.a9) (v:=.a9) (q:=λv aq=>v=.a9->x aq) (a:=λ_=>k) W Z z ag o (λm I=>by cases I) (bu.fc _) (hh _ λ_=>rfl) (p0 λ_=>rfl) (AX (nV λ_=>rfl) ?_ n (λV=>.inr ⟨A V,rfl⟩) (hh _ λ_=>rfl)) c rfl
     unfold bx;exact⟨N,aa++[X],_,h,rfl,⟨rfl,by simp[w],yz.mpr ⟨au,by simp,by rintro S aR b aE rfl;simp at aE;subst aE;exact aD aR⟩⟩,fH K,on⟩
    ·exact c.elim
 ·exact c.elim
theorem Nt {bH:aV}{C bS:fF}{D h:aj}{dc:bf}(f:bu F R)(g:cS F Y)(i:bu Y R)(j:∀N m,Y N≠E (.a_ m))(d:cG (jz N bH C) D Y)(l:∀m,bS≠.a_ m)(n:bu h (aH (jz N bH bS) D)){y:ai}{v:aL}{a af:aj}(o:cG a af h)
  (r:bx J y v F a) (s:bF J dc c F af) (t:∀v a4 aE aq a af,dm F (f9 R Y) a4 aE aq->cG a af aE->bx J y v a4 a->bF J dc c a4 af->q v aq):q v (b8 R N bS):=by
 have u:Y N≠k:=by rw[d.s _ _ Ad];exact fE _
 exact t v F _ _ a af (wU (Eh (n:=Y) (o:=Y) (aE:=Y) (uP f g i j) u l (aH (jz N bH bS) D) λV=>by
  unfold aH;rw[sU];by_cases e:V=N
  ·rw[if_pos e,if_pos e]
  ·rw[if_neg e,if_neg e]
   rcases d V with⟨S,b⟩|⟨S,b⟩
   ·rw[sU,if_neg e]at S
    simp_all
   rw[S,b,sU,if_neg e];split<;>(rename_i I;exact I.symm)) n) o r s
theorem Nu:∀{a:cx}{aa:a3}{w:Str}{v:aL},w∈a->a.length=aa.length->ir w v (a.zip aa)=a.zip (aa.set (a.idxOf w) v)
 |[],_,_,_,Y,_=>by simp at Y
 |z::a,[],_,_,_,s=>by simp at s
 |z::a,u::aa,w,v,Y,s=>by
  rw[j7,ir];by_cases e:z=w
  ·simp_all
  rw[if_neg e,Nu (by rcases df.mp Y with I |I;exact absurd I.symm e;exact I) (by simpa using s),Ip,beq_eq_false_iff_ne.mpr e,cond_false,yx,j7]
def rb (w:Str):b0:=λa=>match a with
 |[v,.au (.dI Q b) m]=>if b.length<1000 then(if w∈b then .i .a9 [.eO,.au (.dI Q b) (m.set (b.idxOf w) v)]else .i .a9 [.eO,.au (.dI Q (b++[w])) (m++[v])])else .aQ
 |_=>.aQ
theorem Nv {bH:aV}{C bS:fF}{S:aj}(a:cG (jz N bH C) S Y):cS (jz N bH bS) S:=λV=>by
 rcases a.fQ V with I |I
 ·left
  rw[sU]at I ⊢;lia
 exact .inr I
theorem Nw {S b:ai}{X t:aL}{ab af:aj}(a:bx J S X F ab)(c:bx J b t F af)(d:cG ab af Y):bF J [S,b] [X,t] F Y:=⟨X,[t],ab,af,rfl,d,a,⟨t,[],af,λ_=>k,rfl,gX _ λ_=>rfl,c,xo⟩⟩
theorem aav {X C:aL}{z:Str}{w:ai}{cR:Str}{a:cx}{aS:bf}{j:aj->Prop}(O:AN J (rb z) [w,.au (.dI cR a) aS] [X,C] R (λv aq=>v=.a9->j aq) l):
  ∃S,C=.a0 S/\∃bH av,R S=E (.e1 (da J cR) bH av)/\av.length<1000/\j (b8 R S (.e1 (da J cR) bH (ir z X av))):=by
 obtain⟨F,Y,x,y,q,A,b⟩:=O;have B:=ta A;unfold rb at b;dsimp only at b
 ·split at b
  ·rename_i P
   obtain⟨ab,af,br,S,T,U,D,W,G⟩:=FQ A;obtain⟨N,aa,ao,Z,rfl,bZ,ac,s⟩:=ra W;obtain⟨bH,K,ag,c⟩:=bZ;subst ag;unfold bF at G;have ah:S=af:=by rw[ix U];funext V;unfold aH;cases I:af V with |none=>exact G.2 V |some C=>rfl
   subst ah;obtain⟨h,n,i⟩:=iI ac (jc T);have ak:R N=E (.e1 (da J cR) bH (a.zip aa)):=q _ _ (i.s _ _ Ad);have al:cS ab Z:=λV=>(n.fQ V).symm
   refine⟨N,rfl,bH,a.zip aa,ak,by rw[qn,c,rO,<- c];exact P,?_⟩
   split at b
   ·rename_i o
    have am:a.idxOf z<aS.length:=by rw[bF.b6 s,<- c];exact List.idxOf_lt_length_iff.mpr o
    obtain⟨u,ap,f,ar,L,as,g⟩:=bF.focus s (gd am);have an:cS ab f:=λV=>by rcases al V with I |I;exact .inl I;exact .inr (L.G.ck I)
    have on:=g w F X ab (aH ab f) (bu.fc _) D (fH an);have M:bu (aH ab f) h:=λV C e=>by
     unfold aH at e;cases I:ab V with
     |some r=>rw[I]at e;cases e;exact n.G _ _ I|none=>rw[I]at e;exact n.s _ _ (L.G _ _ e)
    have t:cS (jz N bH (.e1 (da J cR) bH (a.zip (aa.set (a.idxOf z) X)))) (aH ab f):=λV=>by
     rcases Nv (bS:=.e1 (da J cR) bH (a.zip (aa.set (a.idxOf z) X))) i V with I |I
     ·exact .inl I
     ·exact .inr (M.ck I)
    rw[Nu o c];refine Nt (c:=[X,.a0 N]) (h:=aH (jz N bH (.e1 (da J cR) bH (a.zip (aa.set (a.idxOf z) X)))) (aH ab f)) (y:=.a9) (v:=.a9) (q:=λv aq=>v=.a9->j aq) (a:=λ_=>k) x y q B i (λm I=>by cases I) (λV C e=>?_) (hh _ λ_=>rfl) (p0 λ_=>rfl) (Nw (nV λ_=>rfl) ?_ (hh _ λ_=>rfl)) b rfl
    ·unfold aH at e ⊢
     cases I:jz N bH (.e1 (da J cR) bH (a.zip (aa.set (a.idxOf z) X))) V with
     |some r=>rw[I]at e;exact e|none=>rw[I]at e;exact M _ _ e
    ·unfold bx
     exact⟨N,aa.set (a.idxOf z) X,_,aH ab f,rfl,⟨bH,K,rfl,by rw[vF];exact c⟩,fH t,on⟩
   ·rename_i o
    rw[Lz X o c.symm];have on:=bF.snoc s D n;have t:=Nv (bS:=.e1 (da J cR) bH ((a++[z]).zip (aa++[X]))) i;refine Nt (c:=[X,.a0 N]) (h:=aH (jz N bH (.e1 (da J cR) bH ((a++[z]).zip (aa++[X])))) h) (y:=.a9) (v:=.a9) (q:=λv aq=>v=.a9->j aq) (a:=λ_=>k) x y q B i (λm I=>by cases I) (bu.fc _) (hh _ λ_=>rfl) (p0 λ_=>rfl) (Nw (nV λ_=>rfl) ?_ (hh _ λ_=>rfl)) b rfl
    unfold bx;exact⟨N,aa++[X],_,h,rfl,⟨bH,K,rfl,by simp[c]⟩,fH t,on⟩
  ·exact b.elim
def FR (J:cH)(a:cx)(n uO:bN)(w:Str):fY:=λbw o R=>∃Q∈a,Ew (da J Q) n uO w bw o R
def va (x:aX)(V:hg):Option Str:=match d3 x V with |some (.au (.dI Q _) _)=>E Q |_=>k
def xr (ah:ft)(z:Str)(N:dS)(X:p)(x:aX):bY aX eY:=(eh ah x [X,.s N]).aC λa e=>match a with
 |[g,.s V]=>(match va e V with |some Q=>if Q∈ah.c9 then pY (gY (rb z) [g,.s V] e)else .aQ |none=>.aQ)|_=>.aQ
theorem aaw (A:ah.dR J)(z:Str)(d:dS)(X:p):hi J (FR J ah.c9 (d.X.b5 J ah l) (X.n.b5 J ah l) z) l aD x (xr ah z d X x):=by
 intro bA bk o F Y R bw h ok b;unfold xr at b;have B:∀Q∈ah.c9,(∀m e,eh ah x [X,.s d]=.i m e->∃g V,m=[g,.s V]/\va e V=E Q)->FR J ah.c9 (d.X.b5 J ah l) (X.n.b5 J ah l) z bw o R:=λQ q O=>⟨Q,q,by
  have:=oV (J:=J) (l:=l) (aD:=aD) A [X,.s d] x;rw[show H.d_ J ah l ([X,.s d].map p.n)=gT (X.n.b5 J ah l) (gT (d.X.b5 J ah l) hG)from rfl]at this
  have P:Nf J (eh ah x [X,.s d]) l aD o bA bk R (λc a5=>match c with |[t,.a0 S]=>∃bH av,a5 S=E (.e1 (da J Q) bH av)/\av.length<1000/\bw.de o (b8 a5 S (.e1 (da J Q) bH (ir z t av)))|_=>False):=by
   cases e:eh ah x [X,.s d]with
   |aQ=>rw[e]at b;exact b|aW Q f=>rw[e]at b;exact λF Y R h ok=>b o F Y R h ok|i m f=>
    rw[e]at b;obtain⟨g,V,rfl,r⟩:=O m f e;dsimp only[bY.aC]at b;rw[r]at b;dsimp only at b;rw[if_pos q]at b;intro c bB al am ab ar T D j U _;have W:s8 J (gY (rb z) [g,.s V] f) l aD o bA bk (λv aq=>v=.a9->bw.de o aq):=by
     cases ec:gY (rb z) [g,.s V] f with
     |aQ=>rw[ec]at b;exact b|aW Q az=>rw[ec]at b;exact λF Y R h ok=>b o F Y R h ok|i y az=>rw[ec]at b;exact λv F an af Y R h ao j ok _=>b o F Y R (cY.pG h j) ok
    obtain⟨a,u,Z⟩:=Nh T D j U W;have aa:=AR D;obtain⟨t,C,rfl⟩:=Np aa;unfold va at r;split at r
    ·rename_i ap ac aS L
     cases r;have ag:∃n,a=[n,.au (.dI Q ac) aS]:=by
      cases g with
      |y n=>simp[ie,L]at u;exact⟨n,u.symm⟩|s cL=>
       cases M:d3 f cL with
       |none=>simp[ie,M]at u|some n=>simp[ie,L,M]at u;exact⟨n,u.symm⟩
     obtain⟨n,rfl⟩:=ag;obtain⟨S,rfl,G⟩:=aav Z;exact G
    ·cases r
  ·-- as same,au aI aw ay
   have I:=this bA bk o F Y R _ h ok P;unfold Ew;unfold gT hG at I;have e:(λ(t:aL) (ar:aj)=>(d.X.b5 J ah l) o ar λC a5=>(match([t,C]:List aL)with |[t,.a0 S]=>∃bH av,a5 S=E (.e1 (da J Q) bH av)/\av.length<1000/\bw.de o (b8 a5 S (.e1 (da J Q) bH (ir z t av)))|_=>False))=λt ar=>(d.X.b5 J ah l) o ar λC a5=>(match C with |.a0 S=>∃bH av,a5 S=E (.e1 (da J Q) bH av)/\av.length<1000/\bw.de o (b8 a5 S (.e1 (da J Q) bH (ir z t av)))|_=>False):=by
    funext t ar;congr 1;funext C a5;cases C<;>rfl
   have N:=I;rw[e]at N;exact N⟩
 cases e:eh ah x [X,.s d]with
 |aQ=>rw[e]at b;exact b.elim|aW Q f=>
  cases w:ah.c9 with
  |nil=>exact absurd w A.c9|cons ak aA=>
   have:=B ak (by rw[w];exact ek ..) λm az I=>by rw[e]at I;cases I
   rw[w]at this;exact this
 |i m f=>
  rw[e]at b;dsimp only[bY.aC]at b;split at b
  ·rename_i g V
   cases ec:va f V with
   |none=>rw[ec]at b;exact b.elim|some Q=>
    rw[ec]at b;dsimp only at b;by_cases q:Q∈ah.c9
    ·exact B Q q λm az I=>by rw[e]at I;cases I;exact⟨g,V,rfl,ec⟩
    ·rw[if_neg q]at b;exact b.elim
  ·exact b.elim
def rd (ah:ft)(N:dS)(D X:H)(x:aX):bY aX eY:=pY ((eh ah x [.X X,.s N,.X D]).aC (gY ng))
theorem aax (u:ah.dR J)(f:dS)(D X:H):hi J (ot (X.b5 J ah l) (Dj (f.X.b5 J ah l) (D.b5 J ah l) xq)) l aD x (rd ah f D X x):=by
 intro bA bk o F Y R bw d ok a;unfold rd at a;have:=oV (J:=J) (l:=l) (aD:=aD) u [.X X,.s f,.X D] x;rw[show H.d_ J ah l ([p.X X,.s f,.X D].map p.n)=gT (X.b5 J ah l) (gT (f.X.b5 J ah l) (gT (D.b5 J ah l) hG))from rfl]at this
 refine this bA bk o F Y R (λc a5=>match c with |[t,C,O]=>xq C O t a5 (bw.de o)|_=>False) d ok ?_
 cases e:eh ah x [.X X,.s f,.X D]with
 |aQ=>rw[e]at a;exact a|aW Q g=>rw[e]at a;exact λF Y R d ok=>a o F Y R d ok|i b g=>
  rw[e]at a;intro c bB P T ab ar w m j z _;have a:oY J (pY (gY ng b g)) l aD bA bk bw:=a;have A:s8 J (gY ng b g) l aD o bA bk (λv aq=>v=.a9->bw.de o aq):=by
   cases ec:gY ng b g with
   |aQ=>rw[ec]at a;exact a|aW Q az=>rw[ec]at a;exact λF Y R d ok=>a o F Y R d ok|i y az=>rw[ec]at a;exact λv F U af Y R d V j ok _=>a o F Y R (cY.pG d j) ok
  have B:=xn w m j z A;have q:=AR m;have I:b.length=3:=by
   have:∀{aI:nU}{x e:aX}{b:iK},eh ah x aI=.i b e->b.length=aI.length:=λ{aI}=>by
    induction aI with
    |nil=>intro x e b Y;unfold eh at Y;cases (Y);rfl
    |cons S aI r=>
     intro x e b Y;have D:∀{G:bY aX ai},(G.aC λy e=>(eh ah e aI).aC λb g=>.i (.y y::b) g)=.i b e->b.length=(S::aI).length:=λ{G} Y=>by
      cases G with
      |aQ=>cases Y|aW Q n=>cases Y|i y n=>
       dsimp only[bY.aC]at Y;cases az:eh ah n aI with
       |aQ=>rw[az]at Y;cases Y|aW Q n=>rw[az]at Y;cases Y|i L M=>rw[az]at Y;cases Y;rw[ee,ee,r az]
     cases S with
     |X t=>unfold eh at Y;exact D Y|h t=>unfold eh at Y;exact D Y|s N=>
      unfold eh at Y;split at Y
      ·cases az:eh ah x aI with
       |aQ=>rw[az]at Y;cases Y|aW Q n=>rw[az]at Y;cases Y|i L M=>rw[az]at Y;cases Y;rw[ee,ee,r az]
      ·cases Y
      ·cases Y
   exact this e
  rw[I]at q;obtain⟨t,C,O,rfl⟩:=Nq q;exact aau B
theorem FT (r:ah.dR J){c:dS}(d:cY (eE J aD x) o F Y)(a:dm bA bk F Y R)(e:c.aZ ah x=.i V)(f:d3 x V=E Q)
  (s:∀u bB ar b v,dm bA bk bB Y ar->cY (eE J aD x) o bB Y->bu b Y->bx J Q u bB b->o[V.1]?=E (E v)->k_ ar v V.2=E u->q u ar):c.X.b5 J ah l o R q:=by
 refine dS.dh r c l x o _ R _ (qY (d.qN a.2.1)) a.qQ ?_;rw[e];intro bB ar v u cR x1 h i _ _;obtain⟨t,m,A⟩:=a.d1 x1;rcases mC x _ with⟨y,g⟩|g
 ·rw[oT g]at f
  obtain⟨B,C,b,D,n,w,j,z,_⟩:=Av d g f;rw[h]at n;cases n;cases jQ ((w_ x1.2.2.1 (w R a.1.2.1 a.2.2.1)).symm.trans i);exact s u _ ar b v t (d.bJ m) j.s (z.bJ m) h i
 unfold d3 at f;simp_all
theorem FU (d:ah.dR J){b:dS}{X:mm}(c:cY (eE J aD x) o F Y)(a:dm bA bk F Y R)(e:b.aZ ah x=.aW X)(f:∀F Y R,cY (eE J aD x) o F Y->dm bA bk F Y R->kg J l X bk F R):b.X.b5 J ah l o R q:=by
 refine dS.dh d b l x o _ R _ (qY (c.qN a.2.1)) a.qQ ?_;rw[e];exact λa4 aq t=>(f _ _ _ (c.bJ (a.d1 t).2.1) (a.d1 t).1).d1 a t
def mD (ah:ft)(x:aX)(N:dS)(aI:nU)(a:ai->Bool)(D:hg->iK->aX->bY aX ai):bY aX ai:=match N.aZ ah x with
 |.i V=>(match d3 x V with |some Q=>if a Q then(eh ah x aI).aC (D V)else .aQ |none=>.aQ)|.aW Q=>.aW Q x|.aQ=>.aQ
theorem FV {a:iK}{v:aL}{b:aj}(d:o[V.1]?=E (E v))(e:k_ ar v V.2=E u)(f:bu ar a5)(g:oU J o ao a5 a c b):oU J o ao a5 (.s V::a) (u::c) b:=⟨u,v,c,rfl,d,w_ f e,g⟩
def kq (T:String)(Q:ai):Bool:=match Q with |.au .aG _=>T=="list" |.au (.gy _) _=>T=="dict" |_=>ax
theorem aay {T:String}(a:kq T Q=ae)(c:bx J Q u F D)(h:bu F R)(d:bu D R):zu J T u R:=by
 unfold kq at a;split at a
 ·obtain⟨N,aa,e,f,rfl,bZ,b,_⟩:=ra c
  subst bZ;have  := by simpa using a
  exact .inl ⟨this,aa,.of (d _ _ (b.s _ _ jy))⟩
 ·obtain⟨N,aa,e,f,rfl,bZ,b,_⟩:=ra c
  obtain⟨g,_⟩:=bZ;subst g;have  := by simpa using a
  exact .inr (.inr (.inl ⟨this,.inl ⟨_,d _ _ (b.s _ _ jy)⟩⟩))
 cases a
theorem Nx (d:ah.dR J){T:String}{G:aL->a3->aj->bX->Prop}(b:s_ J G w)(f:dS)(aI:nU):hy J (pC J T G (f.X.b5 J ah l) (H.d_ J ah l (aI.map p.n))) l aD x (mD ah x f aI (kq T) λV n e=>gY w (.s V::n) e):=by
 intro bA bk o F Y R q r ok a;unfold mD at a;cases e:f.aZ ah x with
 |aQ=>rw[e]at a;exact a.elim|aW Q=>rw[e]at a;exact FU d r ok e a|i V=>
  rw[e]at a;dsimp only at a;cases g:d3 x V with
  |none=>rw[g]at a;exact a.elim|some Q=>
   rw[g]at a;dsimp only at a;by_cases h:kq T Q=ae
   rotate_left
   ·rw[if_neg h]at a;exact a.elim
   rw[if_pos h]at a;refine FT d r ok e g λu bB ar L v m t y z A B=>⟨aay h z m.1.2.1 (y.b_ m.2.2.1),?_⟩
   refine oV    d aI x bA bk o bB Y ar _ t m ?_;cases s:eh ah x aI with
   |i n M=>
    rw[s]at a;intro c ao N O af a5 C D j I K;exact b u c a5 q l (xn C (FV A B K D) j I a)|_=>rw[s]at a;exact a
theorem aaz (c:ah.dR J){T:String}{G:aL->a3->aj->bX->Prop}(b:s_ J G w)(a:dS):hy J (zv J T G (a.X.b5 J ah l)) l aD x (mD ah x a [] (kq T) λV d e=>gY w (.s V::d) e):=by
 intro bA bk o F Y R q f g h;have:=Nx    c  b a [] bA bk o F Y R q f g h;exact this
def AY (av:oL)(h:Str)(Q:ai):Bool:=match Q with |.au (.dI Q a) _=>(av.find? (λV=>V.1 == Q)).isSome && !decide (h∈a)|_=>ax
def AZ (av:oL)(x:aX)(V:hg):b0:=match d3 x V with
 |some (.au (.dI Q _) _)=>(match av.find? (λg=>g.1 == Q)with |some g=>g.2 |none=>λ_=>.aQ)
 |_=>λ_=>.aQ
def A0 (ah:ft)(av:oL)(h:Str)(N:dS)(aI:nU)(x:aX):bY aX ai:=if av.isEmpty then .aQ else mD ah x N aI (AY av h) λV a e=>gY (AZ av x V) (.s V::a) e
theorem aaA (f:ah.dR J)(av:oL)(h:Str)(m:dS)(aI:nU):hy J (u2 J av h l (m.X.b5 J ah l) (H.d_ J ah l (aI.map p.n))) l aD x (A0 ah av h m aI x):=by
 intro bA bk o F Y R q s ok a;unfold A0 at a;split at a
 ·exact a.elim
 rename_i w
 unfold mD at a;cases e:m.aZ ah x with
 |aQ=>rw[e]at a;exact a.elim|aW Q=>
  rw[e]at a;cases av with
  |nil=>exact absurd rfl w|cons g av=>exact⟨g,ek ..,FU f s ok e a⟩
 |i V=>
  rw[e]at a;dsimp only at a;cases d:d3 x V with
  |none=>rw[d]at a;exact a.elim|some Q=>
   rw[d]at a;dsimp only at a;by_cases b:AY av h Q=ae
   rotate_left
   ·rw[if_neg b]at a;exact a.elim
   rw[if_pos b]at a;unfold AY at b;split at b
   ·rename_i y z aS
    obtain⟨A,B⟩:=kW.mp b;obtain⟨g,n⟩:=vQ.mp A;have ab:g.1=y:=by simpa using Iq n
    have C:h∉z:=by simpa using B
    have D:AZ av x V=g.2:=by unfold AZ;rw[d];dsimp only;rw[n]
    rw[D]at a;refine⟨g,H7 n,?_⟩;refine FT f s ok e d λu bB ar ag v t G I L M O=>?_
    obtain⟨N,aa,aj,ak,rfl,bZ,P,_⟩:=ra L;obtain⟨bH,_,S,al⟩:=bZ;subst S;refine⟨N,bH,_,rfl,by rw[ab];exact t.2.2.1 _ _ (I _ _ (P.s _ _ Ad)),Mt C,?_⟩
    refine oV (J:=J) (l:=l) (aD:=aD) f aI x bA bk o bB Y ar _ G t ?_;cases r:eh ah x aI with
    |aQ=>rw[r]at a;exact a|aW X T=>rw[r]at a;exact a|i am T=>
     rw[r]at a;intro c ao an ap af a5 U W j Z ac;rw[lC];exact xn U (FV M O ac W) j Z a
   ·cases b
def nW:b0:=λa=>match a with
 | [.au (.gy b) aS,c,v]=>if v.eU then(match m4 c with
   |some d=>if gK b d<b.length then(match aS[gK b d]? with |some t=>if t.eU then .i t [.au (.gy b) aS,c,v]else .aQ |none=>.aQ)
    else if aS.length<cw then .i v [.au (.gy (b++[d])) (aS++[v]),c,v]else .aQ
   |none=>.aQ)else .aQ
 |_=>.aQ
def A1:aL->a3->aj->bX->Prop:=λX m R q=>match m with
 |[t,I]=>sq X t R λS ba D=>match g8 ba D with |some v=>q v R |none=>ba.length<cw/\q I (b8 R S (.ey (jx ba D I)))
 |_=>False
theorem aaB {a:jq}{aa:a3}{D:d9}(b:D∉a):g8 (a.zip aa) D=k:=by
 unfold g8;rw[List.find?_eq_none.mpr]
 ·rfl
 ·intro V c I
  exact b (by have:=(rI   c).1;simp_all)
theorem aaC:∀{y:ai}{D:d9},m4 y=E D->y.eU=ae:=λ{y}=>by
 cases y with
 |au=>intro D e;cases e
 |_=>intro D e;rfl
theorem aaD:s_ J A1 nW:=by
 rintro X m R q l ⟨F,Y,a,K,L,o,j,c⟩;have M:=ta j;have ag:=j;unfold nW at c;split at c
 ·rename_i e aS ah O
  split at c
  rotate_left
  ·exact c.elim
  rename_i aj
  unfold bF at j;obtain⟨aT,aU,P,ak,aN,al,am,T⟩:=j;unfold bF at T;obtain⟨an,aV,ao,ap,az,aq,r,U⟩:=T;unfold bF at U;obtain⟨f,aW,ar,aX,as,au,i,W⟩:=U;unfold bF at W;obtain⟨av,aw⟩:=W;cases aN;subst az;subst as;subst av;obtain⟨s,aY⟩:=bx.eU aj i;cases n:m4 ah with
  |none=>rw[n]at c;exact c.elim|some h=>
   rw[n]at c;dsimp only at c;obtain⟨Z,ay⟩:=bx.eU (aaC n) r;have ab:=w7 n ay;obtain⟨N,aa,aZ,w,rfl,bZ,x,y⟩:=ra am;obtain⟨aA,z,aB⟩:=bZ;subst aA;have aC:∀V,ap V=k:=λV=>by rw[ix au];unfold aH;rw[s V];exact aw V
   have aD:∀V,ak V=k:=λV=>by rw[ix aq];unfold aH;rw[Z V];exact aC V
   have aE:Y=P:=by rw[ix al];funext V;unfold aH;cases I:P V with |none=>exact aD V |some C=>rfl
   subst aE;have ac:R N=E (.ey (e.zip aa)):=o _ _ (x.s _ _ jy);have aF:ao=λ_=>k:=funext Z
   have aG:ar=λ_=>k:=funext s
   split at c
   ·rename_i A
    cases B:aS[gK e h]? with
    |none=>rw[B]at c;exact c.elim|some t=>
     rw[B]at c;dsimp only at c;split at c
     rotate_left
     ·exact c.elim
     rename_i aI
     obtain⟨u,aJ,a0,aK,a1,D,g⟩:=bF.focus y B;obtain⟨ez,bC⟩:=bx.eU aI D;unfold A1;refine Ap rfl ab.1 ac ?_;rw[FD aK A];have:aJ=λ_=>k:=funext ez
     rw[this]at D;exact c u F Y R (λ_=>k) Y (uP K L o M) (hh _ λ_=>rfl) D ag
   ·rename_i A
    split at c
    rotate_left
    ·exact c.elim
    rename_i aM
    have G:h∉e:=λI=>A (AW.mpr I)
    unfold A1;refine Ap rfl ab.1 ac ?_;rw[aaB G];refine⟨by rw[qn,z,rO,<- bF.b6 y];exact aM,?_⟩
    rw[Nr G z];have on:=bF.snoc y i (gX _ s);have aP:=q_ (bS:=.ey ((e++[h]).zip (aa++[f]))) x;rw[aF]at r;rw[aG]at i;have aQ:bx J (.au (.gy (e++[h])) (aS++[O])) (.a0 N) F (aH (cN N (.ey ((e++[h]).zip (aa++[f])))) w):=by
     unfold bx;exact⟨N,aa++[f],_,w,rfl,⟨rfl,by simp[z],yz.mpr ⟨aB,by simp,by rintro S aR b af rfl;simp at af;subst af;exact G aR⟩⟩,fH aP,on⟩
    exact AV (c:=[.a0 N,an,f]) (h:=aH (cN N (.ey ((e++[h]).zip (aa++[f])))) w) (y:=O) (v:=f) (q:=q) (a:=λ_=>k) K L o M x (λm I=>by cases I) (bu.fc _) (hh _ λ_=>rfl) i (AX aQ r i (hh _ λ_=>rfl) (gX _ λ_=>rfl)) c
 ·exact c.elim
theorem aaE (f:ah.dR J)(g:dS)(D v:H):hy J (EA (g.X.b5 J ah l) (D.b5 J ah l) (v.b5 J ah l)) l aD x (mD ah x g [.X D,.X v] (kq "dict") λV m e=>gY nW (.s V::m) e):=by
 intro bA bk o F Y R q n ok a;unfold mD at a;cases e:g.aZ ah x with
 |aQ=>rw[e]at a;exact a.elim|aW Q=>rw[e]at a;exact FU f n ok e a|i V=>
  rw[e]at a;dsimp only at a;cases d:d3 x V with
  |none=>rw[d]at a;exact a.elim|some Q=>
   rw[d]at a;dsimp only at a;by_cases b:kq "dict" Q=ae
   rotate_left
   ·rw[if_neg b]at a;exact a.elim
   rw[if_pos b]at a;refine FT f n ok e d λu bB ar P S r s t w y z=>⟨?_,?_⟩
   ·unfold kq at b
    split at b
    ·cases b
    ·obtain⟨N,aa,T,d,rfl,bZ,A,_⟩:=ra w
     obtain⟨B,_⟩:=bZ;subst B;exact⟨_,(t.b_ r.2.2.1) _ _ (A.s _ _ jy)⟩
    ·cases b
   ·have C:=oV (J:=J) (l:=l) (aD:=aD) f [.X D,.X v] x bA bk o bB Y ar (λc a5=>A1 u c a5 q) s r
    refine C ?_;cases h:eh ah x [.X D,.X v]with
    |aQ=>rw[h]at a;exact a|aW X G=>rw[h]at a;exact a|i m G=>
     rw[h]at a;intro c ao U W af a5 I L j M O;exact aaD u c a5 q l (xn I (FV y z O L) j M a)
end
inductive lZ where
 |dY |o1 |tc
noncomputable def lZ.fW:lZ->String
 |_ => "list"
def lZ.G:lZ->aL->a3->aj->bX->Prop
 |.dY=>DC |.o1=>DE |.tc=>DF
def lZ.w:lZ->b0
 |.dY=>q9 |.o1=>tb |.tc=>AU
theorem Ny {J:cH}(C:lZ):s_ J C.G C.w:=by
 cases C with
 |dY=>exact aam|o1=>exact aap|tc=>exact aaq
section
variable {J:i5}{x:aX}{aD:iv}{O:Nat}
theorem A2 {C:jA}:eE J aD (C::x)=nQ J (aD 0) C::eE J (λO=>aD (O+1)) x:=by simp_all
end
inductive jE where
 |b7 (w:b0) (X:Str) (aI:List H)|eF (C:jV) (aI:List H)
def jE.X:jE->H->H
 |.b7 w X aI,S=>.b7 w X (S::aI)|.eF C aI,S=>.eF C S aI
def jE.n (J:cH)(ah:ft)(l:b4):jE->bN->bN
 |.b7 w _ aI,n=>qD (fJ J w) [] l (gT n (H.d_ J ah l aI))|.eF C aI,n=>pC J "str" (C.G J) n (H.d_ J ah l aI)
theorem jE.b5 {J:cH}{ah:ft}{l:b4}(Q:jE)(y:ai):(Q.X (.D y)).b5 J ah l=Q.n J ah l (gG (y.f_.getD .a9)):=by
 cases Q with
 |_=>rfl
set_option genInjectivity false in
inductive cZ where
 |bq (X:H)|kr (O:Nat)
 |b7 (w:b0) (X:Str) (aI:List p)
 |eo (a:List (Str×b0)) (N:dS) (h:Str) (aI:List p)
 |fw (C:lZ) (N:dS) (aI:List p)
 |aT (C:hv) (t I:cZ)
 |ku (S:jE) (t:cZ)
 |tk (y:ai) (t:cZ)
 |rf (N:dS) (D v:H)
 |not (t:cZ)
 |or (t I:cZ)|and (t I:cZ)
set_option genInjectivity false in
inductive aO where
 |cn (O:Nat) (t:cZ)|td (is:List Nat) (X:H)
 |kv (N:dS) (z:Str) (X:H)|rg (N:dS) (D X:H)
 |aW (t:cZ)|cJ (t:cZ)|te
 |dE (Q:H) (S b:List aO)|tf (Q:cZ) (S b:List aO)|tg (Q:H) (S b:List aO)
 |vb (Q y:H) (S b:List aO)
 |gc (du:hb) (dQ:List H) (bV:iw) (b:List aO)
 |p1 (Q:H) (b:List aO)
 |mE |cont |iL
 |o2 (b a:List aO)
abbrev cE:=List aO
section
variable (J:i5)(ah:ft)
def cZ.b5 (l:b4):cZ->bN
 |.bq X=>X.b5 J ah l|.kr O=>oB O|.b7 w _ aI=>qD (fJ J w) [] l (H.d_ J ah l (aI.map p.n))|.eo a N h aI=>u2 J a h l (N.X.b5 J ah l) (H.d_ J ah l (aI.map p.n))|.fw C N aI=>(match aI with |[]=>zv J C.fW C.G (N.X.b5 J ah l)|_=>pC J C.fW C.G (N.X.b5 J ah l) (H.d_ J ah l (aI.map p.n)))|.aT C t I=>nE (C.G J) (t.b5 l) (I.b5 l)|.ku S t=>S.n J ah l (t.b5 l)|.tk y t=>wg (gT (gG (y.f_.getD .a9)) (gT (t.b5 l) hG))|.rf N D v=>EA (N.X.b5 J ah l) (D.b5 J ah l) (v.b5 J ah l)|.not t=>uj (t.b5 l)|.or t I=>qH (t.b5 l) (I.b5 l)|.and t I=>sg (t.b5 l) (I.b5 l)
mutual
def aO.b5 (l:b4):aO->fY
 |.cn O t=>ot (t.b5 J ah l) (oq O)|.td is X=>ot (X.b5 J ah l) (EJ J (u0 is))|.kv N z X=>FR J ah.c9 (N.X.b5 J ah l) (X.b5 J ah l) z|.rg N D X=>ot (X.b5 J ah l) (Dj (N.X.b5 J ah l) (D.b5 J ah l) xq)|.aW t=>Dg (t.b5 J ah l)|.cJ t=>Dh (t.b5 J ah l)|.te=>Di|.dE Q S b=>sh (k3 (Q.b5 J ah l)) (aO.d_ l S) (aO.d_ l b)|.tf Q S b=>sh (k3 (Q.b5 J ah l)) (aO.d_ l S) (aO.d_ l b)|.tg Q S b=>sh (Af J (Q.b5 J ah l)) (aO.d_ l S) (aO.d_ l b)|.vb Q y S b=>sh (DX (Af J (Q.b5 J ah l)) (k3 (y.b5 J ah l))) (aO.d_ l S) (aO.d_ l b)|.gc du dQ bV b=>Dn (du.n J (H.d_ J ah l dQ)) (pP J bV) (aO.d_ l b)|.p1 Q b=>Dk (k3 (Q.b5 J ah l)) (aO.d_ l b)|.mE=>t_|.cont=>Df|.iL=>JB|.o2 b a=>r7 (aO.d_ jw b) (aO.d_ l a)
def aO.d_ (l:b4):List aO->fY
 |[]=>t_|A::cT=>r7 (A.b5 l) (aO.d_ l cT)
end
end
def vc (y:ai):Mo Bool:=match y.aH with |.aM b=>.i b |.au .aG m=>.i (!m.isEmpty)|_=>.aQ
theorem Nz {J:cH}{l:b4}{x:aX}{n:bN}{G:eA}(Y:dr J n l x G):mn J (Af J n) l (g9 J x) (G.aC vc):=by
 intro o F R q d f V;refine g_ Y o F R _ d f (V.aC.c8 λS bB ar x1 a h g=>?_)
 have c:=bz.aH g;unfold vc at a;split at a
 ·rename_i b e;rw[e]at c;cases c.aM;exact a.i x1.2.1
 ·rename_i m e;rw[e]at c;obtain⟨N,aa,rfl,z,G⟩:=c.au
  refine⟨aa,.of (x1.2.1 _ _ z),?_⟩;rw[show aa.isEmpty=m.isEmpty from by have:=G.b6;cases aa<;>cases m<;>first |rfl |cases this]
  exact a.i x1.2.1
 exact a.elim
def o3 {ay:Type}(h:Mo ay)(e:aX):bY aX ay:=match h with |.i S=>.i S e |.aW Q=>.aW Q e |.aQ=>.aQ
section
variable (ah:ft)
def rh (x:aX)(O:Nat):bY aX ai:=match x[O]? with |some (E y)=>.i y (x.set O k)|_=>.aQ
def xt (r:Bool)(y:ai)(e:aX)(G:bY aX ai):bY aX ai:=match fz y with |.i b=>if b=r then .i (.aM r) e else G |_=>.aQ
def xu (S:jE)(y:ai)(e:aX):bY aX ai:=if y.f_.isSome=ae then lY ah e (S.X (.D y))else .aQ
def cZ.aZ:cZ->aX->bY aX ai
 |.bq X,x=>lY ah x X|.kr O,x=>rh x O|.b7 w _ aI,x=>(eh ah x aI).aC (gY w)|.eo c N h aI,x=>A0 ah c h N aI x|.fw C N aI,x=>mD ah x N aI (kq C.fW) λV a e=>gY C.w (.s V::a) e|.aT C t I,x=>(t.aZ x).aC λy e=>(I.aZ e).aC λd az=>o3 (C.w y d) az|.ku S t,x=>(t.aZ x).aC λy e=>xu ah S y e|.tk S t,x=>(t.aZ x).aC λy e=>o3 (.dW (S.f_.isSome=ae) (.i (.au .a_ ([S,y].map .bO)))) e|.rf N D v,x=>mD ah x N [.X D,.X v] (kq "dict") λV a e=>gY nW (.s V::a) e|.not t,x=>(t.aZ x).aC λy e=>o3 ((fz y).aC λb=>.i (.aM (!b))) e|.or t I,x=>(t.aZ x).aC λy e=>xt ae y e (I.aZ e)|.and t I,x=>(t.aZ x).aC λy e=>xt ax y e (I.aZ e)
def A3 (aA:i7)(is:bo)(G:bY aX ai):bY aX eY:=G.aC λy e=>match y.aH with
 |.au .aG m=>if is.length=5/\m.length=5 then(match i0 aA e is m with |some a=>.i .de a |none=>.aQ)else .aQ
 |_=>.aQ
mutual
def aO.gm:i7->aO->aX->bY aX eY
 |aA,.cn O t,x=>AO aA O (t.aZ ah x)|aA,.td is X,x=>A3 aA is (lY ah x X)|aA,.kv N z X,x=>xr ah z N (.X X) x|aA,.rg N D X,x=>rd ah N D X x|aA,.aW t,x=>pY (t.aZ ah x)|aA,.cJ t,x=>FJ (t.aZ ah x)|aA,.te,x=>.i (.en .a9) x|aA,.dE Q S b,x=>oZ x ((Q.aZ ah x).aC fz) (aO.bb aA S x) (aO.bb aA b x)|aA,.tf Q S b,x=>(Q.aZ ah x).aC λy e=>oZ e (fz y) (aO.bb aA S e) (aO.bb aA b e)|aA,.tg Q S b,x=>oZ x ((Q.aZ ah x).aC vc) (aO.bb aA S x) (aO.bb aA b x)|aA,.vb Q y S b,x=>oZ x (((Q.aZ ah x).aC vc).aC λn=>if n then(y.aZ ah x).aC fz else .i ax) (aO.bb aA S x) (aO.bb aA b x)|aA,.gc du dQ bV b,x=>AP aA du bV (eh ah x (dQ.map .X)) (λe=>aO.bb aA b e)|aA,.p1 Q b,x=>nf (λe=>(Q.aZ ah e).aC fz) (λe=>aO.bb aA b e) su x|aA,.mE,x=>.i .de x|aA,.cont,x=>.i .iC x|aA,.iL,x=>.aQ|aA,.o2 b a,x=>jX (AQ (aO.bb aA b x)) λe=>aO.bb aA a e
def aO.bb:i7->cE->aX->bY aX eY
 |aA,[],x=>.i .de x|aA,A::cT,x=>jX (aO.gm aA A x) (λe=>aO.bb aA cT e)
end
end
section
variable {J:i5}{l:b4}{F bA bk Y R:aj}{x:aX}{n:bN}{aD:iv}{ah:ft}{O:Nat}{aA:i7}{bh bj:fY}
theorem aaF:hy J (oB O) l aD x (rh x O):=by
 intro bA bk o F Y R q c d a;unfold rh at a;split at a
 ·rename_i y e
  obtain⟨C,f,b,aN,j,h,g⟩:=cY.uX c (uY e);obtain⟨v,rfl,m,i⟩:=xa h;unfold oB;rw[aN];refine a v F f b Y R ?_ i j d;have:=g (nQ J (aD O) k) (E v) F _ b (bu.fc _) trivial (hh _ λ_=>rfl)
  rwa[As,Ar aN]at this
 exact a.elim
theorem FW {h:eA}{e:aX}{o:L2.bU}{q:bX}{b:aj}(f:cY (eE J aD e) o F b)(ok:dm bA bk F b R)(c:s8 J (o3 h e) l aD o bA bk q):cp J h l F R (fs (gq J) R q):=by
 cases h with
 |aQ=>exact c|aW Q=>exact λa4 aq X=>kg.iH ok.1.2.2.1 (c a4 b aq (f.bJ X.1) (ok.eU X))|i y=>
  intro a4 aq X v a g j A C;have d:=ok.eU X;have n:cS a b:=Ef ok.2.2.1 g;refine c v a4 a b (aH a b) aq (f.bJ X.1) C (fH n) ⟨d.1,λN=>?_,λN C e=>?_,λN I=>?_,λN m I=>?_⟩
  ·unfold aH
   cases I:a N with
   |some r=>
    rcases j N with t |t
    ·exact .inl t
    ·rw[t]at I;cases I
   |none=>exact d.2.1 N
  ·unfold aH at e
   cases I:a N with
   |some r=>rw[I]at e;cases e;exact A _ _ I|none=>rw[I]at e;exact d.2.2.1 _ _ e
  ·unfold aH at I
   cases t:a N with
   |some r=>exact ok.1.2.2.1.ck (g N (by rw[t];exact fE _))|none=>rw[t]at I;exact ok.2.2.2.1 N I
  ·unfold aH at I
   cases t:a N with
   |some r=>rw[t]at I;cases I;exact bx.lO C N m t|none=>rw[t]at I;exact ok.2.2.2.2 N m I
theorem ri {y:ai}{v:aL}{a c:aj}(d:bx J y v F a)(j:cG a c Y)(f:dm bA bk F Y R):bz J y v (aH F a)/\bu F (aH F a)/\dm bA bk (aH F a) c R:=by
 obtain⟨S,b,Q⟩:=Nl (a:=[y])  (⟨v,[],a,λ_=>k,rfl,gX _ λ_=>rfl,d,xo⟩) j f
 obtain⟨g,e,G⟩:=b2.cN S;simp_all
theorem aaG {C:hv}{G:bY aX ai}{g:aX->bY aX ai}{cv:bN}(ab:hy J n l aD x G)(af:∀e,hy J cv l aD e (g e)):hy J (nE (C.G J) n cv) l aD x (G.aC λy e=>(g e).aC λd az=>o3 (C.w y d) az):=by
 intro bA bk o F Y R q u ok a;refine ab bA bk o F Y R _ u ok ?_;cases G with
 |aQ=>exact a|aW Q e=>exact a|i y e=>
  intro v bB P f aE ar w z j B;obtain⟨D,I,b⟩:=ri z j B;have c:cG _ f f:=hh _ λ_=>rfl
  refine af e _ _ o _ f ar _ (w.bJ I) (MZ b c) ?_;dsimp only[bY.aC]at a;cases az:g e with
  |aQ=>rwa[az]at a|aW Q K=>
   rw[az]at a;intro ao af a5 h m;obtain⟨A,_,r⟩:=u9 b c m;exact Fz b c (a ao af a5 h r)
  |i d K=>
   rw[az]at a;intro L ao S T U a5 h M N m;obtain⟨A,_,r⟩:=u9 b c m;obtain⟨O,s,t⟩:=ri M N r;exact s7 C y d v L _ a5 q t.1.2.1 (D.bJ (A.b_ s)) O (FW (h.bJ s) t a)
theorem aaH {G:bY aX ai}(b:ah.dR J)(ab:hy J n l aD x G)(Q:jE):hy J (Q.n J ah l n) l aD x (G.aC λy e=>xu ah Q y e):=by
 intro bA bk o F Y R q c ok a;rw[show Q.n J ah l n o R q=n o R λv ar=>Q.n J ah l (gG v) o ar q from by cases Q<;>rfl]
 refine ab bA bk o F Y R _ c ok ?_;cases G with
 |i y e=>
  intro v bB u d aE ar f g j h;obtain⟨m,r,s⟩:=ri g j h;dsimp only[bY.aC]at a;unfold xu at a;split at a
  ·rename_i t
   obtain⟨X,aN⟩:=vQ.mp t;have:=FC    b _ bA bk o _ d ar q (f.bJ r) s a;rwa[jE.b5,aN,<- (pO aN m).1]at this
  exact a.elim |_=>exact a
theorem aaI {G:bY aX ai}(ab:hy J n l aD x G)(S:ai):hy J (wg (gT (gG (S.f_.getD .a9)) (gT n hG))) l aD x (G.aC λy e=>o3 (.dW (S.f_.isSome=ae) (.i (.au .a_ ([S,y].map .bO)))) e):=by
 intro bA bk o F Y R q c ok a;refine ab bA bk o F Y R _ c ok ?_;cases G with
 |i y e=>
  intro v bB t u aE ar d f j g;obtain⟨h,m,b⟩:=ri f j g;obtain⟨I,r⟩:=(FW  (d.bJ m) b a).dW;obtain⟨X,aN⟩:=vQ.mp I;refine⟨lK (show 2<=100000 by lia),λN s=>AB r b.1.2.1 s ?_⟩
  refine⟨_,_,rfl,?_,_,_,rfl,h,rfl⟩;rw[aN];exact MO (by cases S<;>first |exact aN |cases aN)|_=>exact a
theorem aaJ {G:bY aX ai}(ab:hy J n l aD x G):hy J (uj n) l aD x (G.aC λy e=>o3 ((fz y).aC λb=>.i (.aM (!b))) e):=by
 intro bA bk o F Y R q g ok c;refine ab bA bk o F Y R _ g ok ?_;cases G with
 |i y e=>
  intro v bB u w aE ar h m j r;obtain⟨s,t,d⟩:=ri m j r;have a:=FW  (h.bJ t) d c;have f:=bz.aH s;unfold fz at a;split at a
  ·rename_i b az;rw[az]at f;cases f.aM;exact jB a d.1.2.1
  exact a.elim |_=>exact c
theorem NA {r:Bool}{G:bY aX ai}{g:aX->bY aX ai}{cv:bN}(ab:hy J n l aD x G)(af:∀e,hy J cv l aD e (g e)):hy J (match r with |true=>qH n cv |false=>sg n cv) l aD x (G.aC λy e=>xt r y e (g e)):=by
 intro bA bk o F Y R q u ok a;have f:n o R (λX ar=>match X with |.aM Q=>c6 (Q == r) (q (.aM r) ar) (cv o ar q)|_=>False):=by
  refine ab bA bk o F Y R _ u ok ?_;cases G with
  |aQ=>exact a|aW Q e=>exact a|i y e=>
   intro v bB B c aE ar h w j z;obtain⟨A,m,s⟩:=ri w j z;have t:=bz.aH A;have a:s8 J (xt r y e (g e)) l aD o bA bk q:=a;unfold xt fz at a;split at a
   ·rename_i b d
    split at d
    ·rename_i az
     cases d;rw[az]at t;cases t.aM;refine⟨λI=>?_,λI=>?_⟩
     ·rw[if_pos (eq_of_beq I)]at a
      exact a (.aM r) _ (λ_=>k) c c ar (h.bJ m) (by unfold bx;exact⟨λ_=>rfl,by unfold bz;rfl⟩) (hh _ λ_=>rfl) s
     ·rw[if_neg (ne_of_beq_false I)]at a
      exact af e bA bk o _ c ar q (h.bJ m) s a
    ·cases d
   ·exact a.elim
 cases r with
 |true=>
  refine(show qH n cv o R q from ?_)
  refine(show n o R (λX ar=>match X with |.aM Q=>c6 Q (q (.aM ae) ar) (cv o ar q)|_=>False)from ?_)
  have e:(λ(X:aL) (ar:aj)=>(match X with |.aM Q=>c6 Q (q (.aM ae) ar) (cv o ar q)|_=>False:Prop))=λX ar=>match X with |.aM Q=>c6 (Q == ae) (q (.aM ae) ar) (cv o ar q)|_=>False:=by
   funext X ar;cases X<;>first |rfl |(rename_i Q;cases Q<;>rfl)
  rw[e];exact f
 |false=>
  refine(show n o R (λX ar=>match X with |.aM Q=>c6 Q (cv o ar q) (q (.aM ax) ar)|_=>False)from ?_)
  have e:(λ(X:aL) (ar:aj)=>(match X with |.aM Q=>c6 Q (cv o ar q) (q (.aM ax) ar)|_=>False:Prop))=λX ar=>match X with |.aM Q=>c6 (Q == ax) (q (.aM ax) ar) (cv o ar q)|_=>False:=by
   funext X ar;cases X<;>first |rfl |(rename_i Q;unfold c6;cases Q<;>simp)
  rw[e];exact f
theorem cZ.dh (a:ah.dR J):∀(t:cZ) (x:aX),hy J (t.b5 J ah l) l aD x (t.aZ ah x)
 |.bq X,x=>FC a X|.kr O,x=>aaF|.b7 w X aI,x=>aae (oV a aI x)|.eo b N h aI,x=>aaA a b h N aI|.fw C N aI,x=>by
  cases aI with
  |nil=>exact aaz a (Ny C) N|cons S aI=>exact Nx a (Ny C) N _
 |.aT C t I,x=>aaG (cZ.dh a t x) λe=>cZ.dh a I e|.ku S t,x=>aaH a (cZ.dh a t x) S|.tk S t,x=>aaI (cZ.dh a t x) S|.rf N D v,x=>aaE a N D v|.not t,x=>aaJ (cZ.dh a t x)|.or t I,x=>NA  (cZ.dh a t x) λe=>cZ.dh a I e|.and t I,x=>NA  (cZ.dh a t x) λe=>cZ.dh a I e
theorem aaK {is:bo}{G:bY aX ai}(w:∀O,aA O=ax->aD O=k)(A:hy J n l aD x G):hi J (ot n (EJ J (u0 is))) l aD x (A3 aA is G):=by
 intro bA bk o F Y R bw B ok a;refine A bA bk o F Y R _ B ok ?_;cases G with
 |aQ=>exact a|aW Q e=>exact a o|i y e=>
  intro v bB U C ab ar D K j L;obtain⟨f,M,u⟩:=ri K j L;have f:=bz.aH f;unfold A3 at a;dsimp only[bY.aC]at a;split at a
  rotate_left
  ·exact a.elim
  rename_i m P
  split at a
  rotate_left
  ·exact a.elim
  rename_i d
  rw[P]at f;obtain⟨N,aa,rfl,z,G⟩:=f.au;obtain⟨g,h,q,r,s,rfl⟩:∃g h q r s,aa=[g,h,q,r,s]:=by
   obtain⟨S,b,rfl⟩:=j5 (G.b6.symm.trans d.2);obtain⟨Q,y,rfl⟩:=j5 (fD (G.b6.symm.trans d.2));obtain⟨X,t,I,rfl⟩:=Nq (fD (fD (G.b6.symm.trans d.2)));exact⟨_,_,_,_,_,rfl⟩
  cases az:i0 aA e is m with
  |none=>rw[az]at a;exact a.elim|some V=>
   rw[az]at a;exact⟨g,h,q,r,s,.of (u.1.2.1 _ _ z),Az (d.2.trans d.1.symm) G λc T=>a _ _ C ar (FL w az T (D.bJ M)) u⟩
theorem aaL {G:bY aX ai}{c d:lh}(r:hy J n l aD x G)(s:∀e,hi J bh l aD e (c e))(t:∀e,hi J bj l aD e (d e)):hi J (sh (k3 n) bh bj) l aD x (G.aC λy e=>oZ e (fz y) (c e) (d e)):=by
 intro bA bk o F Y R bw u ok a;refine r bA bk o F Y R _ u ok ?_;cases G with
 |aQ=>exact a|aW Q e=>exact a o|i y e=>
  intro v bB B f ab ar g w j z;obtain⟨A,h,m⟩:=ri w j z;have q:=bz.aH A;have a:oY J (oZ e _ _ _) l aD bA bk bw:=a;unfold fz at a;split at a
  ·rename_i b az
   rw[az]at q;cases q.aM;refine⟨λI=>?_,λI=>?_⟩
   ·subst I;exact s e bA bk o _ f ar bw (g.bJ h) m a
   subst I;exact t e bA bk o _ f ar bw (g.bJ h) m a
  exact a.elim
theorem aaM {n:fY}{G:bY aX eY}(Y:hi J n jw aD x G):hi J n l aD x (AQ G):=by
 intro bA bk o F b R bw c ok a;refine Y bA bk o F b R bw c ok ?_;cases G with
 |aQ=>exact a|aW Q e=>exact a.elim|i S e=>cases S<;>exact a
theorem aaN (aI:iZ):(aI.map p.X).map p.n=aI:=by
 rw[gr];exact(qi λS _=>rfl).trans (vM _)
mutual
theorem aO.dh (c:ah.dR J):∀(A:aO) {aA:i7}{aD:iv}(a:∀O,aA O=ax->aD O=k) {l:b4}(x:aX),hi J (A.b5 J ah l) l aD x (aO.gm ah aA A x)
 |.cn O t,aA,aD,a,l,x=>aag a (cZ.dh c t x)|.td is X,aA,aD,a,l,x=>aaK a (FC c X)|.kv N z X,aA,aD,a,l,x=>aaw c z N _|.rg N D X,aA,aD,a,l,x=>aax c N D X|.aW t,aA,aD,a,l,x=>aah (cZ.dh c t x)|.cJ t,aA,aD,a,l,x=>aai (cZ.dh c t x)|.te,aA,aD,a,l,x=>aaj|.dE Q S b,aA,aD,a,l,x=>FK (w8 (H.dh c Q l x)) (aO.ic c S a x) (aO.ic c b a x)|.tg Q S b,aA,aD,a,l,x=>FK (Nz (H.dh c Q l x)) (aO.ic c S a x) (aO.ic c b a x)|.vb Q y S b,aA,aD,a,l,x=>FK (Wh (Nz (H.dh c Q l x)) (w8 (H.dh c y l x))) (aO.ic c S a x) (aO.ic c b a x)|.tf Q S b,aA,aD,a,l,x=>aaL (cZ.dh c Q x) (aO.ic c S a) (aO.ic c b a)|.gc du dQ bV b,aA,aD,a,l,x=>by
  have:=oV  (l:=l) (aD:=aD) c (dQ.map .X) x;rw[aaN]at this;exact aak a this (aO.ic c b a)
 |.p1 Q b,aA,aD,a,l,x=>aal su (λe=>w8 (H.dh c Q l e)) (aO.ic c b a)|.mE,aA,aD,a,l,x=>Ni|.cont,aA,aD,a,l,x=>aaf|.iL,aA,aD,a,l,x=>λbA bk o F Y R bw g h f=>f.elim|.o2 b d,aA,aD,a,l,x=>by
  show hi J (r7 _ (aO.d_ J ah l d)) l aD x _
  exact Nj (aaM (aO.ic c b a x)) (aO.ic c d a)
theorem aO.ic (b:ah.dR J):∀(cT:cE) {aA:i7}{aD:iv}(a:∀O,aA O=ax->aD O=k) {l:b4}(x:aX),hi J (aO.d_ J ah l cT) l aD x (aO.bb ah aA cT x)
 |[],aA,aD,a,l,x=>Ni|A::cT,aA,aD,a,l,x=>Nj (aO.dh b A a x) (aO.ic b cT a)
end
end
def ag (a:bf)(O:Nat):Bool:=match a[O]? with |some y=>!y.eU |none=>ax
def l0:bf->aX->bf
 |[],_=>[]|y::a,C::x=>(if y.eU then y else match C with |some dO=>dO |none=>.eO)::l0 a x|y::a,[]=>(if y.eU then y else .eO)::l0 a []
def cy (ah:ft)(z h:Nat)(body:cE):b0:=λa=>if a.length=z then(match aO.bb ah (ag a) body (a.map E++fV h k)with
 |.i (.en y) x=>.i y (l0 a x)|.i .de x=>.i .a9 (l0 a x)|.aW Q x=>.aW Q (l0 a x)|_=>.aQ)else .aQ
section
variable {J:i5}{l:b4}{F a4 Y R:aj}{x:aX}{aD:iv}{ah:ft}{o:L2.bU}
theorem NB:∀(h:Nat) {aD:iv}{Y:aj},cY (eE J aD (fV h k)) (fV h k) F Y
 |0,aD,Y=>trivial|h+1,aD,Y=>by
  rw[Cu,A2];exact⟨λ_=>k,Y,hh _ λ_=>rfl,trivial,NB h⟩
def xv (a:bf)(c:a3):iv:=λO=>if ag a O then c[O]? else k
theorem NC (h:Nat):∀{a:bf}{c:a3}{Y:aj}{aD:iv},(∀(O:Nat) u,aD O=E u->c[O]?=E u)->bF J a c F Y->cY (eE J aD (a.map E++fV h k)) (c.map E++fV h k) F Y
 |[],_,Y,aD,hw,V=>by
  rw[V.1];exact NB h
 |y::a,_,Y,aD,hw,V=>by
  obtain⟨v,c,ab,af,rfl,j,C,G⟩:=V;rw[eR,yC,A2];exact⟨ab,af,j,Au (λu I=>by have:=hw 0 u I;simpa using this) C,NC h (λO u I=>by have:=hw _ u I;simpa using this) G⟩
theorem xw:∀{a:bf}{c:a3}{x:aX}{o:L2.bU}{Y f:aj}{aD:iv},(∀(O:Nat) y,a[O]?=E y->y.eU=ax->aD O=c[O]?)->bF J a c F f->bu F a4->cY (eE J aD x) o a4 Y->∃br,bu br Y/\bF J (l0 a x) c a4 br
 |[],_,x,o,Y,f,aD,hw,V,A,b=>by
  unfold bF at V;rw[V.1];refine⟨λ_=>k,(λN C I=>by cases I),?_⟩
  unfold l0 bF;exact⟨rfl,λ_=>rfl⟩
 |y::a,_,[],o,Y,f,aD,hw,V,A,b=>by
  unfold bF at V;obtain⟨v,c,ab,af,rfl,j,g,G⟩:=V;obtain⟨br,i,m⟩:=xw (x:=[]) (o:=o) (Y:=Y) (aD:=λO=>aD (O+1)) (λO dO e Q=>by have:=hw (O+1) dO (by simpa using e) Q;simpa using this) G A b
  refine⟨br,i,?_⟩;unfold l0 bF;refine⟨v,c,λ_=>k,br,rfl,hh _ λ_=>rfl,?_,m⟩
  by_cases d:y.eU=ae
  ·rw[if_pos d]
   have:=g.bJ A;obtain⟨z,_⟩:=bx.eU d this;have e:ab=λ_=>k:=funext z
   rw[e]at this;exact this
  ·rw[if_neg d];exact nV λ_=>rfl
 |y::a,_,C::x,[],Y,f,aD,hw,V,A,b=>by rw[A2]at b;exact b.elim
 |y::a,_,C::x,X::o,Y,f,aD,hw,V,A,b=>by
  unfold bF at V;obtain⟨v,c,ab,af,rfl,j,g,G⟩:=V;rw[A2]at b;obtain⟨n,K,q,s,b⟩:=b;obtain⟨br,i,m⟩:=xw (aD:=λO=>aD (O+1)) (λO dO e Q=>by have:=hw (O+1) dO (by simpa using e) Q;simpa using this) G A b
  have u:∀{h:aj},bu h n->cS h br:=λ{h} l N=>by
   rcases q.fQ N with I |I
   ·exact .inl (l.ck I)
   ·exact .inr (i.ck I)
  have w:∃Q h,bu h n/\(if y.eU then y else match C with |some dO=>dO |none=>.eO)=Q/\bx J Q v a4 h:=by
   by_cases d:y.eU=ae
   ·obtain⟨_,L⟩:=bx.eU d g
    refine⟨y,λ_=>k,(λN C I=>by cases I),by rw[if_pos d],?_⟩
    have:=g.bJ A;obtain⟨z,_⟩:=bx.eU d this;have e:ab=λ_=>k:=funext z
    rw[e]at this;exact this
   ·have B:y.eU=ax:=by simpa using d
    rw[if_neg d];cases C with
    |none=>exact⟨.eO,λ_=>k,(λN C I=>by cases I),rfl,nV λ_=>rfl⟩|some dO=>
     obtain⟨M,aN,az,bS⟩:=xa s;have:aD 0=E v:=by have:=hw 0 y (by simp) B;simpa using this
     have:=az v this;subst this;exact⟨dO,n,bu.fc _,rfl,bS⟩
  obtain⟨Q,h,l,ec,D⟩:=w;refine⟨aH h br,λN C I=>?_,?_⟩
  ·unfold aH at I
   cases t:h N with
   |some r=>rw[t]at I;cases I;exact q.s _ _ (l _ _ t)|none=>rw[t]at I;exact q.G _ _ (i _ _ I)
  ·unfold l0;rw[ec]
   unfold bF;exact⟨v,c,h,br,rfl,fH (u l),D,m⟩
theorem ND (w:ah.dR J){bw:cx}{z h:Nat}{body:cE}(A:bw.length=z+h):
  ∀c R q l,fJ J (cy ah z h body) c R q l->aO.d_ J ah l body {de:=λ_ aq=>q .a9 aq,en:=q} (L2.mU bw c) R:=by
 rintro c R q l ⟨F,Y,a,B,D,G,d,b⟩;have K:=ta d;have L:=bF.b6 d;unfold cy at b;split at b
 rotate_left
 ·exact b.elim
 rename_i M
 have P:L2.mU bw c=c.map E++fV h k:=by unfold L2.mU;rw[A,<- L,M,ID]
 rw[P];have S:∀O,ag a O=ax->xv a c O=k:=λO I=>by unfold xv;rw[I];rfl
 have s:∀(O:Nat) y,a[O]?=E y->y.eU=ax->xv a c O=c[O]?:=λO y e Q=>by
  unfold xv ag;rw[e];simp[Q]
 refine aO.ic w body S _ F (f9 R Y) _ F Y R _ (NC h (λO u I=>by
  unfold xv at I;split at I
  ·exact I
  ·cases I) d) (uP B D G K) ?_
 cases e:aO.bb ah (ag a) body (a.map E++fV h k)with
 |aQ=>rw[e]at b;exact b|aW Q x=>
  rw[e]at b;intro o a4 aE aq g ok;obtain⟨br,f,m⟩:=xw s d ok.1.1 g;exact b a4 br aq (wU ok f) m
 |i C x=>
  rw[e]at b;cases C with
  |de=>
   intro o a4 aE aq g ok;obtain⟨br,f,m⟩:=xw s d ok.1.1 g;exact b .a9 a4 br aq (λ_=>k) br (wU ok f) (hh _ λ_=>rfl) (p0 λ_=>rfl) m
  |en y=>
   intro v o a4 n af aE aq g T j ok;obtain⟨br,f,m⟩:=xw s d ok.1.1 g;have c_:cS n br:=λN=>by rcases j.fQ N with I |I;exact .inl I;exact .inr (f.ck I)
   refine b v a4 (aH n br) aq n br (wU ok λN C I=>?_) (fH c_) T m
   unfold aH at I;cases t:n N with
   |some r=>rw[t]at I;cases I;exact j.s _ _ t|none=>rw[t]at I;exact j.G _ _ (f _ _ I)
  |iC=>exact b.elim|gE=>exact b.elim
end
noncomputable def gZ (e:bI):Bool:=e.ctorIdx != 22
def l1:bI->Bool
 |.Call (.Name X _) [] [] _=>X != "super" |_=>ae
noncomputable def hN (e:bI):Bool:=e.ctorIdx != 5
noncomputable def xx (e:bI):Bool:=e.ctorIdx != 26
noncomputable def nh (e:bI):Bool:=e.ctorIdx != 7
noncomputable def rj (e:bI):Bool:=e.ctorIdx<8 ||10<e.ctorIdx
noncomputable def NF (e:bI):Bool:=e.ctorIdx != 25
section
variable {x:PySem.Env}{e C:bI}{aw:ew}{pos fp:Pos}{h:Str}
theorem jF (Y:gZ e=ae):ej (e::aw) x=(ax,eval e x)::ej aw x:=by
 cases e<;>first |rfl |cases Y
theorem rk:∀{aw:ew},aw.all gZ=ae->ej aw x=aw.map λe=>(ax,eval e x)
 |[],_=>rfl|e::aw,Y=>by
  rw[kD,cC]at Y;rw[jF Y.1,rk Y.2];rfl
theorem p2 (Y:aw.all gZ=ae):((h1 pos (ej aw x)).any λX=>X.1)=ax:=by
 rw[rk Y];unfold h1;simp
theorem aaO (Y:aw.all gZ=ae):((h1 pos (ej aw x)).all λX=>!X.1)=ae:=by
 rw[rk Y];unfold h1;simp
theorem vd (Y:l1 C=ae):attributeBase C h x (eval C x)=eval C x:=by
 cases C with
 |Call w aw a V=>cases w with
  |Name id N=>cases aw with
   |nil=>cases a with
    |nil=>
     have Y:(id != "super")=ae:=Y;unfold attributeBase;simp_all
    |cons=>rfl
   |cons=>rfl
  |_=>rfl
 |_=>rfl
theorem NG (Y:aw.all gZ=ae)(a:aw.length<29):methodCallForm (aw.length+([]:List Keyword).length) (h1 pos (ej aw x)) (pa pos (o_ [] x))=ae:=by
 unfold methodCallForm;rw[aaO Y];simp[o_,pa];lia
theorem A4 (Y:aw.all gZ=ae)(a:aw.length<29):((((h1 pos (ej aw x)).all λX=>!X.fst) && (pa pos (o_ [] x)).all λX=>X.fst.isSome) && decide ((aw.length+([]:List Keyword).length+if([]:List Keyword).isEmpty=ae then 0 else 1)<30))=ae:=NG Y a
theorem aaP (b:l1 C=ae)(c:(fp.endLine == pos.line)=ae)(Y:aw.all gZ=ae)(d:aw.length<29):eval (.Call (.Attribute C h fp) aw [] pos) x=(do
   let a <- eval C x
   standAt fp.atName
   let(w,first) <- holding [a] (getMethod a h (do return (<- importBound C x).getD ae))
   callWith pos w first (h1 pos (ej aw x)) (pa pos (o_ [] x))):=by
 have:eval (.Call (.Attribute C h fp) aw [] pos) x=(do
  let a <- attributeBase C h x _
  standAt _
  methodCall C h fp pos x a _ _ _):=rfl
 rw[this,vd b];unfold methodCall calleeOf methodCallPos;rw[(NG   Y d),c];simp
theorem NH (Y:xx e=ae):J5 e:=λ_ _=>by
 cases e<;>first |rfl |cases Y
theorem ve {a:CmpOp}(Y:nh e=ae):behindInMarks a e=ax:=by
 cases e<;>first |rfl |cases Y
theorem FX (Y:nh e=ae)(X:aR):foldedSetIterable e x X=pure X:=by
 cases e<;>first |rfl |cases Y
theorem FY (Y:rj e=ae)(n:pl)(z:Nat):swapsWith e n z x=pure ax:=by
 cases e<;>first |rfl |cases Y
theorem aaQ {bV:bI}(Y:NF e=ae):swappedStores [bV] e x=pure k:=by
 cases bV<;>first |rfl |(cases e<;>first |rfl |cases Y)
theorem aaR {C O:bI}{N:Pos}:swappedStores [.Subscript C O N] e x=pure k:=by
 unfold swappedStores;rfl
noncomputable def A5:bI->Bool
 |.UnaryOp .Not ..=>ax |.BoolOp ..=>ax |.IfExp ..=>ax |.Compare ..=>ax |_=>ae
theorem FZ (Y:A5 e=ae)(a:Sem aR):isTrue e x a=(do let v <- a;standAt e.pos;holding [v] (truthy v)):=by
 cases e with
 |UnaryOp b S N=>cases b<;>first |rfl |cases Y
 |_=>first |rfl |cases Y
end
structure gz where
 bw:cx
 cI:tX
structure o4 where
 f6:cx
 ow:cx
 vf:nA
structure o4.dR (T:o4)(ah:ft)(J:cH)(a7:eu):Prop where
 f6:∀X∈T.f6,a7 X=k
 cls:∀Q∈ah.c9,lG J (da J Q)
 ow:∀Q∈ah.c9,∀S∈T.ow,pA J (da J Q) S
 vf:∀V∈T.vf,um a7 V.1 V.2
 my:∀V∈ah.my,um a7 V.1 (.a0 (da J V.1))
 aW:∀X∈ah.aW,um a7 X (.a0 (da J X))
inductive iJ where
 |b7 (w:b0) (X:Str)|i9 (w:b0) (Q:Str)|eo (h:Str) (Q:Str) (w:b0)|F0 |aaS (X:Str) (a:List (List Nat×List aL))|aaT (w:b0) (X:Str)
abbrev nX:=List iJ
def iJ.R (P:cW)(r:cF)(J:cH)(a7:eu)(bg:Heap)(D:Nat):iJ->Prop
 |.b7 w X=>∃aF j,j<=D/\zP P r J a7 bg fe j X aF (fJ J w)|.i9 w Q=>∃aF j,j+1<=D/\sI P r J a7 bg fe j Q (da J Q) aF (fJ J w)|.eo h Q w=>∃aF j,j<=D/\pK P r J a7 bg fe j (da J Q) h aF (fJ J w)|.F0=>pL J|.aaS X a=>Yi r J X a/\a7 X=E (.ref (da J X))|.aaT w X=>∃aF j,j<=D/\VQ P r J a7 bg j X aF (fJ J w)
noncomputable def nS.aaU:nS->nX
 |.mY _ _=>[.F0]|.pS=>[]
mutual
def H.c1:H->nX
 |.v _=>[]|.D _=>[]|.fu _ _=>[]|.hx _ _=>[]
 |.aT _ S b=>S.c1++b.c1|.mz _ _ S b Q=>S.c1++(b.c1++Q.c1)|.and S b=>S.c1++b.c1|.or S b=>S.c1++b.c1|.not S=>S.c1|.cB S=>S.c1|.mA Q S b=>Q.c1++(S.c1++b.c1)|.sl S a8 aB=>S.c1++(H.vg a8++H.vg aB)|.a_ aI=>H.fA aI|.aG aI=>H.fA aI|.d2 S _=>S.c1|.b7 w X aI=>.b7 w X::H.fA aI|.dK _ aI=>H.fA aI|.eF _ S aI=>S.c1++H.fA aI|.eH _ _ _ dQ _ Q e=>H.fA dQ++(H.vg Q++e.c1)|.i9 w Q aI=>.i9 w Q::H.fA aI|.eo a S h aI=>a.map (λV=>.eo h V.1 V.2)++(S.c1++H.fA aI)|.oO S=>S.c1|.oP S b=>S.c1++b.c1|.m8 C S=>C.aaU++S.c1|.ko S _=>S.c1|.nT=>[]|.oQ _ _ _ S b Q y=>(S.c1++b.c1)++(Q.c1++y.c1)
def H.fA:iZ->nX
 |[]=>[]|S::aI=>S.c1++H.fA aI
def H.vg:kp->nX
 |none=>[]|some S=>S.c1
end
noncomputable def NI:Option nx->Bool
 |some .local=>ae |some .cell=>ae |some .free=>ae |_=>ax
noncomputable def NJ:Option nx->Bool
 |some .local=>ae |some .cell=>ae |_=>ax
def NK (X:Str):Bool:=!(X=="__debug__") && !(X=="__classdict__")
def kP (Q:gz)(X:Str):Bool:=Q.cI.lookup X==E .globalImplicit && !(X=="__debug__")
def F1 (y:ai):Const->Bool
 |.int O=>(match y with |.d j=>O == j |_=>ax)|.bool b=>(match y with |.aM Q=>b == Q |_=>ax)|.none=>(match y with |.a9=>ae |_=>ax)|.str X=>(match y with |.f s=>X.cps.toList == s |_=>ax)|_=>ax
noncomputable def hv.wa:hv->Option Operator
 |.cO=>E .Add |.lb=>E .Sub |.lX=>E .Mult |.dU=>E .Mod |.ib=>E .FloorDiv |_=>k
noncomputable def hv.rl:hv->vY
 |.h6=>E .Lt |.fi=>E .LtE |.hx=>E .Gt |.u5=>E .GtE |.fK=>E .Eq |.ne=>E .NotEq |.is=>E .Is |.q4=>E .IsNot |.oM=>E .In |.AI=>E .NotIn |_=>k
noncomputable def hv.NL:hv->Bool
 |.fj=>ae |_=>ax
noncomputable def oN.cI:oN->Str
 |.b6 => "len" |.dV => "list" |.min => "min" |.f => "str" |.all => "all" |.u6 => "sorted" |.d => "int" |.sZ => "sorted"
noncomputable def jV.cI:jV->Str
 |.jd => "join" |.split => "split" |.find => "find" |.index => "index" |.u7 => "partition" |.q5 => "rpartition"
noncomputable def F2:String->Option Str
 |"int" => E "int" |"bool" => E "bool" |"str" => E "str" |"list" => E "list" |"tuple" => E "tuple" |"dict" => E "dict" |_=>k
def p3 (cI a:tX):List (Str×nx):=a.map λ(z,D)=>if D == .free && cI.lookup z == E .cell then(z,.cell)else(z,D)
def th (Q:gz)(O:Nat):bI->Bool
 |.Name X _=>Q.bw[O]? == E X && NJ (Q.cI.lookup X)|_=>ax
def xy (Q:gz):List Nat->ew->Bool
 |[],[]=>ae|O::is,e::aw=>th Q O e && xy Q is aw|_,_=>ax
def vh (Q:gz)(g:iw)(e:bI):Bool:=match g.a_,e with
 |true,.Tuple aw _ _=>xy Q g.is aw|false,e=>g.is.length == 1 && th Q (g.is.headD 0) e|_,_=>ax
def NM (Q:gz)(g:iw):Bool:=g.is.all λO=>match Q.bw[O]? with |some X=>Q.cI.lookup X == E .local |none=>ax
def F3 (Q:gz)(a:Scope)(bW:cx)(bL:jn):Bool:=
 a.names.all (λt=>t.2 != .cell && (t.2 != .free ||Q.cI.lookup t.1 == E .cell ||Q.cI.lookup t.1 == E .free) && (t.2 != .local ||a.names.lookup t.1 == E .local)) && a.kind == .function &&
 bL.all (λV=>Q.bw[V.2]? == E V.1 && a.names.contains (V.1,NameKind.free) && (Q.cI.lookup V.1 == E .cell ||Q.cI.lookup V.1 == E .free) && ((p3 Q.cI a.names).lookup V.1 == E .cell ||(p3 Q.cI a.names).lookup V.1 == E .free)) && decide (hK bW bL).Nodup
noncomputable def hO:ew->(bI->ew->Bool)->Bool
 |S::s,D=>D S s |[],_=>ax
def hz {N:Prop}[Decidable N](w:N->Bool):Bool:=if Y:N then w Y else ax
theorem ig {N:Prop}[Decidable N]{w:N->Bool}{aJ:Prop}(Y:hz w=ae)(R:N->aJ):aJ:=by
 unfold hz at Y;grind
def mF (e:bI)(D:Str->Bool):Bool:=hz λO=>Expr.Name.elim e O λX _=>D X
def lj (e:bI)(D:bI->ew->Pos->Bool):Bool:=hz λO=>Expr.Call.elim e O λw aw a V=>a.isEmpty && D w aw V
def p4 (e:bI)(D:bI->Str->Pos->Bool):Bool:=hz λO=>Expr.Attribute.elim e O λC h N=>D C h N
def F4 (e:bI)(D:bI->Operator->bI->Bool):Bool:=hz λO=>Expr.BinOp.elim e O λs C G _=>D s C G
def xA (e:bI)(D:bI->List CmpOp->ew->Bool):Bool:=hz λO=>Expr.Compare.elim e O λs C G _=>D s C G
def ti (e:bI)(D:bI->bI->Bool):Bool:=hz λO=>Expr.Subscript.elim e O λs G _=>D s G
def A6 (e:bI)(D:pl->pl->pl->Bool):Bool:=hz λO=>Expr.Slice.elim e O λS b Q _=>D S b Q
def rm (e:bI)(D:UnaryOp->bI->Bool):Bool:=hz λO=>Expr.UnaryOp.elim e O λC X _=>D C X
def NN (e:bI)(D:bI->bI->bI->Bool):Bool:=hz λO=>Expr.IfExp.elim e O λn X t _=>D n X t
def e_ (e:bI)(D:ew->Bool):Bool:=hz λO=>Expr.Tuple.elim e O λaw _ _=>D aw
def NO (e:bI)(D:ew->Bool):Bool:=hz λO=>Expr.List.elim e O λaw _=>D aw
def rn (e:bI)(D:Const->Bool):Bool:=hz λO=>Expr.Constant.elim e O λQ _ _=>D Q
def NP (e:bI)(D:bI->List Comprehension->Scope->Bool):Bool:=hz λO=>Expr.ListComp.elim e O λX g A _=>D X g A
def NQ (e:bI):Bool:=hz λO=>Expr.Dict.elim e O λS b _=>S.isEmpty && b.isEmpty
def vi (C:BoolOp)(e:bI)(D:bI->bI->Bool->Bool):Bool:=hz λO=>Expr.BoolOp.elim e O λbS aw N=>bS == C && hO aw λX aw=>hO aw λt s=>D X (bif s.isEmpty then t else .BoolOp C (t::s) N) s.isEmpty
section
variable {e:bI}{aJ:bI->Prop}
theorem hP {s:ew}{aJ:ew->Prop}{D}(Y:hO s D=ae)(R:∀S n,D S n=ae->aJ (S::n)):aJ s:=by cases s with |nil=>cases Y |cons S n=>exact R S n Y
theorem ni {D}(Y:mF e D=ae)(R:∀X N,D X=ae->aJ (.Name X N)):aJ e:=ig Y λO=>Expr.Name.elim  e O R Y
theorem l2 {D}(Y:lj e D=ae)(R:∀w aw V,D w aw V=ae->aJ (.Call w aw [] V)):aJ e:=ig Y λO=>Expr.Call.elim  e O (λw aw a V Y=>by cases a with |nil=>exact R w aw V Y |cons=>cases Y) Y
theorem ro {D}(Y:p4 e D=ae)(R:∀C h N,D C h N=ae->aJ (.Attribute C h N)):aJ e:=ig Y λO=>Expr.Attribute.elim  e O R Y
theorem NR {D}(Y:F4 e D=ae)(R:∀s C G N,D s C G=ae->aJ (.BinOp s C G N)):aJ e:=ig Y λO=>Expr.BinOp.elim  e O R Y
theorem A7 {D}(Y:xA e D=ae)(R:∀s C G N,D s C G=ae->aJ (.Compare s C G N)):aJ e:=ig Y λO=>Expr.Compare.elim  e O R Y
theorem vj {D}(Y:ti e D=ae)(R:∀s G N,D s G=ae->aJ (.Subscript s G N)):aJ e:=ig Y λO=>Expr.Subscript.elim  e O R Y
theorem F5 {D}(Y:A6 e D=ae)(R:∀S b Q N,D S b Q=ae->aJ (.Slice S b Q N)):aJ e:=ig Y λO=>Expr.Slice.elim  e O R Y
theorem xB {D}(Y:rm e D=ae)(R:∀C X N,D C X=ae->aJ (.UnaryOp C X N)):aJ e:=ig Y λO=>Expr.UnaryOp.elim  e O R Y
theorem aaV {D}(Y:NN e D=ae)(R:∀n X t N,D n X t=ae->aJ (.IfExp n X t N)):aJ e:=ig Y λO=>Expr.IfExp.elim  e O R Y
theorem F6 {D}(Y:e_ e D=ae)(R:∀aw z N,D aw=ae->aJ (.Tuple aw z N)):aJ e:=ig Y λO=>Expr.Tuple.elim  e O R Y
theorem aaW {D}(Y:NO e D=ae)(R:∀aw N,D aw=ae->aJ (.List aw N)):aJ e:=ig Y λO=>Expr.List.elim  e O R Y
theorem vk {D}(Y:rn e D=ae)(R:∀Q z N,D Q=ae->aJ (.Constant Q z N)):aJ e:=ig Y λO=>Expr.Constant.elim  e O R Y
theorem aaX {D}(Y:NP e D=ae)(R:∀X g A N,D X g A=ae->aJ (.ListComp X g A N)):aJ e:=ig Y λO=>Expr.ListComp.elim  e O R Y
theorem aaY (Y:NQ e=ae)(R:∀N,aJ (.Dict [] [] N)):aJ e:=ig Y λO=>Expr.Dict.elim  e O (λS b N Y=>by cases S<;>cases b<;>first |exact R N |cases Y) Y
theorem xC {C:BoolOp}{D}(Y:vi C e D=ae)(R:∀X t s N,D X (bif s.isEmpty then t else .BoolOp C (t::s) N) s.isEmpty=ae->aJ (.BoolOp C (X::t::s) N)):aJ e:=ig Y λO=>Expr.BoolOp.elim  e O (λbS aw N Y=>by
 have Y:=kW.mp Y;cases eq_of_beq Y.1;exact hP (aJ:=λs=>aJ (.BoolOp C s N)) Y.2 λX n Y=>hP (aJ:=λs=>aJ (.BoolOp C _ N)) Y λt s Y=>R X t s N Y) Y
end
noncomputable def hb.NS:hb->Bool
 |.dy=>ae |_=>ax
noncomputable def hb.cI:hb->Str
 |.q6 => "enumerate" |.zip => "zip" |_ => "range"
noncomputable def hb.aaZ:hb->Nat
 |.bR=>2 |.zip=>2 |_=>1
noncomputable def hb.NT:hb->Bool
 |.q6=>ae |.zip=>ae |_=>ax
section
variable (T:o4)(ah:ft)
def A8 (Q:gz)(du:hb)(bV:iw)(a:bI)(b:Bool)(c:ew->Bool):Bool:=bif du.NS then b else
 lj a λw aw _=>mF w λt=>t == du.cI && aw.length == du.aaZ && kP Q t && T.f6.contains t && (bV.a_ || !du.NT) && c aw
mutual
def dM:gz->H->bI->Bool
 |Q,.v O,e=>mF e λX=>Q.bw[O]? == E X && NI (Q.cI.lookup X) && NK X|Q,.D y,e=>rn e (F1 y)|Q,.fu X y,e=>mF e λt=>X == t && kP Q X && (y.f_).any λv=>T.vf.contains (X,v)|Q,.hx X P,e=>mF e λt=>X == t && kP Q X && ah.my.any (λV=>V.1 == X)| Q,.aT C S b,e=>F4 e (λs x G=>C.wa == E x && dM Q S s && dM Q b G)||
   (xA e (λs a c=>hO c λG n=>a.map E == [C.rl] && n.isEmpty && nh G && dM Q S s && dM Q b G)||
   ti e (λs G=>C.NL && xx G && dM Q S s && dM Q b G))
 |Q,.mz C bS S b y,e=>xA e λs a c=>hO c λG n=>hO n λf g=>a.map E == [C.rl,bS.rl] && g.isEmpty && nh f && dM Q S s && dM Q b G && dM Q y f|Q,.and S b,e=>vi .And e λX t s=>hN X && (!s ||hN t) && dM Q S X && dM Q b t|Q,.or S b,e=>vi .Or e λX t s=>hN X && (!s ||hN t) && dM Q S X && dM Q b t|Q,.not S,e=>rm e λC X=>C == .Not && hN X && dM Q S X|Q,.cB S,e=>rm e λC X=>C == .USub && dM Q S X|Q,.mA y S b,e=>NN e λn X t=>hN n && dM Q y n && dM Q S X && dM Q b t|Q,.sl S a8 aB,e=>ti e λs G=>A6 G λA B F=>F.isNone && dM Q S s && F7 Q a8 A && F7 Q aB B|Q,.a_ aI,e=>e_ e (jG Q aI)|Q,.aG aI,e=>NO e (jG Q aI)|Q,.d2 S w,e=>p4 e λC J _=>w == J && T.ow.contains w && l1 C && dM Q S C|Q,.b7 w X aI,e=>lj e λt aw _=>mF t λt=>X == t && kP Q X && jG Q aI aw|Q,.dK C aI,e=>lj e λt aw _=>mF t λt=>t == C.cI && kP Q t && T.f6.contains t && !aI.isEmpty && jG Q aI aw|Q,.eF C S aI,e=>lj e λG aw V=>p4 G λG h N=>h == C.cI && l1 G && N.endLine == V.line && decide (aw.length<29) && !aI.isEmpty && dM Q S G && jG Q aI aw| Q,.eH bW bL du dQ bV y X,e=>NP e λhJ o d=>o.length == 1 && o.all λV=>V.is_async == 0 && F3 Q d bW bL && vh ⟨hK bW bL,p3 Q.cI d.names⟩ bV V.target && NM ⟨hK bW bL,p3 Q.cI d.names⟩ bV && nh V.iter &&
   A8 T Q du bV V.iter (xD Q dQ V.iter) (λaw=>jG Q dQ aw) && F8 ⟨hK bW bL,p3 Q.cI d.names⟩ y V.ifs && dM ⟨hK bW bL,p3 Q.cI d.names⟩ X hJ
 |Q,.i9 w D aI,e=>lj e λt aw _=>mF t λt=>D == t && kP Q t && jG Q aI aw|Q,.eo R S h aI,e=>lj e λG aw V=>p4 G λG K N=>h == K && l1 G && N.endLine == V.line && decide (aw.length<29) && dM Q S G && jG Q aI aw|Q,.m8 C S,e=>(match C with
  |.mY s h=>lj e λG aw V=>p4 G λG z N=>hO aw λX n=>hO n λt n=>z=="replace" && n.isEmpty && l1 G && N.endLine==V.line && rn X (λI=>I==.str ⟨#[s]⟩) && rn t (λI=>I==.str ⟨#[h]⟩) && dM Q S G|.pS=>ti e λs G=>A6 G λi j l=>i.isNone && j.isNone && l.any (λu=>rm u λC r=>C == .USub && rn r λI=>I == .int 1) && dM Q S s)
 |Q,.oO S,e=>ti e λs G=>A6 G λi j l=>i.isNone && j.isNone && l.any (λu=>rm u λC r=>C == .USub && rn r λI=>I == .int 1) && dM Q S s|Q,.oP S b,e=>lj e λt aw _=>mF t λt=>hO aw λG n=>lj G λI m _=>mF I λI=>hO m λX dP=>hO dP λr cv=>t=="list" && I=="range" && n.isEmpty && cv.isEmpty && kP Q t && kP Q I && T.f6.contains t && T.f6.contains I && gZ X && gZ r && dM Q S X && dM Q b r|Q,.ko S z,e=>lj e λt aw _=>mF t λt=>hO aw λX n=>hO n λI cv=>mF I λI=>t=="isinstance" && cv.isEmpty && kP Q t && T.f6.contains t && gZ X && F2 z==E I && kP Q I && T.f6.contains I && dM Q S X|_,.nT,e=>NQ e|Q,.oQ C bS L S b y w,e=>xA e λs a c=>hO c λG n=>hO n λf g=>hO g λq M=>a.map E == [C.rl,bS.rl,L.rl] && M.isEmpty && nh q && dM Q S s && dM Q b G && dM Q y f && dM Q w q
def xD:gz->iZ->bI->Bool
 |_,[],_=>ax|Q,S::aI,e=>aI.isEmpty && dM Q S e
def jG:gz->iZ->ew->Bool
 |_,[],aw=>aw.isEmpty|Q,S::aI,aw=>hO aw λe aw=>gZ e && dM Q S e && jG Q aI aw
def F7:gz->kp->pl->Bool
 |_,k,e=>e.isNone|Q,E S,e=>e.any (dM Q S)
def F8:gz->kp->ew->Bool
 |_,k,aw=>aw.isEmpty|Q,E S,aw=>hO aw λe n=>n.isEmpty && hN e && dM Q S e
end
end
structure xE (Z:bQ)(Q:gz):Prop where
 bw:Z.bw=Q.bw
 cI:Z.x.scope.names=Q.cI
 hp:Z.x.scope.kind=.function
theorem F9 {H:bQ}{l:b4}:lI fe H l:=λ_ _ _ _ _ _ _ Y=>Y.elim
structure iM (Z:bQ)(Q:gz)(D:Nat)(l:b4):Prop extends xE Z Q where
 fo:Z.fo=ae
 p5:gk D Z.p
 mE:lI fe Z l
 cells:∀X,(Q.cI.lookup X=E .cell\/Q.cI.lookup X=E .free)->∃S,Z.x.cells.lookup X=E S
section
variable {Z:bQ}{Q:gz}{D:Nat}{l:b4}{X h:Str}{e C:bI}{aw:ew}{n:bN}{bE:fg}{N pos fp:Pos}
theorem iM.nY (g:iM Z Q D l):Z.p.units+60<cLine:=by have:=g.p5.aH;lia
theorem aa0 (g:xE Z Q)(Y:NI (Q.cI.lookup X)=ae):t7 Z.x.scope X:=by
 unfold t7;rw[g.cI]
 revert Y;cases Q.cI.lookup X with
 |none=>intro Y;cases Y
 |some D=>cases D<;>intro Y<;>first |exact .inl rfl  |trivial
theorem NU (g:xE Z Q)(Y:NJ (Q.cI.lookup X)=ae):L2.t8 Z.x.scope X:=by
 unfold L2.t8;rw[g.cI]
 revert Y;cases Q.cI.lookup X with
 |none=>intro Y;cases Y
 |some D=>cases D<;>intro Y<;>first |exact .inl rfl |exact .inr rfl |cases Y
theorem nZ (g:xE Z Q)(Y:kP Q X=ae):iD Z X/\(X==("__debug__":Str))=ax:=by
 unfold kP at Y;rw[cC]at Y;refine⟨?_,by simpa using Y.2⟩
 unfold iD CZ;rw[g.cI];exact eq_of_beq Y.1
structure dZ (Z:bQ)(e:bI)(n:bN):Prop where
 c3:bt Z e n
 kJ:hN e=ae->hq Z e (k3 n)
 NV:∀a c N,e=.BoolOp a c N->om Z e (k3 n)
theorem gA (Y:bt Z e n)(a:A5 e=ae):dZ Z e n:=⟨Y,λ_=>Va Y (FZ a),λb c N I=>by rw[I]at a;cases a⟩
theorem aa1 (Y:bt Z e n)(a:hN e=ax):dZ Z e n:=⟨Y,(λI=>by grind),(λb c N I=>by rw[I]at a;cases a)⟩
theorem NW {S b:bI}{dP cv:bN}{a:CmpOp}{G:d0}(c:dj Z (eJ a) G)(d:dZ Z S dP)(e:dZ Z b cv)(f:nh b=ae):dZ Z (.Compare S [a] [b] pos) (nE G dP cv):=
 ⟨Vc c d.c3 e.c3 (ve f),λ_=>Vb c d.c3 e.c3 (ve f),λ_ _ _ I=>by cases I⟩
theorem aa2 {S b y:bI}{dP cv a:bN}{c d:CmpOp}{G e:d0}(f:dj Z (eJ c) G)(g:dj Z (eJ d) e)(h:dZ Z S dP)(i:dZ Z b cv)(j:dZ Z y a)(l:nh y=ae):dZ Z (.Compare S [c,d] [b,y] pos) (wx G e dP cv a):=
 ⟨Ve f g h.c3 i.c3 j.c3 (ve l),λ_=>Vf f g h.c3 i.c3 j.c3 (ve l),λ_ _ _ I=>by cases I⟩
theorem A9 {a:BoolOp}{c:ew}(Y:bt Z (.BoolOp a c pos) n)(af:om Z (.BoolOp a c pos) (k3 n)):dZ Z (.BoolOp a c pos) n:=⟨Y,λ_=>af.kJ,λ_ _ _ _=>af⟩
theorem NX {S b:bI}{dP cv:bN}(a:dZ Z S dP)(c:dZ Z b cv)(d:hN S=ae)(e:hN b=ae):dZ Z (.BoolOp .And [S,b] pos) (sg dP cv):=
 A9 (Kr a.c3 (Jy c.c3)) (DY (a.kJ d) (Jx (c.kJ e)))
theorem NY {S b y:bI}{G:ew}{dP cv:bN}(a:dZ Z S dP)(c:dZ Z (.BoolOp .And (b::y::G) pos) cv)(d:hN S=ae):dZ Z (.BoolOp .And (S::b::y::G) pos) (sg dP cv):=
 A9 (Kr a.c3 c.c3) (DY (a.kJ d) (c.NV _ _ _ rfl))
theorem NZ {S b:bI}{dP cv:bN}(a:dZ Z S dP)(c:dZ Z b cv)(d:hN S=ae)(e:hN b=ae):dZ Z (.BoolOp .Or [S,b] pos) (qH dP cv):=
 A9 (Ks a.c3 (Jy c.c3)) (Kt (a.kJ d) (Ss (c.kJ e)))
theorem N0 {S b y:bI}{G:ew}{dP cv:bN}(a:dZ Z S dP)(c:dZ Z (.BoolOp .Or (b::y::G) pos) cv)(d:hN S=ae):dZ Z (.BoolOp .Or (S::b::y::G) pos) (qH dP cv):=
 A9 (Ks a.c3 c.c3) (Kt (a.kJ d) (c.NV _ _ _ rfl))
theorem N1 {S:bI}{dP:bN}(a:dZ Z S dP)(b:hN S=ae):dZ Z (.UnaryOp .Not S pos) (uj dP):=
 ⟨U_ a.c3,λ_=>Su (a.kJ b),λ_ _ _ I=>by cases I⟩
theorem N2 {b:hv}{a:Operator}(Y:b.wa=E a):dj Z (j4 a) (b.G Z.J):=by
 cases b<;>cases Y
 ·exact ZA
 ·exact UX
 ·exact WE
 ·exact UY
 exact Wz
theorem tj (a:Z.p.units+60<cLine){b:hv}{c:CmpOp}(Y:b.rl=E c):dj Z (eJ c) (b.G Z.J):=by
 cases b<;>cases Y
 ·exact UZ
 ·exact U0
 ·exact U1
 ·exact U2
 ·exact XY a
 ·exact X0 a
 ·exact U5
 ·exact U6
 ·exact Zb a
 exact Zc a
theorem aa3 {y:ai}{a:Const}{j:Nat}(Y:F1 y a=ae):bt Z (.Constant a j pos) (gG (y.f_.getD .a9)):=by
 cases a with
 |int O=>cases y<;>first |(cases eq_of_beq Y;exact Dd)|cases Y
 |bool b=>cases y<;>first |(cases eq_of_beq Y;exact Sm)|cases Y
 |none=>cases y<;>first |exact Sn |cases Y
 |str I=>cases y<;>first |(have Y:=eq_of_beq Y;subst Y;exact UU (by cases (I);rfl))|cases Y
 |_=>cases Y
theorem N3 {cf:gH}{aF:cx}{j:Nat}(F:zP Z.cb Z.r Z.J Z.a7 Z.bg fe j X aF cf)(f:gk j Z.p)(g:lI fe Z l)(m:gF Z aw bE)(a:aw.all gZ=ae)(h:iD Z X)(i:(X==("__debug__":Str))=ax)(n:aw=[]->bE=hG):
  bt Z (.Call (.Name X N) aw [] pos) (qD cf [] l bE):=by
 cases aw with
 |nil=>
  rw[n rfl];obtain⟨w,bG,F,b,c,d⟩:=F;exact TH F f h b c d .nil g i
 |cons e aw=>
  rw[kD,cC]at a;obtain⟨w,bG,F,b,c,d⟩:=F;exact TG F f h b c d .nil g m i (jF a.1) (p2 a.2)
theorem aa4 {cf:gH}{aF:cx}{j:Nat}{aJ:aV}(F:sI Z.cb Z.r Z.J Z.a7 Z.bg fe j X aJ aF cf)(f:gk (j+1) Z.p)(g:lI fe Z l)(m:gF Z aw bE)(a:aw.all gZ=ae)(h:iD Z X)(i:(X==("__debug__":Str))=ax)(n:aw=[]->bE=hG):
  bt Z (.Call (.Name X N) aw [] pos) (ue aJ cf [] l bE):=by
 cases aw with
 |nil=>
  rw[n rfl];obtain⟨w,bG,F,b,c,d⟩:=F;exact TO b F f h c d .nil g i
 |cons e aw=>
  rw[kD,cC]at a;obtain⟨w,bG,F,b,c,d⟩:=F;exact TN b F f h c d .nil g m i (jF a.1) (p2 a.2)
theorem aa5 {cf:gH}{aF:cx}{j:Nat}{aJ:aV}(F:pK Z.cb Z.r Z.J Z.a7 Z.bg fe j aJ h aF cf)(d:gk j Z.p)(f:lI fe Z l)(g:bt Z C n)(o:gF Z aw bE)(b:aw.all gZ=ae)(a:l1 C=ae)(q:(fp.endLine == pos.line)=ae)(r:aw.length<29)(s:aw=[]->bE=hG):
  bt Z (.Call (.Attribute C h fp) aw [] pos) (zp aJ h cf [] l n bE):=by
 have i:=aaP (x:=Z.x) (h:=h) a q b r;cases aw with
 |nil=>
  rw[s rfl];obtain⟨w,bG,F,Q,c,a⟩:=F;exact TK g Q c F d a .nil f i
 |cons e aw=>
  rw[kD,cC]at b;obtain⟨w,bG,F,Q,c,a⟩:=F;exact TJ g Q c F d a .nil f o (jF b.1) (p2 b.2) i
theorem aa6 (g:iM Z Q D l){b:oN}(a:Z.a7 b.cI=k)(c:gF Z aw bE)(j:aw.all gZ=ae)(m:aw≠[])(n:kP Q b.cI=ae):bt Z (.Call (.Name b.cI N) aw [] pos) (k1 (b.G Z.J) bE):=by
 obtain⟨h,i⟩:=nZ g.toxE n;cases aw with
 |nil=>exact absurd rfl m|cons e aw=>
  rw[kD,cC]at j;have bh:=jF (x:=Z.x) (aw:=aw) j.1;have bj:=p2 (x:=Z.x) (pos:=pos) j.2;cases b with
  |b6=>exact uo Zd a c h rfl (by decide) i bh bj|dV=>exact wz "list" (ZI g.fo) a c h rfl (by decide) i bh bj|min=>exact uo (Vl g.fo) a c h rfl (by decide) i bh bj|f=>exact wz "str" VG a c h rfl (by decide) i bh bj|all=>exact uo (VT g.fo) a c h rfl (by decide) i bh bj|u6=>exact uo (ZK g.fo) a c h rfl (by decide) i bh bj|d=>exact wz "int" WN a c h rfl (by decide) i bh bj|sZ=>exact uo (WZ WV) a c h rfl (by decide) i bh bj
theorem N4 {b:jV}(a:bt Z C n)(c:gF Z aw bE)(g:aw.all gZ=ae)(h:l1 C=ae)(d:(fp.endLine==pos.line)=ae)(i:aw.length<29)(j:aw≠[]):bt Z (.Call (.Attribute C b.cI fp) aw [] pos) (pC Z.J "str" (b.G Z.J) n bE):=by
 cases aw with
 |nil=>exact absurd rfl j|cons e aw=>
  have w:=A4 (x:=Z.x) (pos:=pos) g i;rw[kD,cC]at g;have bh:=jF (x:=Z.x) (aw:=aw) g.1;have bj:=p2 (x:=Z.x) (pos:=pos) g.2;have f:=λz=>vd (x:=Z.x) (h:=z) h
  cases b with
  |jd=>exact uq XJ XK Vu a c (f _) w d bh bj|split=>exact uq XH XI Xu a c (f _) w d bh bj|find=>exact uq XD XE Vq a c (f _) w d bh bj|index=>exact uq XF XG Vr a c (f _) w d bh bj|u7=>exact uq Jb PySem.F.type_str_partition Yf a c (f _) w d bh bj|q5=>exact uq Ja PySem.F.type_str_rpartition Yg a c (f _) w d bh bj
variable {T:o4}{ah:ft}
theorem F_ {c:jS}:∀(d:tX) (a:jS),(∀t∈d,t.2=.free->∃S,c.lookup t.1=E S)->∃bZ,mW c d a=E bZ
 |[],a,_=>⟨a,rfl⟩|(z,D)::G,a,Y=>by
  unfold mW;split
  ·rename_i e
   obtain⟨S,f⟩:=Y _ (ek ..) (eq_of_beq e);rw[f];exact F_ G _ λt b=>Y t (fM _ b)
  exact F_ G _ λt b=>Y t (fM _ b)
theorem Ga (g:iM Z Q D l){a:Scope}:(relabel a Z.x).names=p3 Q.cI a.names:=by
 unfold relabel p3 CZ;rw[g.hp,g.cI];simp
theorem aa7 (g:iM Z Q D l){a:Scope}{bW:cx}{bL:jn}(Y:F3 Q a bW bL=ae):
  (hK bW bL).Nodup/\∃bZ,uh Z a bZ bW bL/\∀aJ h bj a5,iM (kf Z a bZ aJ (hK bW bL) h bj a5) ⟨hK bW bL,p3 Q.cI a.names⟩ D jw:=by
 unfold F3 at Y;rw[cC,cC,cC]at Y;obtain⟨⟨⟨ab,af⟩,br⟩,j⟩:=Y;have ab:=mM.mp ab;have br:=mM.mp br;have af:a.kind=.function:=eq_of_beq af;have d:∀t∈a.names,t.2≠.cell:=λt c=>by have:=ab t c;simp at this;exact this.1.1
 have m:∀t∈a.names,t.2=.free->Q.cI.lookup t.1=E .cell\/Q.cI.lookup t.1=E .free:=λt c I=>by
  have:=ab t c;simp[I]at this;exact this
 obtain⟨bZ,i⟩:=F_ (c:=Z.x.cells) a.names [] λt c I=>g.cells _ (m t c I)
 refine⟨of_decide_eq_true j,bZ,⟨i,d,af,λI n e=>?_,λV o=>?_⟩,λaJ h bj a5=>⟨⟨rfl,Ga g,af⟩,g.fo,g.p5,F9,λX f=>?_⟩⟩
 ·have:=ab I n;simp[e]at this;exact this
 ·have:=br V o
  simp at this;obtain⟨⟨⟨S,b⟩,y⟩,e⟩:=this;unfold CZ;rw[g.bw,g.cI,Ga g];exact⟨S,b,y,e⟩
 ·have f:(relabel a Z.x).names.lookup X=E .cell\/(relabel a Z.x).names.lookup X=E .free:=by rw[Ga g];exact f
  have q:(X,NameKind.free)∈a.names:=f.elim (λI=>zD I (.inl rfl) d) λI=>zD I (.inr rfl) d
  exact zC a.names [] bZ i X (.inl q)
theorem Gb (g:xE Z Q)(b:Q.bw.Nodup){O:Nat}(a:(∀X,Z.ho X=ae)\/∀X,Q.bw[O]?=E X->Q.cI.lookup X=E .local)(Y:th Q O e=ae):jU Z e (oq O)/\∃X N,e=.Name X N:=by
 unfold th at Y;split at Y
 ·rename_i X N
  rw[cC]at Y;have aB  := eq_of_beq Y.1;exact⟨SH (by rwa[g.bw]) (by rwa[g.bw]) (NU g Y.2) (a.elim (λI=>.inl (I X)) λI=>.inr (by rw[g.cI];exact I X aB)),X,N,rfl⟩
 cases Y
theorem Gd (g:iM Z Q D l)(a:Q.bw.Nodup):∀{is:bo}{aw:ew},((∀X,Z.ho X=ae)\/∀O∈is,∀X,Q.bw[O]?=E X->Q.cI.lookup X=E .local)->xy Q is aw=ae->nD Z aw (u0 is)/\(jN aw Z.x).length=is.length/\(jN aw Z.x).findIdx? (·.1)=k
 |[],[],_,_=>⟨VC,rfl,rfl⟩|[],_::_,_,Y=>by cases Y
 |_::_,[],_,Y=>by cases Y
 |O::is,e::aw,hf,Y=>by
  unfold xy at Y;rw[cC]at Y;obtain⟨ab,X,N,rfl⟩:=Gb g.toxE a  (hf.imp id λI=>I O (ek ..)) Y.1
  obtain⟨S,b,y⟩:=Gd g a   (hf.imp id λI j c=>I j (fM _ c)) Y.2
  refine⟨VD ab S,?_,?_⟩
  ·show(jN aw _).length+1=_;rw[b];rfl
  ·show List.findIdx? _ ((ax,_)::jN aw _)=k
   rw[List.findIdx?_cons];simp[y]
theorem N5 (g:iM Z Q D l)(d:Q.bw.Nodup){bV:iw}(a:(∀X,Z.ho X=ae)\/NM Q bV=ae)(Y:vh Q bV e=ae):jU Z e (pP Z.J bV):=by
 have a:(∀X,Z.ho X=ae)\/∀O∈bV.is,∀X,Q.bw[O]?=E X->Q.cI.lookup X=E .local:=a.imp id λI O aB X i=>by
  have:=mM.mp I O aB;rw[i]at this;exact eq_of_beq this
 unfold vh at Y;unfold pP;split at Y
 ·rename_i aw _ _ c
  rw[if_pos c];obtain⟨S,b,y⟩:=Gd g d a Y;intro ag A o R v u q f G Y;rcases Y with Y |⟨af,Y⟩
  ·exact VE g.fo S b y ag A o R v u q f G Y
  ·exact Xw g.fo S (b.trans af) y ag A o R v u q f G Y
 ·rename_i c
  rw[if_neg (by rw[c];decide)]
  rw[cC]at Y;refine(Gb g.toxE d (a.imp id λI=>?_) Y.2).1
  have h:=eq_of_beq Y.1;cases aB:bV.is with
  |nil=>rw[aB]at h;cases h|cons O G=>rw[aB]at I;exact I O (ek ..)
 ·cases Y
theorem aa8 {w:Str}(a:∀y∈ah.c9,lG Z.J (da Z.J y)/\pA Z.J (da Z.J y) w)(c:bt Z e n)(d:l1 e=ae):bt Z (.Attribute e w pos) (Aw Z.J ah.c9 n w):=by
 intro ag A o R q f Y;obtain⟨y,b,Y⟩:=Y;exact Xn (a y b).1 (a y b).2 c (vd d) ag A o R q f Y
theorem aa9 {a:oL}(b:∀V∈a,∃aF j,j<=D/\pK Z.cb Z.r Z.J Z.a7 Z.bg fe j (da Z.J V.1) h aF (fJ Z.J V.2))(c:gk D Z.p)(d:lI fe Z l)(e:bt Z C n)(f:gF Z aw bE)(g:aw.all gZ=ae)(i:l1 C=ae)(m:(fp.endLine == pos.line)=ae)(r:aw.length<29)(s:aw=[]->bE=hG):
  bt Z (.Call (.Attribute C h fp) aw [] pos) (u2 Z.J a h l n bE):=by
 intro ag A o R q t Y;obtain⟨V,u,Y⟩:=Y;obtain⟨aF,j,v,F⟩:=b V u;exact aa5 F (c.bJ v) d e f g i m r s ag A o R q t Y
theorem aa_ (g:iM Z Q D l){z:String}{t:Str}{d c7:Pos}(f:bt Z e n)(b:gZ e=ae)(ab:kP Q "isinstance"=ae)(af:Z.a7 "isinstance"=k)(a:F2 z=E t)(br:kP Q t=ae)(h:Z.a7 t=k):bt Z (.Call (.Name "isinstance" d) [e,.Name t c7] [] pos) (k1 (AA Z.J) (gT n (gT (gG (.fW z)) hG))):=by
 obtain⟨i,j⟩:=nZ g.toxE ab;obtain⟨m,o⟩:=nZ g.toxE br;have c:oc t=E (.type z)/\t ≠ "__name__":=by
  unfold F2 at a;split at a<;>cases a<;>exact⟨rfl,by decide⟩
 exact uo Zs af (pB f (pB (Vv z h m c.1 c.2 o) we (jF rfl)) (jF b)) i rfl (by decide) j (jF b) (p2 rfl)
theorem aba {S b Q y:bI}{bE c5 iq lL:bN}{a c d:CmpOp}{G h i:d0}(z:dj Z (eJ a) G)(B:dj Z (eJ c) h)(C:dj Z (eJ d) i)(F:bt Z S bE)(J:bt Z b c5)(K:bt Z Q iq)(L:bt Z y lL)
  (M:lastMarks [a,c,d] [b,Q,y]=ax):hq Z (.Compare S [a,c,d] [b,Q,y] pos) (k3 (wD G h i bE c5 iq lL)):=by
 intro ag A o R q N Y;refine isTrue_chain (b9 (F ag A o R _ N Y) λv bh ⟨X,ar,O,bC,P⟩=>test_link (b9 (J ag bh o ar _ O P) λu bj ⟨t,a5,T,bR,U⟩=>
  b9 (z ag bj o a5 X t v u _ T bC bR U) λy V ⟨I,j,l,W,e⟩=>?_)) M
 cases I with
 |aM D=>
  cases W;refine kV ?_;cases D with
  |false=>exact ite_ff ⟨j,l,e.2 rfl⟩|true=>
   refine ite_tt (test_link (b9 (K ag V o j _ l (e.1 rfl)) λm aa ⟨n,ab,ac,r,af⟩=>b9 (B ag aa o ab t n u m _ ac bR r af) λdO ah f=>?_))
   obtain⟨aj,s,w,ak,g⟩:=f;cases aj with
   |aM al=>
    cases ak;refine kV ?_;cases al with
    |false=>exact ite_ff ⟨s,w,g.2 rfl⟩|true=>
     refine ite_tt (test_last (b9 (L ag ah o s _ w (g.1 rfl)) λam an ⟨ao,ap,aq,as,au⟩=>b9 (C ag an o ap n ao m am _ aq r as au) λdO aA f=>?_))
     obtain⟨av,aw,ay,az,x⟩:=f;cases av with
     |aM aB=>cases az;exact kV ⟨aw,ay,x⟩|_=>exact x.elim
   |_=>exact g.elim
 |_=>exact e.elim
theorem abb {S b y w:bI}{dP cv a c:bN}{d e f:CmpOp}{G g h:d0}(i:dj Z (eJ d) G)(j:dj Z (eJ e) g)(l:dj Z (eJ f) h)(m:dZ Z S dP)(n:dZ Z b cv)(o:dZ Z y a)(q:dZ Z w c)(r:nh w=ae):dZ Z (.Compare S [d,e,f] [b,y,w] pos) (wD G g h dP cv a c):=
 ⟨VX i j l m.c3 n.c3 o.c3 q.c3 (ve r),λ_=>aba i j l m.c3 n.c3 o.c3 q.c3 (ve r),λ_ _ _ I=>by cases I⟩
theorem Ge {a:List CmpOp}{S:vY}(Y:[S]=a.map E):∃X,S=E X/\a=[X]:=by
 cases a with
 |nil=>cases Y|cons X s=>simp_all
theorem N6 {a:List CmpOp}{S b:vY}(Y:[S,b]=a.map E):∃X t,S=E X/\b=E t/\a=[X,t]:=by
 cases a with
 |nil=>cases Y|cons X s=>
  obtain⟨t,rfl,rfl⟩:=Ge (y5 Y).2;exact⟨X,t,(y5 Y).1,rfl,rfl⟩
theorem abc {a:List CmpOp}{S b y:vY}(Y:[S,b,y]=a.map E):∃X t I,S=E X/\b=E t/\y=E I/\a=[X,t,I]:=by
 cases a with
 |nil=>cases Y|cons X s=>
  obtain⟨t,I,rfl,rfl,rfl⟩:=N6 (y5 Y).2;exact⟨X,t,I,(y5 Y).1,rfl,rfl,rfl⟩
theorem l3:∀{aI:iZ}{aw:ew},jG T ah Q aI aw=ae->aw.all gZ=ae/\(aw=[]↔aI=[])
 |[],aw,Y=>by
  unfold jG at Y;rw[j8.mp Y];trivial
 |S::aI,aw,Y=>by
  apply hP Y;intro e aw Y;simp only[cC]at Y;exact⟨by rw[kD,Y.1.1,(l3 Y.2).1];rfl,(λI=>by cases I),(λI=>by cases I)⟩
theorem Gf {J:cH}{aI:iZ}(Y:jG T ah Q aI aw=ae)(a:aw=[]):H.d_ J ah l aI=hG:=by rw[(l3 Y).2.mp a,H.d_]
theorem Gg {aI:iZ}(Y:jG T ah Q aI aw=ae)(a:(!aI.isEmpty)=ae):aw≠[]:=λI=>by
 rw[(l3 Y).2.mp I]at a;cases a
theorem A_ {a:List CmpOp}{s:List vY}(Y:(a.map E == s)=ae):s=a.map E:=(eq_of_beq Y).symm
abbrev iN (Z:bQ)(D:Nat)(s:nX):Prop:=∀a∈s,a.R Z.cb Z.r Z.J Z.a7 Z.bg D
theorem iN.s {S b:nX}(Y:iN Z D (S++b)):iN Z D S:=λa c=>Y a (yw _ c)
theorem iN.G {S b:nX}(Y:iN Z D (S++b)):iN Z D b:=λa c=>Y a (j6 _ c)
theorem N7 {bV:iw}(Y:vh Q bV e=ae)(a:bV.a_=ae):∃aw D N,e=.Tuple aw D N:=by
 unfold vh at Y;split at Y
 ·exact⟨_,_,_,rfl⟩
 ·simp_all
 cases Y
theorem N8 {du:hb}{dQ:iZ}{bV:iw}{n i:bI}{j:Bool}{m:ew->Bool}(r:T.dR ah Z.J Z.a7)(g:iM Z Q D l)(br:bV.a_=ae->∃aw D N,n=.Tuple aw D N)(Y:A8 T Q du bV i j m=ae)
  (bk:j=ae->∃A,dQ=[A]/\bt Z i (A.b5 Z.J ah l)) (ar:∀aw,m aw=ae->gF Z aw (H.d_ Z.J ah l dQ)/\aw.all gZ=ae):ou Z n i (du.n Z.J (H.d_ Z.J ah l dQ)):=by
 unfold A8 at Y;cases a:du.NS with
 |true=>
  rw[a,cond_true]at Y;obtain⟨A,rfl,s⟩:=bk Y;cases du<;>first |exact Vx s |cases a
 |false=>
  rw[a,cond_false]at Y;apply l2 Y;intro w aw V Y;apply ni Y;intro t N Y;simp only[cC]at Y;obtain⟨⟨⟨⟨⟨ab,af⟩,u⟩,v⟩,o⟩,x⟩:=Y;obtain⟨c,aU⟩:=ar aw x;have b:=r.f6 t (by simpa using v)
  have d:=(nZ g.toxE u).1;have e:=eq_of_beq ab;have f:=eq_of_beq af;have q:du.NT=ae->∃aw D N,n=.Tuple aw D N:=λI=>br (by rw[I]at o;simpa using o)
  have h:=rk (x:=Z.x) aU;cases du with
  |dy=>cases a|bC=>obtain⟨S,rfl⟩:=qg.mp f;cases e;exact VA b c d h|bR=>match aw,f with |[S,y],_=>cases e;exact VB b c d h (rk (by rw[kD,cC]at aU;exact aU.2))
  |q6=>obtain⟨S,rfl⟩:=qg.mp f;cases e;obtain⟨_,_,_,rfl⟩:=q rfl;exact UH d b c h|zip=>match aw,f with |[S,y],_=>cases e;obtain⟨_,_,_,rfl⟩:=q rfl;exact ZQ b c d h (rk (by rw[kD,cC]at aU;exact aU.2))
theorem N9 (bW:cx)(bL:jn)(du:hb)(dQ:iZ)(bV:iw)(y:kp)(X:H)
  (bk:∀{Z:bQ}{Q:gz}{l:b4}{e:bI},T.dR ah Z.J Z.a7->iM Z Q D l->iN Z D (H.fA dQ)->xD T ah Q dQ e=ae->∃A,dQ=[A]/\bt Z e (A.b5 Z.J ah l))
  (ar:∀{Z:bQ}{Q:gz}{l:b4}{aw:ew},T.dR ah Z.J Z.a7->iM Z Q D l->iN Z D (H.fA dQ)->jG T ah Q dQ aw=ae->gF Z aw (H.d_ Z.J ah l dQ))
  (a5:∀{Z:bQ}{Q:gz}{l:b4}{aw:ew},T.dR ah Z.J Z.a7->iM Z Q D l->iN Z D (H.vg y)->F8 T ah Q y aw=ae->oA Z aw (H.xh Z.J ah l y))
  (h:∀{Z:bQ}{Q:gz}{l:b4}{e:bI},T.dR ah Z.J Z.a7->iM Z Q D l->iN Z D X.c1->dM T ah Q X e=ae->dZ Z e (X.b5 Z.J ah l)):∀{Z:bQ}{Q:gz}{l:b4}{e:bI},T.dR ah Z.J Z.a7->iM Z Q D l->iN Z D (H.eH bW bL du dQ bV y X).c1->dM T ah Q (.eH bW bL du dQ bV y X) e=ae ->
  ∃n c ifs hJ b pos,e=.ListComp hJ [⟨n,c,ifs,0⟩] b pos/\∃bZ,uh Z b bZ bW bL/\ou Z n c (du.n Z.J (H.d_ Z.J ah l dQ))/\(∀aJ a bj a5,jU (kf Z b bZ aJ (hK bW bL) a bj a5) n (pP Z.J bV)) /\
   (∀aJ a bj a5,oA (kf Z b bZ aJ (hK bW bL) a bj a5) ifs (H.xh Z.J ah jw y))/\(∀aJ a bj a5,bt (kf Z b bZ aJ (hK bW bL) a bj a5) hJ (X.b5 Z.J ah jw))/\nh c=ae:=by
 intro Z Q l e d g av Y;apply aaX Y;intro hJ u b pos Y;rw[cC]at Y;obtain⟨⟨n,c,ifs,aI⟩,rfl⟩:=qg.mp (eq_of_beq Y.1);have Y:=Y.2;rw[kD,List.all_nil,vE]at Y;simp only[cC]at Y;obtain⟨⟨⟨⟨⟨⟨⟨ab,af⟩,br⟩,i⟩,j⟩,m⟩,o⟩,q⟩:=Y;cases eq_of_beq ab;obtain⟨r,bZ,s,f⟩:=aa7 g af
 exact⟨n,c,ifs,hJ,b,pos,rfl,bZ,s,N8 d g (N7 br) m (bk d g av.s) λaw I=>⟨ar d g av.s I,(l3 I).1⟩,λaJ a bj a5=>N5  (f aJ a bj a5) r (.inr i) br,λaJ a bj t=>a5  d (f aJ a bj t) av.G.s o,
   λaJ a bj a5=>(h (Z:=kf Z b bZ aJ _ a bj a5) d (f aJ a bj a5) av.G.G q).c3,j⟩
mutual
theorem dA:∀(X:H) {Z:bQ}{Q:gz}{l:b4}{e:bI},T.dR ah Z.J Z.a7->iM Z Q D l->iN Z D X.c1->dM T ah Q X e=ae->dZ Z e (X.b5 Z.J ah l)
 |.v O,Z,Q,l,e,a,g,av,Y=>by
  apply ni Y;intro X N Y;rw[cC,cC]at Y;have br:=Y.2;unfold NK at br;rw[cC]at br;exact gA (UT O (by rw[g.bw];exact eq_of_beq Y.1.1) (aa0 g.toxE Y.1.2) (by simpa using br.1) (by simpa using br.2)) rfl
 |.D y,Z,Q,l,e,a,g,av,Y=>by
  apply vk Y;intro X z N Y;exact gA (aa3 Y) rfl
 |.fu X y,Z,Q,l,e,a,g,av,Y=>by
  show dZ Z e (gG (y.f_.getD .a9))
  apply ni Y;intro t N Y;rw[cC,cC]at Y;cases eq_of_beq Y.1.1;obtain⟨c,d⟩:=nZ g.toxE Y.1.2;have af:=Y.2;cases W:y.f_ with
  |none=>rw[W]at af;cases af|some v=>rw[W]at af;exact gA (Kw (a.vf _ (by simpa using af)) c d) rfl
 |.hx X aK,Z,Q,l,e,a,g,av,Y=>by
  apply ni Y;intro t N Y;rw[cC,cC]at Y;cases eq_of_beq Y.1.1;obtain⟨c,d⟩:=nZ g.toxE Y.1.2;obtain⟨V,B,e⟩:=yA.mp Y.2;have:=a.my V B;rw[eq_of_beq e]at this;exact gA (Kw this c d) rfl
 |.aT C S b,Z,Q,l,e,a,g,av,Y=>by
  rcases(pd _ _).mp Y with Y |Y
  rotate_left
  rcases(pd _ _).mp Y with Y |Y
  rotate_right
  ·apply NR Y;intro s J G N Y
   simp only[cC]at Y;exact gA (JJ (N2 (eq_of_beq Y.1.1)) (dA S a g av.s Y.1.2).c3 (dA b a g av.G Y.2).c3) rfl
  ·apply A7 Y;intro s aa ac N Y
   apply hP Y;intro G n Y;simp only[cC]at Y;cases j8.mp Y.1.1.1.2;obtain⟨J,K,rfl⟩:=Ge (A_ Y.1.1.1.1);exact NW (tj g.nY K) (dA S a g av.s Y.1.2) (dA b a g av.G Y.2) Y.1.1.2
  ·apply vj Y;intro s G N Y
   simp only[cC]at Y;have K:C=.fj:=by
    have:=Y.1.1.1;cases C<;>first |rfl |cases this
   subst K;exact gA (J6 (Mr g.nY) (dA S a g av.s Y.1.2).c3 (dA b a g av.G Y.2).c3 (NH Y.1.1.2)) rfl
 |.mz C bS S b y,Z,Q,l,e,a,g,av,Y=>by
  apply A7 Y;intro s aa ac N Y;apply hP Y;intro G n Y;apply hP Y;intro ak al Y;simp only[cC]at Y;cases j8.mp Y.1.1.1.1.2;obtain⟨J,am,ab,af,rfl⟩:=N6 (A_ Y.1.1.1.1.1);exact aa2 (tj g.nY ab) (tj g.nY af) (dA S a g av.s Y.1.1.2) (dA b a g av.G.s Y.1.2) (dA y a g av.G.G Y.2) Y.1.1.1.2
 |.and S b,Z,Q,l,e,a,g,av,Y=>by
  apply xC Y;intro X t s N Y;simp only[cC]at Y;cases s with
  |nil=>exact NX (dA S a g av.s Y.1.2) (dA b a g av.G Y.2) Y.1.1.1 Y.1.1.2|cons I s=>exact NY (dA S a g av.s Y.1.2) (dA b a g av.G Y.2) Y.1.1.1
 |.or S b,Z,Q,l,e,a,g,av,Y=>by
  apply xC Y;intro X t s N Y;simp only[cC]at Y;cases s with
  |nil=>exact NZ (dA S a g av.s Y.1.2) (dA b a g av.G Y.2) Y.1.1.1 Y.1.1.2|cons I s=>exact N0 (dA S a g av.s Y.1.2) (dA b a g av.G Y.2) Y.1.1.1
 |.not S,Z,Q,l,e,a,g,av,Y=>by
  apply xB Y;intro C X N Y;simp only[cC]at Y;cases eq_of_beq Y.1.1;exact N1 (dA S a g av Y.2) Y.1.2
 |.cB S,Z,Q,l,e,a,g,av,Y=>by
  apply xB Y;intro C X N Y;rw[cC]at Y;cases eq_of_beq Y.1;exact gA (D1 (dA S a g av Y.2).c3) rfl
 |.mA y S b,Z,Q,l,e,a,g,av,Y=>by
  apply aaV Y;intro n X t N Y;simp only[cC]at Y;exact aa1 (Vd ((dA y a g av.s Y.1.1.2).kJ Y.1.1.1) (dA S a g av.G.s Y.1.2).c3 (dA b a g av.G.G Y.2).c3) rfl
 |.sl S a8 aB,Z,Q,l,e,a,g,av,Y=>by
  apply vj Y;intro s G N Y;apply F5 Y;intro aM aN aP V Y;simp only[cC]at Y;cases qr.mp Y.1.1.1;exact gA (T4 Zy (dA S a g av.s Y.1.1.2).c3 (N_ a8 a g av.G.s Y.1.2) (N_ aB a g av.G.G Y.2)) rfl
 |.a_ aI,Z,Q,l,e,a,g,av,Y=>by
  apply F6 Y;intro aw z N Y;exact gA (JO (l4 aI a g av Y)) rfl
 |.aG aI,Z,Q,l,e,a,g,av,Y=>by
  apply aaW Y;intro aw N Y;exact gA (TC (l4 aI a g av Y)) rfl
 |.d2 S w,Z,Q,l,e,a,g,av,Y=>by
  apply ro Y;intro C aQ N Y;simp only[cC]at Y;cases eq_of_beq Y.1.1.1;exact gA (aa8 (λy ag=>⟨a.cls y ag,a.ow y ag _ (by simpa using Y.1.1.2)⟩) (dA S a g av Y.2).c3 Y.1.2) rfl
 |.b7 w X aI,Z,Q,l,e,a,g,av,Y=>by
  apply l2 Y;intro t aw V Y;apply ni Y;intro t N Y;simp only[cC]at Y;cases eq_of_beq Y.1.1;obtain⟨c,d⟩:=nZ g.toxE Y.1.2;obtain⟨aF,j,L,F⟩:=av _ (ek ..);exact gA (N3 F (g.p5.bJ L) g.mE (l4 aI a g (λM P=>av M (fM _ P)) Y.2) (l3 Y.2).1 c d (Gf Y.2)) rfl
 |.dK C aI,Z,Q,l,e,a,g,av,Y=>by
  apply l2 Y;intro t aw V Y;apply ni Y;intro t N Y;simp only[cC]at Y;cases eq_of_beq Y.1.1.1.1;exact gA (aa6 g (a.f6 _ (by simpa using Y.1.1.2)) (l4 aI a g av Y.2) (l3 Y.2).1 (Gg Y.2 Y.1.2) Y.1.1.1.2) rfl
 |.eF C S aI,Z,Q,l,e,a,g,av,Y=>by
  apply l2 Y;intro t aw V Y;apply ro Y;intro G h N Y;simp only[cC]at Y;cases eq_of_beq Y.1.1.1.1.1.1;exact gA (N4 (dA S a g av.s Y.1.2).c3 (l4 aI a g av.G Y.2) (l3 Y.2).1 Y.1.1.1.1.1.2 Y.1.1.1.1.2 (of_decide_eq_true Y.1.1.1.2) (Gg Y.2 Y.1.1.2)) rfl
 |.eH bW bL du dQ bV y X,Z,Q,l,e,a,g,av,Y=>by
  obtain⟨n,aR,ifs,hJ,aS,pos,rfl,bZ,an,ao,aj,ap,aq,ar⟩:=N9 bW bL du dQ bV y X (Gh dQ) (l4 dQ) (Oa y) (dA X) a g av Y;exact gA (UM g.fo an ao aj ap aq (FX ar)) rfl
 |.i9 w y aI,Z,Q,l,e,a,g,av,Y=>by
  apply l2 Y;intro t aw V Y;apply ni Y;intro t N Y;simp only[cC]at Y;cases eq_of_beq Y.1.1;obtain⟨c,d⟩:=nZ g.toxE Y.1.2;obtain⟨aF,j,L,F⟩:=av _ (ek ..);exact gA (aa4 F (g.p5.bJ L) g.mE (l4 aI a g (λM P=>av M (fM _ P)) Y.2) (l3 Y.2).1 c d (Gf Y.2)) rfl
 |.eo aT S h aI,Z,Q,l,e,a,g,av,Y=>by
  apply l2 Y;intro t aw V Y;apply ro Y;intro G h N Y;simp only[cC]at Y;cases eq_of_beq Y.1.1.1.1.1;exact gA (aa9 (λV B=>av.s _ (e3.mpr ⟨V,B,rfl⟩)) g.p5 g.mE (dA S a g av.G.s Y.1.2).c3 (l4 aI a g av.G.G Y.2) (l3 Y.2).1 Y.1.1.1.1.2 Y.1.1.1.2 (of_decide_eq_true Y.1.1.2) (Gf Y.2)) rfl
 |.m8 C S,Z,Q,l,e,a,g,av,Y=>by
  cases C with
  |mY s h=>
   apply l2 Y;intro G aw V Y;apply ro Y;intro G z N Y;apply hP Y;intro X n Y;apply hP Y;intro t n Y;simp only[cC]at Y;obtain⟨⟨⟨⟨⟨⟨ab,af⟩,br⟩,q⟩,f⟩,i⟩,o⟩:=Y;cases eq_of_beq ab;cases j8.mp af;apply vk f;intro I as au f;apply vk i;intro aV ay c7 i;cases eq_of_beq f;cases eq_of_beq i;have aU:[Expr.Constant (.str ⟨#[s]⟩) as au,Expr.Constant (.str ⟨#[h]⟩) ay c7].all gZ=ae:=rfl;exact gA (Yb (show pL Z.J from av .F0 (ek ..)) (dA S a g av.G o).c3 ⟨vd br,A4 aU (show 2<29 by decide),q,by rw[rk aU];rfl⟩) rfl
  |pS=>
   apply vj Y;intro s G N Y;apply F5 Y;intro az aA R V Y;simp only[cC]at Y;cases qr.mp Y.1.1.1;cases qr.mp Y.1.1.2;cases R with
   |none=>cases Y.1.2|some u=>
    apply xB (show rm u _=ae from Y.1.2);intro C r eW aE
    rw[cC]at aE;cases eq_of_beq aE.1;apply vk aE.2;intro I aC c7 af;cases eq_of_beq af;exact gA (X7 (dA S a g av.G Y.2).c3 (DZ (D1 Dd))) rfl
 |.oO S,Z,Q,l,e,a,g,av,Y=>by
  apply vj Y;intro s G N Y;apply F5 Y;intro az aA R V Y;simp only[cC]at Y;cases qr.mp Y.1.1.1;cases qr.mp Y.1.1.2;cases R with
  |none=>cases Y.1.2|some u=>
   apply xB (show rm u _=ae from Y.1.2);intro C r eW aE
   rw[cC]at aE;cases eq_of_beq aE.1;apply vk aE.2;intro I aC c7 af;cases eq_of_beq af;exact gA (Wb (dA S a g av Y.2).c3 (DZ (D1 Dd))) rfl
 |.oP S b,Z,Q,l,e,a,g,av,Y=>by
  apply l2 Y;intro t aw V Y;apply ni Y;intro t N Y;apply hP Y;intro G n Y;apply l2 Y;intro I m aj Y;apply ni Y;intro I c7 Y;apply hP Y;intro X dP Y;apply hP Y;intro r cv Y;simp only[cC]at Y;obtain⟨⟨⟨⟨⟨⟨⟨⟨⟨⟨⟨ab,af⟩,A⟩,aD⟩,br⟩,q⟩,f⟩,i⟩,o⟩,x⟩,aG⟩,aH⟩:=Y;cases eq_of_beq ab;cases eq_of_beq af;cases j8.mp A;cases j8.mp aD;obtain⟨c,d⟩:=nZ g.toxE br;obtain⟨U,aJ⟩:=nZ g.toxE q;exact gA (wz "list" (KI g.fo) (a.f6 _ (by simpa using f)) (pB (wz "range" VU (a.f6 _ (by simpa using i)) (pB (dA S a g av.s aG).c3 (pB (dA b a g av.G aH).c3 we (jF x)) (jF o)) U rfl (by decide) aJ (jF o) (p2 (by simp[x]))) we (jF rfl)) c rfl (by decide) d (jF rfl) (p2 rfl)) rfl
 |.ko S z,Z,Q,l,e,a,g,av,Y=>by
  apply l2 Y;intro t aw V Y;apply ni Y;intro t N Y;apply hP Y;intro X n Y;apply hP Y;intro I cv Y;apply ni Y;intro I c7 Y;simp only[cC]at Y;obtain⟨⟨⟨⟨⟨⟨⟨⟨ab,A⟩,af⟩,br⟩,q⟩,f⟩,i⟩,o⟩,x⟩:=Y;cases eq_of_beq ab;cases j8.mp A;exact gA (aa_ g (dA S a g av x).c3 q af (a.f6 _ (by simpa using br)) (eq_of_beq f) i (a.f6 _ (by simpa using o))) rfl
 |.nT,Z,Q,l,e,a,g,av,Y=>by
  apply aaY Y;intro N;exact gA V7 rfl
 |.oQ C bS aW S b y w,Z,Q,l,e,a,g,av,Y=>by
  apply A7 Y;intro s aa ac N Y;apply hP Y;intro G n Y;apply hP Y;intro ak al Y;apply hP Y;intro aX aY Y;simp only[cC]at Y;obtain⟨⟨⟨⟨⟨⟨ab,A⟩,q⟩,f⟩,i⟩,o⟩,x⟩:=Y;cases j8.mp A;obtain⟨J,am,aZ,c,d,U,rfl⟩:=abc (A_ ab);exact abb (tj g.nY c) (tj g.nY d) (tj g.nY U) (dA S a g av.s.s f) (dA b a g av.s.G i) (dA y a g av.G.s o) (dA w a g av.G.G x) q
theorem Gh:∀(aI:iZ) {Z:bQ}{Q:gz}{l:b4}{e:bI},T.dR ah Z.J Z.a7->iM Z Q D l->iN Z D (H.fA aI)->xD T ah Q aI e=ae->∃A,aI=[A]/\bt Z e (A.b5 Z.J ah l)
 |[],Z,Q,l,e,a,g,av,Y=>by unfold xD at Y;cases Y
 |A::aI,Z,Q,l,e,a,g,av,Y=>by
  have Y:=kW.mp Y;cases j8.mp Y.1;exact⟨A,rfl,(dA A a g av.s Y.2).c3⟩
theorem l4:∀(aI:iZ) {Z:bQ}{Q:gz}{l:b4}{aw:ew},T.dR ah Z.J Z.a7->iM Z Q D l->iN Z D (H.fA aI)->jG T ah Q aI aw=ae->gF Z aw (H.d_ Z.J ah l aI)
 |[],Z,Q,l,aw,a,g,av,Y=>by
  show gF Z aw hG;rw[j8.mp Y]
  exact we
 |S::aI,Z,Q,l,aw,a,g,av,Y=>by
  apply hP Y;intro e n Y;simp only[cC]at Y;exact pB (dA S a g av.s Y.1.2).c3 (l4 aI a g av.G Y.2) (jF Y.1.1)
theorem N_:∀(S:kp) {Z:bQ}{Q:gz}{l:b4}{e:pl},T.dR ah Z.J Z.a7->iM Z Q D l->iN Z D (H.vg S)->F7 T ah Q S e=ae->qF Z e (H.AJ Z.J ah l S)
 |none,Z,Q,l,e,a,g,av,Y=>by
  show qF Z e zr;rw[qr.mp Y]
  exact T3
 |some S,Z,Q,l,e,a,g,av,Y=>by
  cases e with
  |none=>cases Y|some e=>exact DZ (dA S a g av Y).c3
theorem Oa:∀(S:kp) {Z:bQ}{Q:gz}{l:b4}{aw:ew},T.dR ah Z.J Z.a7->iM Z Q D l->iN Z D (H.vg S)->F8 T ah Q S aw=ae->oA Z aw (H.xh Z.J ah l S)
 |none,Z,Q,l,aw,a,g,av,Y=>by
  show oA Z aw zE;rw[j8.mp Y]
  exact UK
 |some S,Z,Q,l,aw,a,g,av,Y=>by
  apply hP Y;intro e n Y;simp only[cC]at Y;cases j8.mp Y.1.1;exact UL ((dA S a g av Y.2).kJ Y.1.2)
end
end
structure tl (Z:bQ)(Q:gz)(D:Nat)(l:b4):Prop extends iM Z Q D l where
 ho:∀X,Z.ho X=ae
 au:Q.bw.Nodup
 e4:PassesOwn (model Z.cb Z.r) Z.p Z.x Z.e7
 aW:Z.aW=[]
 hn:Z.hn=Z.x::Z.mc/\Z.x.frame=E Z.x.locals
noncomputable def cZ.Gi:cZ->Bool
 |.bq (.eH ..)=>ae |_=>ax
noncomputable def lZ.cI:lZ->Str
 |.dY => "append" |.o1 => "extend" |.tc => "pop"
def cZ.c1:cZ->nX
 |.bq X=>X.c1|.kr O=>[]|.b7 w X aI=>(H.b7 w X (aI.map p.n)).c1|.eo a N h aI=>(H.eo a N.X h (aI.map p.n)).c1|.fw _ N aI=>N.X.c1++H.fA (aI.map p.n)|.aT _ t I=>t.c1++I.c1|.ku S t=>(match S with |.b7 w X aI=>.b7 w X::(t.c1++H.fA aI)|.eF _ aI=>t.c1++H.fA aI)|.tk _ t=>t.c1|.rf N D v=>N.X.c1++(D.c1++v.c1)|.not t=>t.c1|.or t I=>t.c1++I.c1|.and t I=>t.c1++I.c1
mutual
def aO.c1:aO->nX
 |.cn _ t=>t.c1|.td _ X=>X.c1|.kv N _ X=>N.X.c1++X.c1|.rg N D X=>N.X.c1++(D.c1++X.c1)|.aW t=>t.c1|.cJ t=>t.c1|.te=>[]|.dE Q S b=>Q.c1++(aO.fA S++aO.fA b)|.tf Q S b=>Q.c1++(aO.fA S++aO.fA b)|.tg Q S b=>Q.c1++(aO.fA S++aO.fA b)|.vb Q y S b=>Q.c1++(y.c1++(aO.fA S++aO.fA b))|.gc _ dQ _ b=>H.fA dQ++aO.fA b|.p1 Q b=>Q.c1++aO.fA b|.mE=>[]|.cont=>[]|.iL=>[]|.o2 b a=>aO.fA b++aO.fA a
def aO.fA:cE->nX
 |[]=>[]|A::cT=>A.c1++aO.fA cT
end
section
variable (T:o4)(ah:ft)
def jf (Q:gz):cZ->bI->Bool
 |.bq X,e=>dM T ah Q X e|.kr O,e=>dM T ah Q (.v O) e|.b7 w X aI,e=>dM T ah Q (.b7 w X (aI.map p.n)) e|.eo c N h aI,e=>dM T ah Q (.eo c N.X h (aI.map p.n)) e|.fw C N aI,e=>lj e λG aw V=>p4 G λG h a=>h == C.cI && l1 G && a.endLine == V.line && decide (aw.length<29) && dM T ah Q N.X G && jG T ah Q (aI.map p.n) aw| .aT C t I,e=>F4 e (λs d G=>C.wa == E d && jf Q t s && jf Q I G)||
   (xA e (λs f g=>hO g λG n=>f.map E == [C.rl] && n.isEmpty && nh G && jf Q t s && jf Q I G)||
   ti e (λs G=>C.NL && xx G && jf Q t s && jf Q I G))
 |.ku S t,e=>(match S with
  |.b7 w X aI=>lj e λG aw _=>mF G λI=>hO aw λb n=>X == I && kP Q X && gZ b && jf Q t b && jG T ah Q aI n|.eF C aI=>lj e λG aw V=>p4 G λG h N=>h == C.cI && l1 G && N.endLine == V.line && decide (aw.length<29) && !aI.isEmpty && jf Q t G && jG T ah Q aI aw)
 |.tk y t,e=>e_ e λaw=>hO aw λS n=>hO n λb cv=>cv.isEmpty && gZ S && gZ b && rn S (F1 y) && jf Q t b|.rf N D v,e=>lj e λG aw V=>p4 G λG h a=>hO aw λS n=>hO n λb n=>h=="setdefault" && n.isEmpty && l1 G && a.endLine==V.line && gZ S && gZ b && dM T ah Q N.X G && dM T ah Q D S && dM T ah Q v b|.not t,e=>rm e λC X=>C == .Not && hN X && jf Q t X|.or t I,e=>vi .Or e λS b s=>hN S && (!s ||hN b) && jf Q t S && jf Q I b|.and t I,e=>vi .And e λS b s=>hN S && (!s ||hN b) && jf Q t S && jf Q I b
def xF (A:d4)(D:bI->bI->Bool):Bool:=hz λO=>Stmt.Assign.elim A O λa e _=>hO a λg n=>n.isEmpty && D g e
def Gj (A:d4)(D:bI->Bool):Bool:=hz λO=>Stmt.Expr.elim A O λe _=>D e
def Gk (A:d4)(D:pl->Bool):Bool:=hz λO=>Stmt.Return.elim A O λe _=>D e
def xG (A:d4)(D:bI->jo->jo->Bool):Bool:=hz λO=>Stmt.If.elim A O λe S b _=>D e S b
def Ob (A:d4)(D:bI->bI->jo->Bool):Bool:=hz λI=>Stmt.For.elim A I λn O b s _=>s.isEmpty && D n O b
def Oc (A:d4)(D:bI->jo->Bool):Bool:=hz λO=>Stmt.While.elim A O λe b s _=>s.isEmpty && D e b
def Od (A:d4)(D:jo->jo->Bool):Bool:=hz λO=>Stmt.Try.elim A O λb a s w _=>!a.isEmpty && (w.isEmpty && D b s)
def Oe (A:d4):Bool:=hz λO=>Stmt.Pass.elim A O λ_=>ae
def Of (A:d4):Bool:=hz λO=>Stmt.Continue.elim A O λ_=>ae
section
variable {A:d4}{aJ:d4->Prop}
theorem Ba {D}(Y:xF A D=ae)(R:∀g e V,D g e=ae->aJ (.Assign [g] e V)):aJ A:=ig Y λO=>Stmt.Assign.elim  A O (λa e V Y=>hP (aJ:=λa=>aJ (.Assign a e V)) Y λg n Y=>by simp_all) Y
theorem Og {D}(Y:Gj A D=ae)(R:∀e V,D e=ae->aJ (.Expr e V)):aJ A:=ig Y λO=>Stmt.Expr.elim  A O R Y
theorem Oh {D}(Y:Gk A D=ae)(R:∀e V,D e=ae->aJ (.Return e V)):aJ A:=ig Y λO=>Stmt.Return.elim  A O R Y
theorem Bb {D}(Y:xG A D=ae)(R:∀e S b V,D e S b=ae->aJ (.If e S b V)):aJ A:=ig Y λO=>Stmt.If.elim  A O R Y
theorem abd {D}(Y:Ob A D=ae)(R:∀n O b V,D n O b=ae->aJ (.For n O b [] V)):aJ A:=ig Y λO=>Stmt.For.elim  A O (λn O b s V Y=>by cases s with |nil=>exact R n O b V Y |cons=>cases Y) Y
theorem abe {D}(Y:Oc A D=ae)(R:∀e b V,D e b=ae->aJ (.While e b [] V)):aJ A:=ig Y λO=>Stmt.While.elim  A O (λe b s V Y=>by cases s with |nil=>exact R e b V Y |cons=>cases Y) Y
theorem abf {D}(Y:Od A D=ae)(R:∀b S G s V,D b s=ae->aJ (.Try b (S::G) s [] V)):aJ A:=ig Y λO=>Stmt.Try.elim  A O (λb a s w V Y=>by cases a<;>cases w<;>first |exact R b _ _ s V Y |cases Y) Y
theorem abg (Y:Oe A=ae)(R:∀V,aJ (.Pass V)):aJ A:=ig Y λO=>Stmt.Pass.elim  A O R
theorem abh (Y:Of A=ae)(R:∀V,aJ (.Continue V)):aJ A:=ig Y λO=>Stmt.Continue.elim  A O R
end
noncomputable def Oi:jo->(d4->jo->Bool)->Bool
 |S::s,D=>D S s |[],_=>ax
theorem abi {s:jo}{aJ:jo->Prop}{D}(Y:Oi s D=ae)(R:∀S n,D S n=ae->aJ (S::n)):aJ s:=by cases s with |nil=>cases Y |cons S n=>exact R S n Y
noncomputable def abj:Const->Bool
 |.str _=>ae |_=>ax
mutual
def Oj (Q:gz):aO->d4->Bool
 |.cn O t,A=>xF A λg e=>th Q O g && (rj e ||t.Gi) && jf T ah Q t e|.td is X,A=>xF A λg e=>e_ g λaw=>rj e && NF e && is.length == 5 && xy Q is aw && dM T ah Q X e|.kv N z X,A=>xF A λg e=>p4 g λC w _=>z == w && T.ow.contains z && dM T ah Q N.X C && dM T ah Q X e|.rg N D X,A=>xF A λg e=>ti g λC O=>xx O && dM T ah Q N.X C && dM T ah Q D O && dM T ah Q X e|.aW t,A=>Gj A λe=>rj e && jf T ah Q t e|.cJ t,A=>Gk A λe=>e.any (jf T ah Q t)|.te,A=>Gk A λe=>e.isNone|.dE y S b,A=>xG A λe X t=>hN e && dM T ah Q y e && jY Q S X && jY Q b t|.tg y S b,A=>xG A λe X t=>A5 e && dM T ah Q y e && jY Q S X && jY Q b t|.vb y w S b,A=>xG A λe X t=>vi .And e (λN V s=>s && A5 N && dM T ah Q y N && hN V && dM T ah Q w V) && jY Q S X && jY Q b t|.tf y S b,A=>xG A λe X t=>hN e && jf T ah Q y e && jY Q S X && jY Q b t|.gc du dQ bV b,A=>Ob A λn a X=>nh a && vh Q bV n && A8 T Q du bV a (xD T ah Q dQ a) (jG T ah Q dQ) && jY Q b X|.p1 y b,A=>Oc A λe X=>hN e && dM T ah Q y e && jY Q b X|.mE,A=>Oe A ||Gj A λe=>rn e abj
 |.cont,A=>Of A|.iL,_=>ae|.o2 b c,A=>Od A λX t=>jY Q b X && jY Q c t
def jY (Q:gz):List aO->jo->Bool
 |[],cT=>cT.isEmpty|S::aI,cT=>Oi cT λA cT=>Oj Q S A && jY Q aI cT
end
end
section
variable {Z:bQ}{Q:gz}{D:Nat}{l:b4}{T:o4}{ah:ft}{e C:bI}{aw:ew}{n:bN}{N pos fp:Pos}
def abk (J:cH)(ah:ft)(l:b4)(b:lZ)(n:bN)(aI:nU):bN:=match aI with |[]=>zv J b.fW b.G n |_=>pC J b.fW b.G n (H.d_ J ah l (aI.map p.n))
theorem abl {b:lZ}{aI:nU}(a:bt Z C n)(g:gF Z aw (H.d_ Z.J ah l (aI.map p.n)))(f:aw.all gZ=ae)(i:l1 C=ae)(c:(fp.endLine == pos.line)=ae)(j:aw.length<29)(h:aw=[]↔aI=[]):bt Z (.Call (.Attribute C b.cI fp) aw [] pos) (abk Z.J ah l b n aI):=by
 have d:=λz=>vd (x:=Z.x) (h:=z) i
 cases aI with
 |nil=>
  rw[h.mpr rfl];cases b with
  |dY=>exact Dz uR LN LO DD a (d _) c|o1=>exact Dz uR LP LQ Ke a (d _) c|tc=>exact Dz uR LR LS Kf a (d _) c
 |cons S aI=>
  cases aw with
  |nil=>cases h.mp rfl|cons e aw=>
   have w:=A4 (x:=Z.x) (pos:=pos) f j;rw[kD,cC]at f;have bh:=jF (x:=Z.x) (aw:=aw) f.1;have bj:=p2 (x:=Z.x) (pos:=pos) f.2;cases b with
   |dY=>exact zw uR LN LO DD a g (d _) w c bh bj|o1=>exact zw uR LP LQ Ke a g (d _) w c bh bj|tc=>exact zw uR LR LS Kf a g (d _) w c bh bj
theorem iO:∀(t:cZ) {e:bI},T.dR ah Z.J Z.a7->iM Z Q D l->iN Z D t.c1->jf T ah Q t e=ae->dZ Z e (t.b5 Z.J ah l)
 |.bq X,e,a,g,av,Y=>dA X a g av Y|.kr O,e,a,g,av,Y=>by
  exact dA (.v O) a g (λ_ I=>by cases I) Y
 |.b7 w X aI,e,a,g,av,Y=>by
  exact dA (.b7 w X (aI.map p.n)) a g av Y
 |.eo f N h aI,e,a,g,av,Y=>by
  have:=dA (.eo f N.X h (aI.map p.n)) a g av Y;exact this
 |.fw b N aI,e,a,g,av,Y=>by
  apply l2 Y;intro G aw V Y;apply ro Y;intro G h i Y;simp only[cC]at Y;cases eq_of_beq Y.1.1.1.1.1;exact gA (abl (b:=b) (dA N.X a g av.s Y.1.2).c3 (l4 _ a g av.G Y.2) (l3 Y.2).1 Y.1.1.1.1.2 Y.1.1.1.2 (of_decide_eq_true Y.1.1.2) ((l3 Y.2).2.trans List.map_eq_nil_iff)) rfl
 |.aT C t I,e,a,g,av,Y=>by
  rcases(pd _ _).mp Y with Y |Y
  ·apply NR Y;intro s m G N Y
   simp only[cC]at Y;exact gA (JJ (N2 (eq_of_beq Y.1.1)) (iO t a g av.s Y.1.2).c3 (iO I a g av.G Y.2).c3) rfl
  rcases(pd _ _).mp Y with Y |Y
  ·apply A7 Y;intro s P R N Y
   apply hP Y;intro G n Y;simp only[cC]at Y;cases j8.mp Y.1.1.1.2;obtain⟨m,c,rfl⟩:=Ge (A_ Y.1.1.1.1);exact NW (tj g.nY c) (iO t a g av.s Y.1.2) (iO I a g av.G Y.2) Y.1.1.2
  ·apply vj Y;intro s G N Y
   simp only[cC]at Y;have c:C=.fj:=by
    have:=Y.1.1.1;cases C<;>first |rfl |cases this
   subst c;exact gA (J6 (Mr g.nY) (iO t a g av.s Y.1.2).c3 (iO I a g av.G Y.2).c3 (NH Y.1.1.2)) rfl
 |.ku (.b7 w X aI) t,e,a,g,av,Y=>by
  apply l2 Y;intro G aw V Y;apply ni Y;intro I N Y;apply hP Y;intro b n Y;simp only[cC]at Y;cases eq_of_beq Y.1.1.1.1;obtain⟨o,q⟩:=nZ g.toxE Y.1.1.1.2;obtain⟨aF,j,r,F⟩:=av _ (ek ..);have d:iN Z D (t.c1++H.fA aI):=λu x=>av u (fM _ x)
  exact gA (N3 F (g.p5.bJ r) g.mE (pB (iO t a g d.s Y.1.2).c3 (l4 aI a g d.G Y.2) (jF Y.1.1.2)) (by rw[kD,Y.1.1.2];exact(l3 Y.2).1) o q (λI=>by cases I)) rfl
 |.ku (.eF C aI) t,e,a,g,av,Y=>by
  apply l2 Y;intro G aw V Y;apply ro Y;intro G h N Y;simp only[cC]at Y;cases eq_of_beq Y.1.1.1.1.1.1;have av:iN Z D (t.c1++H.fA aI):=av;exact gA (N4 (iO t a g av.s Y.1.2).c3 (l4 aI a g av.G Y.2) (l3 Y.2).1 Y.1.1.1.1.1.2 Y.1.1.1.1.2 (of_decide_eq_true Y.1.1.1.2) (Gg Y.2 Y.1.1.2)) rfl
 |.tk y t,e,a,g,av,Y=>by
  apply F6 Y;intro aw z N Y;apply hP Y;intro S n Y;apply hP Y;intro b cv Y;simp only[cC]at Y;cases j8.mp Y.1.1.1.1;exact gA (JO (pB (dA (.D y) a g (λ_ I=>by cases I) Y.1.2).c3 (pB (iO t a g av Y.2).c3 we (jF Y.1.1.2)) (jF Y.1.1.1.2))) rfl
 |.rf N D v,e,a,g,av,Y=>by
  apply l2 Y;intro G aw V Y;apply ro Y;intro G h i Y;apply hP Y;intro S n Y;apply hP Y;intro b n Y;simp only[cC]at Y;obtain⟨⟨⟨⟨⟨⟨⟨⟨ab,A⟩,af⟩,br⟩,B⟩,J⟩,K⟩,L⟩,M⟩:=Y;cases eq_of_beq ab;cases j8.mp A;have aU:[S,b].all gZ=ae:=by simp[B,J]
  exact gA (Xy g.nY (dA N.X a g av.s K).c3 (dA D a g av.G.s L).c3 (dA v a g av.G.G M).c3 ⟨vd af,A4 aU (show 2<29 by decide),br,by rw[rk aU];rfl⟩) rfl
 |.not t,e,a,g,av,Y=>by
  apply xB Y;intro C X N Y;simp only[cC]at Y;cases eq_of_beq Y.1.1;exact N1 (iO t a g av Y.2) Y.1.2
 |.or t I,e,a,g,av,Y=>by
  apply xC Y;intro S b s N Y;simp only[cC]at Y;cases s with
  |nil=>exact NZ (iO t a g av.s Y.1.2) (iO I a g av.G Y.2) Y.1.1.1 Y.1.1.2|cons V s=>exact N0 (iO t a g av.s Y.1.2) (iO I a g av.G Y.2) Y.1.1.1
 |.and t I,e,a,g,av,Y=>by
  apply xC Y;intro S b s N Y;simp only[cC]at Y;cases s with
  |nil=>exact NX (iO t a g av.s Y.1.2) (iO I a g av.G Y.2) Y.1.1.1 Y.1.1.2|cons V s=>exact NY (iO t a g av.s Y.1.2) (iO I a g av.G Y.2) Y.1.1.1
theorem abm {hJ:bI}{a:List Comprehension}{c:Scope}{X:Str}{N:Pos}{x:PySem.Env}{z:Nat}:∃b,swapsWith (.ListComp hJ a c pos) (E (.Name X N)) z x=pure b:=⟨_,rfl⟩
theorem abn {w:Str}{z:Nat}:swapsWith e (E (.Attribute C w N)) z Z.x=pure ax:=by cases e<;>rfl
theorem abo {O:bI}{z:Nat}:swapsWithSole [.Subscript C O N] e z Z.x=pure ax:=by cases e<;>rfl
theorem abp {bV:bI}{z:Nat}(Y:rj e=ae):swapsWithSole [bV] e z Z.x=pure ax:=FY Y _ z
theorem abq {O:bI}(Y:xx O=ae)(v:aR):assign (.Subscript C O N) Z.x v=(do
   let a <- holding [v] (eval C Z.x)
   let b <- holding [v,a] (eval O Z.x)
   standAt N
   holding [v,a,b] (setItem a b v)
   release [v,a,b] []):=by
 cases O<;>first |rfl |cases Y
theorem abr (c:T.dR ah Z.J Z.a7)(g:tl Z Q D l){O:Nat}{t:cZ}{V:Pos}(av:iN Z D t.c1)(ab:th Q O C=ae)(af:(rj e ||t.Gi)=ae)(br:jf T ah Q t e=ae):
  ju Z (.Assign [C] e V) (ot (t.b5 Z.J ah l) (oq O)):=by
 have d:=(iO t c g.toiM av br).c3;obtain⟨j,X,N,rfl⟩:=Gb g.toxE g.au (.inl g.ho) ab;unfold th at ab;rw[cC]at ab;have aB:Z.bw[O]?=E X:=by rw[g.bw];exact eq_of_beq ab.1
 have f:Z.bw.Nodup:=by rw[g.bw];exact g.au
 have h:=NU g.toxE ab.2;by_cases a:rj e=ae
 ·exact JD f aB h d (FY a _ _) (.inl (g.ho X))
 ·have a:rj e=ax:=by simpa using a
  rw[a,Bool.false_or]at af;unfold cZ.Gi at af;split at af
  ·rename_i bW bL du dQ bV y I
   obtain⟨n,m,ifs,hJ,o,pos,rfl,bZ,q,r,s,u,v,w⟩:=N9 bW bL du dQ bV y I (Gh dQ) (l4 dQ) (Oa y) (dA I) c g.toiM av br;obtain⟨b,i⟩:=abm (hJ:=hJ) (a:=[⟨n,m,ifs,0⟩]) (c:=o) (pos:=pos) (X:=X) (N:=N) (x:=Z.x) (z:=V.line);cases b with
   |true=>
    exact UN g.fo q r s u v j i (FX w)
   |false=>exact JD f aB h d i (.inl (g.ho X))
  ·cases af
theorem tl.wb (g:tl Z Q D l):tl Z.wb Q D jw where
 bw:=g.bw
 cI:=g.cI
 hp:=g.hp
 fo:=g.fo
 p5:=g.p5
 mE:=F9
 cells:=g.cells
 ho:=g.ho
 au:=g.au
 e4:=PassesOwn.never
 aW:=g.aW
 hn:=g.hn
theorem abt {body a:jo}{b:ExceptHandler}{c:List ExceptHandler}{c5 dH:fY}(d:me Z.wb body c5)(f:me Z a dH):ju Z (.Try body (b::c) a [] pos) (r7 c5 dH):=by
 intro ag A o R g h Y;refine wpAny_Try_except (kC (d ag A o R _ (h.oo _) Y) (λw bh V=>?_) λe bh V=>fG V)
 replace V:=V.t9;cases w with
 |next=>obtain⟨i,aq,j,V⟩:=V;exact f ag bh i aq g j V|_=>exact V
mutual
theorem abu:∀{Z:bQ}{l:b4}(a:T.dR ah Z.J Z.a7) (g:tl Z Q D l) (A:aO) {aU:d4},iN Z D A.c1->Oj T ah Q A aU=ae->ju Z aU (A.b5 Z.J ah l)
 |Z,l,a,g,.cn O t,aU,av,Y=>by
  apply Ba Y;intro C e V Y;simp only[cC]at Y;exact abr a g av Y.1.1 Y.1.2 Y.2
 |Z,l,a,g,.td is X,aU,av,Y=>by
  apply Ba Y;intro C e V Y;apply F6 Y;intro aw z N Y;simp only[cC]at Y;obtain⟨⟨⟨⟨ab,af⟩,br⟩,f⟩,h⟩:=Y;obtain⟨S,b,y⟩:=Gd g.toiM g.au (.inl g.ho) f;exact JC (dA X a g.toiM av h).c3 (X9 g.fo S (b.trans (eq_of_beq br)) y) (abp ab) (aaQ af)
 |Z,l,a,g,.kv N z X,aU,av,Y=>by
  apply Ba Y;intro C e V Y;apply ro Y;intro C w G Y;simp only[cC]at Y;cases eq_of_beq Y.1.1.1;have i:=(dA N.X a g.toiM av.s Y.1.2).c3;have j:=(dA X a g.toiM av.G Y.2).c3;intro ag A o R m q V;obtain⟨y,c,V⟩:=V;exact Xo (a.cls y c) (a.ow y c _ (by simpa using Y.1.1.2)) i j abn ag A o R m q V
 |Z,l,a,g,.rg N D X,aU,av,Y=>by
  apply Ba Y;intro C e V Y;apply vj Y;intro C O G Y;simp only[cC]at Y;exact JC (dA X a g.toiM av.G.G Y.2).c3 (SP (dA N.X a g.toiM av.s Y.1.1.2).c3 (dA D a g.toiM av.G.s Y.1.2).c3 (aas g.nY) (abq Y.1.1.1)) abo aaR
 |Z,l,a,g,.aW t,aU,av,Y=>by
  apply Og Y;intro e V Y;simp only[cC]at Y;exact SD (iO t a g.toiM av Y.2).c3 (FY Y.1 _ _)
 |Z,l,a,g,.cJ t,aU,av,Y=>by
  apply Oh Y;intro e V Y;cases e with
  |none=>cases Y|some e=>exact SE (iO t a g.toiM av Y).c3
 |Z,l,a,g,.te,aU,av,Y=>by
  apply Oh Y;intro e V Y;cases qr.mp Y;exact SF
 |Z,l,a,g,.dE y S b,aU,av,Y=>by
  apply Bb Y;intro e X t V Y;simp only[cC]at Y;exact zH ((dA y a g.toiM av.s Y.1.1.2).kJ Y.1.1.1) (ll a g S av.G.s Y.1.2) (ll a g b av.G.G Y.2)
 |Z,l,a,g,.tg y S b,aU,av,Y=>by
  apply Bb Y;intro e X t V Y;simp only[cC]at Y;exact zH (LH (dA y a g.toiM av.s Y.1.1.2).c3 (FZ Y.1.1.1)) (ll a g S av.G.s Y.1.2) (ll a g b av.G.G Y.2)
 |Z,l,a,g,.vb y w S b,aU,av,Y=>by
  apply Bb Y;intro e X t V Y;simp only[cC]at Y;exact zH (xC (aJ:=λe=>hq Z e _) Y.1.1 λX t s N Y=>by
   simp only[cC]at Y;cases s with
   |cons=>cases Y.1.1.1.1|nil=>exact(DY (LH (dA y a g.toiM av.s Y.1.1.2).c3 (FZ Y.1.1.1.2)) (Jx ((dA w a g.toiM av.G.s Y.2).kJ Y.1.2))).kJ) (ll a g S av.G.G.s Y.1.2) (ll a g b av.G.G.G Y.2)
 |Z,l,a,g,.tf y S b,aU,av,Y=>by
  apply Bb Y;intro e X t V Y;simp only[cC]at Y;exact zH ((iO y a g.toiM av.s Y.1.1.2).kJ Y.1.1.1) (ll a g S av.G.s Y.1.2) (ll a g b av.G.G Y.2)
 |Z,l,a,g,.gc du dQ bV b,aU,av,Y=>by
  apply abd Y;intro n v X V Y;simp only[cC]at Y;exact SW g.e4 g.fo (N8 a g.toiM (N7 Y.1.1.2) Y.1.2 (Gh dQ a g.toiM av.s) λaw I=>⟨l4 dQ a g.toiM av.s I,(l3 I).1⟩) (N5 g.toiM g.au (.inl g.ho) Y.1.1.2) (ll a g b av.G Y.2) (FX Y.1.1.1)
 |Z,l,a,g,.p1 y b,aU,av,Y=>by
  apply abe Y;intro e X V Y;simp only[cC]at Y;exact SQ g.e4 ((dA y a g.toiM av.s Y.1.2).kJ Y.1.1) (ll a g b av.G Y.2)
 |Z,l,a,g,.mE,aU,av,Y=>by
  rcases(pd _ _).mp Y with Y |Y
  ·apply abg Y;intro V;exact Sy
  ·apply Og Y;intro e V Y
   apply vk Y;intro y z N Y;cases y<;>first |exact SA |cases Y
 |Z,l,a,g,.cont,aU,av,Y=>by
  apply abh Y;intro V;exact Sz
 |Z,l,a,g,.iL,aU,av,Y=>SG|Z,l,a,g,.o2 b d,aU,av,Y=>by
  apply abf Y;intro X S G t V Y;simp only[cC]at Y;have r:=ll (Z:=Z.wb) (l:=jw) a g.wb b av.s Y.1;have u:=ll a g d av.G Y.2;exact(show ju Z _ (r7 (aO.d_ Z.J ah jw b) (aO.d_ Z.J ah l d))from abt r u)
theorem ll:∀{Z:bQ}{l:b4}(a:T.dR ah Z.J Z.a7) (g:tl Z Q D l) (cT:cE) {aU:jo},iN Z D (aO.fA cT)->jY T ah Q cT aU=ae->me Z aU (aO.d_ Z.J ah l cT)
 |Z,l,a,g,[],aU,av,Y=>by
  unfold jY at Y;rw[aO.d_,j8.mp Y];exact Sw
 |Z,l,a,g,A::cT,aU,av,Y=>by
  apply abi Y;intro S n Y;simp only[cC]at Y;exact Sx (abu a g A av.s Y.1) (ll a g cT av.G Y.2)
end
end
theorem Gl {ay:Type}{N:ay->Prop}:∀X∈([]:List ay),N X:=λ_ Y=>by cases Y
theorem abv {ay:Type}{N:ay->Prop}{S:ay}{s:List ay}(Y:N S)(n:∀X∈s,N X):∀X∈S::s,N X:=λX a=>by
 rcases df.mp a with rfl |a
 ·exact Y
 exact n X a
theorem abw {J:cH}{X:Str}{m:jm}(Y:w1 J X m):Ak J (da J X) (m.map eN):=by
 rcases Y (λ_=>k)with Y |Y
 ·rcases Y with Y |⟨_,Y⟩<;>cases Y
 exact Y
noncomputable def tm (a:iJ->Prop):List iJ->Prop
 |[]=>True|b::s=>a b/\tm a s
theorem tm.mem {c:iJ->Prop}:∀{s:nX},tm c s->∀a∈s,c a
 |[],_,_,Y=>by cases Y
 |d::s,Y,a,b=>by
  rcases df.mp b with rfl |b
  ·exact Y.1
  exact tm.mem Y.2 a b
section
variable {P:cW}{r:cF}{J:i5}{a7:eu}{bg:Heap}{X V:Str}{aU:d4}{bw aF:cx}{D:Nat}{T:o4}{ah:ft}{body:cE}
theorem Ol (b:ox bw aF (fZ aU)){w:aV}{c:aR}{p:dp}{d:List PySem.Env}{A:aY}{R:aj}{l:b4}(e:gk D (p.deeper (envOfC V (fZ aU) A.heap.objs.size w c))):
  tl (qE fe P r J a7 bg bw V (fZ aU) w c p d A R l) ⟨bw,(fZ aU).names⟩ D l where
 bw:=rfl
 cI:=rfl
 hp:=b.hp
 fo:=rfl
 p5:=e
 mE:=F9
 cells:=λX a=>by
  rcases a with a |a
  ·exact Du a
  exact absurd rfl (b.JU _ (rC a))
 ho:=λ_=>rfl
 au:=b.au
 e4:=PassesOwn.leaving
 aW:=rfl
 hn:=⟨rfl,rfl⟩
theorem Om {z h:Nat}{c:a3}{R:aj}{q:bX}{l:b4}(Y:fJ J (cy ah z h body) c R q l):c.length=z:=by
 obtain⟨F,Y,a,f,g,i,d,b⟩:=Y;unfold cy at b;split at b
 ·rename_i e
  rw[<- bF.b6 d,e]
 exact b.elim
theorem _root_.L2.g7.Gm {w:aV}{bG:hk}{cf:gH}(F:g7 J X V aU w bG)(b:ox bw aF (fZ aU))(d:∀c R q l,cf c R q l->c.length=aF.length)
  (e:∀(a:aR) (p:dp) (f:List PySem.Env) (A:aY) (R:aj) (c:a3) (q:bX) (l:b4),gk D (p.deeper (envOfC V (fZ aU) A.heap.objs.size w a))->cf c R q l ->
   ∃n,me (qE fe P r J a7 bg bw V (fZ aU) w a p f A R l) (iV aU) n/\n {de:=λ_ aq=>q .a9 aq,en:=q} (mU bw c) R):gI P r J a7 bg fe (D+1) w bG aF cf:=by
 obtain⟨h,i,j,m,o,s,a,t,u,rfl,lk,g⟩:=F.aW;exact JZ lk g b d (e a)
theorem _root_.L2.sL.Gm {w:aV}{bG:hk}{cf:gH}{T:aV}(F:sL J T X V aU w bG)(b:ox bw aF (fZ aU))(d:∀c R q l,cf c R q l->c.length=aF.length)
  (e:∀(a:aR) (p:dp) (f:List PySem.Env) (A:aY) (R:aj) (c:a3) (q:bX) (l:b4),gk D (p.deeper (envOfC V (fZ aU) A.heap.objs.size w a))->cf c R q l ->
   ∃n,me (qE fe P r J a7 bg bw V (fZ aU) w a p f A R l) (iV aU) n/\n {de:=λ_ aq=>q .a9 aq,en:=q} (mU bw c) R):gI P r J a7 bg fe (D+1) w bG aF cf:=by
 obtain⟨h,i,j,m,o,s,a,t,u,rfl,lk,g⟩:=F.aW;exact JZ lk g b d (e a)
theorem rp {z h:Nat}(a:ah.dR J)(d:T.dR ah J a7)(av:tm (iJ.R P r J a7 bg D) (aO.fA body))(e:jY T ah ⟨bw,(fZ aU).names⟩ body (iV aU)=ae)
  (aO:ox bw aF (fZ aU)) (b:LM J X V aU aF) (f:aF.length=z) (g:bw.length=z+h):wY P r J a7 bg fe (D+1) X V aU aF (fJ J (cy ah z h body)):=λw bG F=>
 ⟨F.Gm aO (λc R q l Y=>(Om Y).trans f.symm) λj p m A R c q l i Y=>⟨VI.aO.d_ J ah l body,ll d (Ol aO i) body av.mem e,ND a g c R q l Y⟩,b w bG F⟩
theorem abx {z h:Nat}(a:ah.dR J)(b:T.dR ah J a7)(av:tm (iJ.R P r J a7 bg D) (aO.fA body))(d:jY T ah ⟨bw,(fZ aU).names⟩ body (iV aU)=ae)
  (aO:ox bw aF (fZ aU)) (e:aF.length=z) (f:bw.length=z+h):LW P r J a7 bg fe (D+1) X V aU aF (fJ J (cy ah z h body)):=λT w bG F=>
 F.Gm aO (λc R q l Y=>(Om Y).trans e.symm) λi p j A R c q l g Y=>⟨VI.aO.d_ J ah l body,ll b (Ol aO g) body av.mem d,ND a f c R q l Y⟩
noncomputable abbrev H.z (O:Int):H:=.D (.d O)
abbrev H.O (S:H)(z:Int):H:=.aT .fj S (.D (.d z))
abbrev Gn (P:cW)(r:cF)(J:cH)(a7:eu)(bg:Heap)(D:Nat)(X:Str)(aF:cx)(w:b0):Prop:=zP P r J a7 bg fe D X aF (fJ J w)
theorem bP {j:Nat}{w:b0}(g:Gn P r J a7 bg j X aF w)(Y:j<=D:=by decide):iJ.R P r J a7 bg D (.b7 w X):=⟨aF,j,Y,g⟩
theorem Oo {j:Nat}{w:b0}(g:sI P r J a7 bg fe j X (da J X) aF (fJ J w))(Y:j+1<=D:=by decide):iJ.R P r J a7 bg D (.i9 w X):=⟨aF,j,Y,g⟩
theorem kQ {j:Nat}{w:b0}{Q:Str}(g:pK P r J a7 bg fe j (da J Q) X aF (fJ J w))(Y:j<=D:=by decide):iJ.R P r J a7 bg D (.eo X Q w):=⟨aF,j,Y,g⟩
def tn (aU:d4):List Str:=(fZ aU).names.filterMap λV=>match V.2 with |.local=>E V.1 |.cell=>E V.1 |_=>k
structure Gp (T:o4)(ah:ft)(J:cH):Prop where
 b:∀X∈T.f6,L2.EB J X
 Q:∀Q∈ah.c9,L2.iJ J Q
 S:∀Q∈ah.c9,∀S∈T.ow,L2.uQ J Q S
 v:∀V∈T.vf,L2.wX J V.1 V.2
 D:∀V∈ah.my,L2.sJ J V.1
 n:∀V∈ah.my,L2.w1 J V.1 V.2
 X:∀X∈ah.aW,L2.sJ J X
theorem Gp.ml (e:Gp T ah J)(h:k7 J a7):T.dR ah J a7:=⟨λX Y=>h.Xz (e.b X Y),λQ Y=>(e.Q Q Y).cls,λQ Y S aE=>(e.S Q Y S aE).aQ,λV Y=>h.XA (e.v V Y),λV Y=>h.LK (e.D V Y),λX Y=>h.LK (e.X X Y)⟩
structure Oq (P:cW)(r:cF)(bg:Heap)(T:o4)(ah:ft)(J:cH)(a7:eu):Prop where
 h:k7 J a7
 fu:ah.dR J
 n:T.dR ah J a7
theorem dT (D:Nat){z h:Nat}{w:b0}(e:Oq P r bg T ah J a7)(a:w=cy ah z h body)(F:dn J X aU)(av:tm (iJ.R P r J a7 bg D) (aO.fA body))(c:jY T ah ⟨tn aU,(fZ aU).names⟩ body (iV aU)=ae:=by decide +kernel)
  (aO:ox (tn aU) ((tn aU).take z) (fZ aU):=by exact⟨rfl,rfl,rfl,by decide +kernel,by decide +kernel,by decide +kernel,by decide +kernel,by decide +kernel⟩)
  (b:LM J X X aU ((tn aU).take z):=by first |exact λ_ _ F=>g7.Ez rfl F (by intros;rfl)|exact λ_ _ F=>g7.wV rfl F (by intros;rfl)|exact λ_ _ F=>g7.LJ rfl F (by intros;rfl)|exact λ_ _ F=>g7.binds4 rfl F (by intros;rfl)|exact λ_ _ F=>g7.binds5 rfl F (by intros;rfl))
  (d:((tn aU).take z).length=z:=by decide +kernel) (f:(tn aU).length=z+h:=by decide +kernel):Gn P r J a7 bg (D+1) X ((tn aU).take z) w:=by subst a;exact LL e.h F (rp e.fu e.n av c aO b d f)
theorem aby {dk:i_}{aJ:aV}{cf:gH}(F:LV P r J a7 bg dk D X aJ aF [] cf):sI P r J a7 bg dk D X aJ aF cf:=by
 obtain⟨w,bG,a,F,b,c,d,e⟩:=F;cases d;exact⟨w,bG,F,b,c,e⟩
theorem abz {T w:aV}{bG:hk}{a:g5}{z:Nat}{s:aR}{t:gv}{u:mP}(v:aF.length=10)(F:sL J T X V aU w bG)(x:J.lookup T=E ⟨s,t,.seq a z,u⟩)(y:a.toList.length=5)
  (Y:∀(b c d e f:aR) (B D G:aR) (I:gv) (K L:aR) (g h i j l m n o q r:aR) (A:aY),(∃C,A.heap.get? T=E C/\C.data=.seq #[b,c,d,e,f] z)->BindsTo A (W.fnOf X V (kL aU) (iV aU) (fZ aU) (.ref T) B D G I K L) ⟨[g,h,i,j,l,m,n,o,q,r],[]⟩ (aF.zip [g,h,i,j,l,m,n,o,q,r])):h7 J bG aF (a.toList.drop 5):=by
 obtain⟨b,c,d,e,f,rfl⟩:=X4 y;exact X_ v F x (Y b c d e f)
theorem gI.abA {w:aV}{bG:hk}{cf a:gH}(F:gI P r J a7 bg fe D w bG aF cf)(Y:∀c R q l,a c R q l->cf c R q jw):gI P r J a7 bg fe D w bG aF a:=by
 refine⟨λc R q l V=>F.b6 _ _ _ _ (Y _ _ _ _ V),λp b A R d aa c q l e f g h G V=>codeAny_mono (F.gm p b A R d aa c q jw e f g h G (Y _ _ _ _ V)) λG bc I=>?_⟩
 assumption
theorem Ot:∀(a:ef) {R:aj},b2 J (a.map ai.d) (a.map aL.d) R
 |[],_=>rfl|z::a,R=>⟨_,_,rfl,rfl,Ot a⟩
noncomputable def dD (a:ef):ai:=.aK (.au .dD (a.map .d))
theorem abB {w:b0}(b:∀a:ef,a.length<=63->z2 a->w.cj [dD a]=.i (.aM ae)):∀c R q l,wZ J c R q l->fJ J w c R q jw:=by
 rintro c R q l ⟨S,a,rfl,d,e,f,V⟩;refine Fb (a:=[.au .dD (a.map .d)]) (bu.fc R) ?_ ?_
 ·exact⟨_,_,rfl,⟨S,_,rfl,d,Ot a⟩,rfl⟩
 ·have:[ai.au .dD _].map ai.bO=[dD a]:=rfl
  rw[this,b a e f];rintro a4 aq X v Y g y A C;cases C.2.aM;exact V aq
theorem abC {g6:aV}{bG:hk}{w:b0}(F:gI P r J a7 bg fe D g6 bG aF (fJ J w))(b:∀a:ef,a.length<=63->z2 a->w.cj [dD a]=.i (.aM ae)):gI P r J a7 bg fe D g6 bG aF (wZ J):=gI.abA F (abB b)
end
section
variable {ah:ft}{aA:i7}{x e:aX}{cT S b:cE}{t:cZ}{Q:H}{y:ai}{O:Nat}{a:bf}
theorem Ou {ay:Type}{S:ay}:S=S:=of_eq_true (eq_self S)
theorem Ov (G:bY aX eY)(w g:lh):jX (jX G w) g=jX G λe=>jX (w e) g:=by
 cases G with
 |i C e=>cases C<;>rfl
 |_=>rfl
theorem Bc:∀(S:cE) (x:aX),jX (aO.bb ah aA S x) (λe=>aO.bb ah aA b e)=aO.bb ah aA (S++b) x
 |[],x=>rfl|A::S,x=>by
  rw[aO.bb,Ov];congr 1;funext e;exact Bc S e
theorem nj:aO.bb ah aA [] x=.i .de x:=by rw[aO.bb]
theorem kx (Y:t.aZ ah x=.i y e)(a:aA O=ax)(aB:O<e.length):aO.bb ah aA (.cn O t::cT) x=aO.bb ah aA cT (e.set O (E y)):=by
 rw[aO.bb,aO.gm,Y];show jX (if aA O=ax/\O<e.length then .i _ _ else .aQ) _=_
 rw[if_pos ⟨a,aB⟩];rfl
theorem abD (Y:t.aZ ah x=.i y e):aO.bb ah aA (.aW t::cT) x=aO.bb ah aA cT e:=by
 rw[aO.bb,aO.gm,Y];rfl
theorem Ow (Y:t.aZ ah x=.i y e):aO.bb ah aA (.cJ t::cT) x=.i (.en y) e:=by
 rw[aO.bb,aO.gm,Y];rfl
theorem mG (Y:(Q.aZ ah x).aC fz=.i ae):aO.bb ah aA (.dE Q S b::cT) x=aO.bb ah aA (S++cT) x:=by
 rw[aO.bb,aO.gm,Y,<- Bc];rfl
theorem hQ (Y:(Q.aZ ah x).aC fz=.i ax):aO.bb ah aA (.dE Q S b::cT) x=aO.bb ah aA (b++cT) x:=by
 rw[aO.bb,aO.gm,Y,<- Bc];rfl
theorem abE:aO.bb ah aA (.o2 S b::cT) x=jX (AQ (aO.bb ah aA S x)) λe=>aO.bb ah aA (b++cT) e:=by
 rw[aO.bb,aO.gm,Ov];congr 1;funext e;exact Bc b e
theorem xH (Y:ai.lg a=ae)(O:Nat):ag a O=ax:=by
 induction a generalizing O with
 |nil=>rfl|cons y a b=>
  unfold ai.lg at Y;rw[cC]at Y;cases O with
  |zero=>show(!y.eU)=ax;rw[Y.1];rfl|succ O=>exact b Y.2 O
theorem xI:∀{a:bf}{x:aX},ai.lg a=ae->l0 a x=a
 |[],_,_=>rfl|y::a,[],Y=>by
  unfold ai.lg at Y;rw[cC]at Y;unfold l0;rw[if_pos Y.1,xI Y.2]
 |y::a,C::x,Y=>by
  unfold ai.lg at Y;rw[cC]at Y;unfold l0;rw[if_pos Y.1,xI Y.2]
theorem xJ {w:b0}{dc:bf}(Y:w a=.i y dc):w.cj a=.i y:=by unfold b0.cj;rw[Y]
theorem abF (a:ef):(dD a).bO=dD a:=by unfold dD ai.bO ai.eT;rfl
theorem abG (O:Int):(ai.d O).bO=.d O:=rfl
theorem Ox (s:bo):(ai.f s).bO=.f s:=rfl
theorem afv (b:Bool):(ai.aM b).bO=.aM b:=rfl
theorem afw:ai.a9.bO=.a9:=rfl
theorem Oy (a:ef):mx [dD a]=.i (.d a.length):=by
 show Mo.i _=_
 rw[ct]
theorem Bd {ay:Type}{s:List ay}{O:Int}{S:ay}(a:0<=O)(Y:s[O.toNat]?=E S):eb s O=E S:=by
 have aB:=(hF.mp Y).1;unfold eb h8;simp_all
section
variable (O j:Int)
theorem afx:ES (.d O) (.d j)=.i (.aM (decide (O<j))):=rfl
theorem afy:EO (.d O) (.d j)=.i (.aM (decide (O<=j))):=rfl
theorem afz:EP (.d O) (.d j)=.i (.aM (decide (j<O))):=rfl
theorem afA:ER (.d O) (.d j)=.i (.aM (decide (j<=O))):=rfl
theorem afB:hu (.d O) (.d j)=.i (.d (O+j)):=rfl
theorem afC:EN (.d O) (.d j)=.i (.d (O-j)):=rfl
theorem afD:w9 (.d O)=.i (.d (-O)):=rfl
theorem afE (b:Bool):fz (.aM b)=.i b:=rfl
theorem Oz:lV (.d O)=.i O:=rfl
theorem afF (s:bo):m6 (.f s)=.i s:=rfl
end
theorem p6 {O j:Int}(Y:0<j):An (.d O) (.d j)=.i (.d (O % j)):=if_pos Y
theorem abH {O j:Int}(Y:uF O j):w6 (.d O) (.d j)=.i (.d (O / j)):=if_pos Y
theorem OA {O j:Int}(Y:IntMulOk O j):nO (.d O) (.d j)=.i (.d (O*j)):=if_pos Y
theorem abI {b:ef}{D:Int}(c:0<=D)(Y:D<b.length):dt (dD b) (.d D)=.i (.d (b.getD D.toNat 0)):=by
 show Mo.e8 _=_
 rw[Bd c (S:=.d (b.getD D.toNat 0)) (by rw[gC];simp_all)]
 rfl
end
section
variable {ay cQ A:Type}{ah:ft}{aA:i7}{x e:aX}{y X t:ai}
theorem l5 (g:lh):jX (.i .de e) g=g e:=rfl
theorem abJ (g:lh):jX (.i (.en y) e) g=.i (.en y) e:=rfl
theorem afG (g:lh):jX (.i .iC e) g=.i .iC e:=rfl
theorem afH (Q:mm)(g:lh):jX (.aW Q e) g=.aW Q e:=rfl
theorem jZ (S:ay)(n:A)(D:ay->A->bY A cQ):(bY.i S n).aC D=D S n:=rfl
theorem afI (Q:mm)(n:A)(D:ay->A->bY A cQ):(bY.aW Q n:bY A ay).aC D=.aW Q n:=rfl
theorem tp (S:ay)(D:ay->Mo cQ):(Mo.i S).aC D=D S:=rfl
theorem abK (S:ay):Mo.e8 (E S)=.i S:=rfl
theorem abL (bC bR:bY aX eY):oZ x (.i ae) bC bR=bC:=rfl
theorem abM (bC bR:bY aX eY):oZ x (.i ax) bC bR=bR:=rfl
theorem afJ (G:eA):sN (.aM ae) G=G:=rfl
theorem afK (G:eA):sN (.aM ax) G=.i (.aM ax):=rfl
theorem afL (G:eA):sO (.aM ae) G=.i (.aM ae):=rfl
theorem afM (G:eA):sO (.aM ax) G=G:=rfl
theorem afN (C:eY):AQ (.i C e)=.i C e:=rfl
theorem afO (y:ai)(b:iK):pZ (.y y::b)=(pZ b).map λa=>y::a:=rfl
theorem afP:pZ []=E []:=rfl
theorem afQ (O:Nat)(a:aA O=ax)(aB:O<e.length):AO aA O (.i y e)=.i .de (e.set O (E y)):=by
 unfold AO;rw[jZ,if_pos ⟨a,aB⟩]
theorem abN:pY (.i y e)=.i .de e:=rfl
theorem afR:FJ (.i y e)=.i (.en y) e:=rfl
theorem afS (s:aX):e9 (E y::s) 0=.i y.bO:=rfl
theorem afT (C:jA)(s:aX)(z:Nat):e9 (C::s) (z+1)=e9 s z:=rfl
theorem afU (s:aX):rh (E y::s) 0=.i y (k::s):=rfl
theorem afV (C:jA)(s:aX)(z:Nat):rh (C::s) (z+1)=match rh s z with |.i y e=>.i y (C::e)|.aW Q e=>.aW Q (C::e)|.aQ=>.aQ:=by
 unfold rh
 match s[z]? with
 |some (E y)=>rfl
 |some k=>rfl|none=>rfl
def e6 (h:eA)(x:aX)(u:bo):bY aX ai:=match h with
 |.i y=>if y.ed then .i y x else .i y (pW x u)
 |.aW Q=>.aW Q x|.aQ=>.aQ
theorem nk (X:H):lY ah x X=e6 (X.aZ ah x) x X.eg:=rfl
theorem hR (u:bo)(a:y.ed=ae):e6 (.i y) x u=.i y x:=if_pos a
theorem vl (u:bo)(a:y.ed=ax):e6 (.i y) x u=.i y (pW x u):=if_neg (by rw[a];decide)
section
variable (cB:Bool)(a8 aB:ea)
theorem OB:dt (.aK y) X=dt y X:=rfl
theorem afW:m7 cB X (.aK y)=m7 cB X y:=rfl
theorem afX:mx [.aK y]=mx [y]:=rfl
theorem OC:hu (.aK y) X=hu y X:=rfl
theorem abO:hu X (.aK y)=hu X y:=rfl
theorem afY:la (.aK y) a8 aB=la y a8 aB:=rfl
theorem OD (a:cx)(w:Str):jC a w (.aK y)=jC a w y:=rfl
theorem afZ:xf [.aK y]=xf [y]:=rfl
theorem xK:qZ [.aK y]=qZ [y]:=rfl
theorem af0:u3 [.aK y]=u3 [y]:=rfl
theorem af1:xg [.aK y]=xg [y]:=rfl
theorem af2:m5 cB (.aK y) X=m5 cB y X:=rfl
theorem af3 (z:String):q1 z (.aK y)=q1 z y:=rfl
theorem af4:fz (.aK y)=fz y:=rfl
theorem af5:lV (.aK y)=lV y:=rfl
theorem af6:sX (.aK y)=sX y:=rfl
theorem af7:q2 [.aK y,X]=q2 [y,X]:=rfl
theorem af8:q2 [X,.aK y]=q2 [X,y]:=rfl
theorem af9:uZ [.aK y]=uZ [y]:=rfl
theorem abP (z:Nat):fI z (.aK y) X=fI z y X:=by cases z<;>rfl
theorem abQ (z:Nat):fI z X (.aK y)=fI z X y:=by cases z<;>rfl
theorem Be:f3 cB (.aK y) X=f3 cB y X:=by unfold f3;rw[abP]
theorem abR:f3 cB X (.aK y)=f3 cB X y:=by unfold f3;rw[abQ]
theorem Gq (Y:y.eT=ax):(ai.aK y).bO=.aK y:=by unfold ai.bO;simp_all
end
theorem abS (O:Int):H.aZ ah x (.D (.d O))=.i (.d O):=rfl
theorem af_ (s:bo):H.aZ ah x (.D (.f s))=.i (.f s):=rfl
theorem aga (b:Bool):H.aZ ah x (.D (.aM b))=.i (.aM b):=rfl
theorem agb:H.aZ ah x (.D .a9)=.i .a9:=rfl
theorem agc (z:Str)(O:Int):H.aZ ah x (.fu z (.d O))=.i (.d O):=rfl
theorem agd (z:Str)(s:bo):H.aZ ah x (.fu z (.f s))=.i (.f s):=rfl
theorem age (S b:Bool):sO (.aM S) (.i (.aM b))=.i (.aM (S ||b)):=by cases S<;>rfl
theorem agf (S b:Bool):sN (.aM S) (.i (.aM b))=.i (.aM (S && b)):=by cases S<;>rfl
theorem agg (O j:Int):E7 [.d O,.d j]=.i (.d (min O j)):=rfl
theorem abT {O j:Int}(a:0<j)(ab:j<1073741824):w6 (.d O) (.d j)=.i (.d (O / j)):=abH (WC a (by lia))
theorem Bf {O j:Int}(a : -18446744073709551616<O)(ab:O<18446744073709551616):nO (.d O) (.d j)=.i (.d (O*j)):=OA (K5 (.inl ⟨by lia,by lia⟩))
theorem abU {O j:Int}(a : -18446744073709551616<j)(ab:j<18446744073709551616):nO (.d O) (.d j)=.i (.d (O*j)):=OA (K5 (.inr ⟨by lia,by lia⟩))
theorem OE (O:Int):(ai.d O).ed=ae:=by rw[ai.ed]<;>simp
theorem Gr (s:bo):(ai.f s).ed=ae:=by rw[ai.ed]<;>simp
theorem abV:ai.a9.ed=ae:=by rw[ai.ed]<;>simp
theorem agh (D:h_)(a:bf):(ai.au D a).ed=ai.k8 a:=by rw[ai.ed]
theorem Gs (y:ai)(a:bf):ai.k8 (y::a)=(y.ed && ai.k8 a):=by rw[ai.k8]
theorem Gu:ai.k8 []=ae:=by rw[ai.k8]
section
variable (S b Q X:H)(aI:iZ)
theorem abW (O:Nat):H.aZ ah x (.v O)=e9 x O:=rfl
theorem OF (z:Str)(a:jm)(Y:(z,a)∈ah.my):H.aZ ah x (.hx z a)=.i (.au .iu (a.map .f)):=if_pos Y
theorem agi (C:hv):H.aZ ah x (.aT C S b)=(S.aZ ah x).aC λX=>(b.aZ ah x).aC λt=>C.w X t:=rfl
theorem agj (C bS:hv):H.aZ ah x (.mz C bS S b Q)=(S.aZ ah x).aC λX=>(b.aZ ah x).aC λt=>pT C bS X t (Q.aZ ah x):=rfl
theorem agk (C bS a:hv):H.aZ ah x (.oQ C bS a S b Q X)=(S.aZ ah x).aC λu=>(b.aZ ah x).aC λt=>AK C bS a u t (Q.aZ ah x) (X.aZ ah x):=rfl
theorem agl:H.aZ ah x (.and S b)=(S.aZ ah x).aC λX=>sN X (b.aZ ah x):=rfl
theorem agm:H.aZ ah x (.or S b)=(S.aZ ah x).aC λX=>sO X (b.aZ ah x):=rfl
theorem abX:H.aZ ah x (.not S)=(S.aZ ah x).aC λX=>(fz X).aC λb=>.i (.aM (!b)):=rfl
theorem abY:H.aZ ah x (.cB S)=(S.aZ ah x).aC w9:=rfl
theorem agn:H.aZ ah x (.mA Q S b)=((Q.aZ ah x).aC fz).aC λn=>if n=ae then S.aZ ah x else b.aZ ah x:=rfl
theorem ago (a8 aB:kp):H.aZ ah x (.sl S a8 aB)=(S.aZ ah x).aC λX=>(H.pU ah x a8).aC λs=>(H.pU ah x aB).aC λY=>la X s Y:=rfl
theorem agp:H.aZ ah x (.a_ aI)=(H.gJ ah x aI).aC λa=>.eS a.length (.i (.au .a_ a)):=rfl
theorem agq:H.aZ ah x (.aG aI)=(H.gJ ah x aI).aC λa=>.eS a.length (.i (.au .aG a)):=rfl
theorem agr (w:Str):H.aZ ah x (.d2 S w)=(S.aZ ah x).aC (jC ah.c9 w):=rfl
theorem ags (w:b0)(z:Str):H.aZ ah x (.b7 w z aI)=(H.gJ ah x aI).aC λa=>w.cj (a.map .bO):=rfl
theorem agt (C:oN):H.aZ ah x (.dK C aI)=(H.gJ ah x aI).aC C.w:=rfl
theorem agu (w:b0)(z:Str):H.aZ ah x (.i9 w z aI)=(H.gJ ah x aI).aC (pQ w z):=rfl
theorem agv:H.aZ ah x (.oO S)=(S.aZ ah x).aC sX:=rfl
theorem iP (C:jV):H.aZ ah x (.eF C S aI)=(S.aZ ah x).aC λy=>(m6 y).aC λs=>(H.gJ ah x aI).aC λQ=>C.w s Q:=rfl
theorem agw:H.aZ ah x (.oP S b)=(S.aZ ah x).aC λX=>(b.aZ ah x).aC λt=>AE X t:=rfl
theorem agx (z:String):H.aZ ah x (.ko S z)=(S.aZ ah x).aC (q1 z):=rfl
theorem agy:H.aZ ah x .nT=.i (.au (.gy []) []):=rfl
theorem agz:H.gJ ah x []=.i []:=rfl
theorem agA:H.gJ ah x (S::aI)=(S.aZ ah x).aC λy=>(H.gJ ah x aI).aC λa=>.i (y::a):=rfl
theorem agB:H.pU ah x k=.i k:=rfl
theorem agC:H.pU ah x (E S)=(S.aZ ah x).aC λy=>(lV y).aC λO=>.i (E O):=rfl
theorem abZ:H.s6 ah x k=.i ae:=rfl
theorem agD:H.s6 ah x (E S)=(S.aZ ah x).aC fz:=rfl
end
def bT (G:bY aX eY)(q:eY->aX->Prop):Prop:=∃C e,G=.i C e/\q C e
theorem o5 {s:List cQ}{d:cQ->bf}{is:bo}{body D:lh}{q:eY->aX->Prop}(P:List cQ->aX->Prop)(h:P [] x)
  (i:∀y X G e,s=y++X::G->P y e->∃a,i0 aA e is (d X)=E a/\bT (body a) λC c=>((C=.de\/C=.iC)/\P (y++[X]) c)\/((∃v,C=.en v)/\q C c))
  (j:∀e,P s e->bT (D e) q):bT (jX (nd (λe X=>match i0 aA e is X with |some a=>body a |none=>.aQ) (s.map d) x) D) q:=by
 suffices main:∀(G y:List cQ) (e:aX),s=y++G->P y e->bT (nd (λe X=>match i0 aA e is X with |some a=>body a |none=>.aQ) (G.map d) e) (λC e=>(C=.de/\P s e)\/((∃v,C=.en v)/\q C e)) by
  obtain⟨C,e,Y,V⟩:=main s [] x rfl h;rw[Y];rcases V with⟨rfl,V⟩|⟨⟨v,rfl⟩,V⟩
  ·rw[l5];exact j e V
  ·rw[abJ];exact⟨_,_,rfl,V⟩
 intro G;induction G with
 |nil=>intro y e b f;rw[lC]at b;subst b;exact⟨.de,e,rfl,.inl ⟨rfl,f⟩⟩
 |cons X G g=>
  intro y e b f;obtain⟨a,ab,C,c,af,V⟩:=i y X G e b f;rw[eR];unfold nd;simp only[ab,af];rcases V with⟨Y |Y,V⟩|⟨⟨v,Y⟩,V⟩
  ·subst Y;exact g (y++[X]) c (by rw[b,od];rfl) V
  ·subst Y;exact g (y++[X]) c (by rw[b,od];rfl) V
  ·subst Y;exact⟨_,_,rfl,.inr ⟨⟨v,rfl⟩,V⟩⟩
theorem Bg {s:List cQ}{d:cQ->bf}{du:hb}{X:H}{bV:iw}{b cT:cE}{q:eY->aX->Prop}{aN:aX}{c:bf}(P:List cQ->aX->Prop)(g:e6 (X.aZ ah x) x X.eg=.i y aN)(aB:du.w [y]=.i c)(h:hM bV c=E (s.map d))(i:P [] aN)
  (j:∀y X G e,s=y++X::G->P y e->∃a,i0 aA e bV.is (d X)=E a/\bT (aO.bb ah aA b a) λC f=>((C=.de\/C=.iC)/\P (y++[X]) f)\/((∃v,C=.en v)/\q C f))
  (l:∀e,P s e->bT (aO.bb ah aA cT e) q):bT (aO.bb ah aA (.gc du [X] bV b::cT) x) q:=by
 have n:eh ah x ([X].map .X)=.i [.y y] aN:=by
  show((lY ah x X).aC λy e=>(eh ah e []).aC λo a=>.i (.y y::o) a)=_
  rw[nk,g];rfl
 rw[aO.bb,aO.gm,n];have aN:AP aA du bV (.i [.y y] aN) (λe=>aO.bb ah aA b e)=nd (λe X=>match i0 aA e bV.is X with |some a=>aO.bb ah aA b a |none=>.aQ) (s.map d) aN:=by
  unfold AP;show(match du.w [y]with |.i c=>_ |_=>_)=_
  rw[aB];show(match hM bV c with |some m=>_ |none=>_)=_
  rw[h]<;>rfl
 rw[aN];exact o5 P i j l
theorem e0 {t:cZ}{O:Nat}{cT:cE}(Y:t.aZ ah x=.i y x)(a:aA O=ax)(aB:Nat.ble (O+1) x.length=ae:=by rfl):aO.bb ah aA (.cn O t::cT) x=aO.bb ah aA cT (x.set O (E y)):=kx Y a (IE aB)
theorem rq {s:List cQ}{a:cQ->bf}{du:hb}{X:H}{bV:iw}{b cT:cE}{q:eY->aX->Prop}{c:bf}(P:List cQ->aX->Prop)(g:e6 (X.aZ ah x) x X.eg=.i y x)(aB:du.w [y]=.i c)(h:hM bV c=E (s.map a))(i:P [] x)
  (j:∀y X G e,s=y++X::G->P y e->∃d,i0 aA e bV.is (a X)=E d/\bT (aO.bb ah aA b d) λC f=>((C=.de\/C=.iC)/\P (y++[X]) f)\/((∃v,C=.en v)/\q C f))
  (l:∀e,P s e->bT (aO.bb ah aA cT e) q):bT (aO.bb ah aA (.gc du [X] bV b::cT) x) q:=Bg P g aB h i j l
theorem vm {s:List cQ}{a:cQ->ai}{O:Nat}{S:aX}{b:aX}{C:jA}{body D:lh}{q:eY->aX->Prop}(aB:S.length=O)(f:aA O=ax)
  (g:∀X∈s,bT (body (S++E (a X).bO::b)) λC e=>C=.de/\e=S++E (a X).bO::b)
  (h:∀C,bT (D (S++C::b)) q):bT (jX (nd (λe X=>match i0 aA e [O] X with |some d=>body d |none=>.aQ) (s.map λX=>[a X]) (S++C::b)) D) q:=by
 refine o5 (d:=λX=>[a X]) (λ_ e=>∃C,e=S++C::b) ⟨C,rfl⟩ (λy X G e i c=>?_) (λe c=>?_)
 ·obtain⟨C,rfl⟩:=c
  refine⟨S++E (a X).bO::b,?_,?_⟩
  ·unfold i0
   rw[if_pos ⟨f,by rw[dq,ee];lia⟩]
   unfold i0;rw[<- aB,H_ _ _ (cM _),yJ,vH]
  ·obtain⟨bS,d,ab,rfl,rfl⟩:=g X (by rw[i];simp)
   exact⟨_,_,ab,.inl ⟨.inl rfl,_,rfl⟩⟩
 ·obtain⟨C,rfl⟩:=c;exact h C
theorem agE (s:aX):m_ (E y::s) 0=E y.bO::s:=rfl
theorem agF (s:aX):m_ (k::s) 0=k::s:=rfl
theorem agG (C:jA)(s:aX)(z:Nat):m_ (C::s) (z+1)=C::m_ s z:=by
 unfold m_
 match s[z]? with
 |some (E y)=>rfl
 |some k=>rfl|none=>rfl
theorem OG {Q:aX->mZ}{body D:lh}{q:eY->aX->Prop}(P:Nat->aX->Prop)(h:Nat)(i:h<100000)(b:P 0 x)
  (c:∀O e,O<=h->P O e->(Q e=.i ax/\bT (D e) q)\/(O<h/\Q e=.i ae/\bT (body e) λC a=>C=.de/\P (O+1) a)):bT (jX (nf Q body su x) D) q:=by
 have j:h<su:=by unfold su;lia
 suffices main:∀(z O:Nat) (e:aX),h<z+O->O<=h->P O e->bT (nf Q body z e) (λC e=>C=.de/\bT (D e) q) by
  obtain⟨C,e,Y,rfl,V⟩:=main su 0 x (by lia) (by lia) b
  rw[Y,l5];exact V
 intro z;induction z with
 |zero=>intro O e ab af;lia
 |succ z d=>
  intro O e ab af f;unfold nf;rcases c O e af f with⟨Y,V⟩|⟨aB,Y,C,a,g,rfl,V⟩
  ·rw[Y,abM];exact⟨_,_,rfl,rfl,V⟩
  ·rw[Y,abL,g];exact d (O+1) a (by lia) (by lia) V
def lp (x:aX)(O:Nat):Option ai:=match x[O]? with |some C=>C |none=>k
theorem agH (C:jA)(s:aX):lp (C::s) 0=C:=rfl
theorem agI (C:jA)(s:aX)(z:Nat):lp (C::s) (z+1)=lp s z:=by unfold lp;rw[List.getElem?_cons_succ]
theorem rr (O:Nat):d3 x (O,[])=lp x O:=by
 unfold d3 lp
 match x[O]? with
 |some (E y)=>rfl
 |some k=>rfl|none=>rfl
theorem Bh {O:Nat}{Q cR:ai}(Y:lp x O=E Q):eZ x (O,[]) cR=x.set O (E cR):=by
 unfold eZ;unfold lp at Y
 match e:x[O]?,Y with
 |some (E y),_=>rfl
def Bi (w:b0)(O:Nat)(a:bf)(e:aX):bY aX ai:=match lp e O with
 |some Q=>(match w (Q::a)with
  |.i G (cR::_)=>.i G (e.set O (E cR))|.i G []=>.i G e|.aW X (cR::_)=>.aW X (e.set O (E cR))|.aW X []=>.aW X e|.aQ=>.aQ)
 |none=>.aQ
def nq (a:bf):List q7:=a.map .y
theorem Gv:∀(a:bf),ie e (nq a)=E a
 |[]=>rfl|y::a=>by show(ie e (nq a)).map _=_;rw[Gv a];rfl
theorem Gw (V:hg):∀(a:bf),oW V (nq a)=ae
 |[]=>rfl|y::a=>Gw V a
theorem Gx:∀(a:bf),oX (nq a)=ae
 |[]=>rfl|y::a=>Gx a
theorem Bj:∀(a dc:bf),je e (nq a) dc=e
 |[],dc=>rfl|y::a,[]=>rfl|y::a,_::dc=>Bj a dc
theorem OH {w:b0}{O:Nat}{a:bf}:gY w (.s (O,[])::nq a) e=Bi w O a e:=by
 show(match(d3 e _).bind λQ=>(ie e _).map λa=>Q::a with |some dc=>_ |none=>_)=_
 rw[rr,Gv];unfold Bi;cases Y:lp e O with
 |none=>rfl|some Q=>
  show(if(oW _ _ && oX _)=ae then _ else _)=_
  rw[Gw,Gx];dsimp only;cases w _ with
  |aQ=>rfl|i G dc=>
   cases dc with
   |nil=>rfl|cons cR dc=>show bY.i G (eZ _ _ cR)=_;rw[Bj,Bh Y]
  |aW X dc=>
   cases dc with
   |nil=>rfl|cons cR dc=>show bY.aW X (eZ _ _ cR)=_;rw[Bj,Bh Y]
def Bk (T:String)(x:aX)(O:Nat)(h:bY aX ai):bY aX ai:=match lp x O with |some Q=>if kq T Q=ae then h else .aQ |none=>.aQ
theorem OI (O:Nat)(aI:nU)(T:String)(D:hg->iK->aX->bY aX ai):mD ah x (.v O) aI (kq T) D=Bk T x O ((eh ah x aI).aC (D (O,[]))):=by
 unfold mD Bk;rw[(show dS.aZ ah x _=if(lp x O).isSome then Mo.i _ else Mo.aQ by rw[dS.aZ,rr])]
 cases Y:lp x O with
 |none=>rfl|some Q=>
  have az:=rr (x:=x) O;simp_all
theorem agJ (C:lZ)(O:Nat)(X:H):cZ.aZ ah (.fw C (.v O) [.X X]) x=Bk C.fW x O ((e6 (X.aZ ah x) x X.eg).aC λy e=>Bi C.w O [y] e):=by
 rw[cZ.aZ,OI];congr 1;show((lY ah x X).aC λy e=>(eh ah e []).aC λb a=>.i _ a).aC _=_
 rw[nk];cases e6 _ x _ with
 |i y e=>exact OH (a:=[y])|_=>rfl
theorem agK (O:Nat)(D v:H):cZ.aZ ah (.rf (.v O) D v) x=Bk "dict" x O ((e6 (D.aZ ah x) x D.eg).aC λS e=>(e6 (v.aZ ah e) e v.eg).aC λy a=>Bi nW O [S,y] a):=by
 rw[cZ.aZ,OI];congr 1;show((lY ah x D).aC λS e=>((lY ah e v).aC λy a=>(eh ah a []).aC λb a=>.i _ a).aC λb a=>.i _ a).aC _=_
 rw[nk];cases e6 _ x _ with
 |i S e=>
  rw[jZ,jZ,nk];cases e6 _ e _ with
  |i y a=>exact OH (a:=[S,y])|_=>rfl
 |_=>rfl
theorem lq (X:H):cZ.aZ ah (.bq X) x=e6 (X.aZ ah x) x X.eg:=by rw[cZ.aZ,nk]
theorem agL (O:Nat):cZ.aZ ah (.kr O) x=rh x O:=by rw[cZ.aZ]
theorem OJ (C:hv)(t I:cZ):cZ.aZ ah (.aT C t I) x=(t.aZ ah x).aC λy e=>(I.aZ ah e).aC λa az=>o3 (C.w y a) az:=by rw[cZ.aZ]
theorem Gy (S:jE)(t:cZ):cZ.aZ ah (.ku S t) x=(t.aZ ah x).aC λy e=>xu ah S y e:=by rw[cZ.aZ]
theorem ab0 (S:ai)(t:cZ):cZ.aZ ah (.tk S t) x=(t.aZ ah x).aC λy e=>o3 (.dW (S.f_.isSome=ae) (.i (.au .a_ ([S,y].map .bO)))) e:=by rw[cZ.aZ]
theorem Gz (S:jE)(s:bo):xu ah S (.f s) x=e6 ((S.X (.D (.f s))).aZ ah x) x (S.X (.D (.f s))).eg:=by rw[<- nk];exact if_pos (show(ai.f s).f_.isSome=ae from rfl)
theorem agM (S:ay):o3 (.i S) e=.i S e:=rfl
theorem OK {O:Nat}{D X:H}{y S Q cR G dO pI:ai}(b:X.aZ ah x=.i y)(c:y.ed=ae)(d:D.aZ ah x=.i S)(e:S.ed=ae)(a:lp x O=E Q)(f:ng [y,Q,S]=.i G [dO,cR,pI]):rd ah (.v O) D X x=.i .de (x.set O (E cR)):=by
 unfold rd;have aN:eh ah x [.X X,.s (.v O),.X D]=.i [.y y,.s (O,[]),.y S] x:=by
  unfold eh;rw[nk,b,hR _ c,jZ];unfold eh;rw[(show dS.aZ ah x (.v O)=Mo.i (O,[]) by rw[dS.aZ,rr,a];rfl)]
  show(bY.aC (bY.aC _ _) _)=_
  unfold eh;rw[nk,d,hR _ e];rfl
 rw[aN,jZ];unfold gY;have az:ie x [.y y,.s (O,[]),.y S]=E [y,Q,S]:=by
  show((d3 x _).bind λQ=>E [Q,S]).map _=_
  rw[rr,a];rfl
 rw[az];show pY (if _ then(match ng _ with |.i G dc=>bY.i G _ |.aW X dc=>_ |.aQ=>_)else _)=_
 rw[f];show bY.i _ (eZ x _ cR)=_
 rw[Bh a]
theorem o6 {O:Nat}{X:H}{y:ai}{z aJ:Str}{a:cx}{m:bf}(c:X.aZ ah x=.i y)(d:y.ed=ae)(b:lp x O=E (.au (.dI aJ a) m))(e:aJ∈ah.c9)(g:a.length<1000)(h:z∉a):xr ah z (.v O) (.X X) x=.i .de (x.set O (E (.au (.dI aJ (a++[z])) (m++[y])))):=by
 unfold xr;have aN:eh ah x [.X X,.s (.v O)]=.i [.y y,.s (O,[])] x:=by
  unfold eh;rw[nk,c,hR _ d,jZ];unfold eh;rw[(show dS.aZ ah x (.v O)=Mo.i (O,[]) by rw[dS.aZ,rr,b];rfl)]
  rfl
 rw[aN,jZ];simp only[(show va x (O,[])=E aJ by unfold va;rw[rr,b]),if_pos e]
 unfold gY;have az:ie x [.y y,.s (O,[])]=E [y,.au (.dI aJ a) m]:=by
  show((d3 x _).bind λQ=>E [Q]).map _=_
  rw[rr,b];rfl
 rw[az];have f:rb z [y,.au (.dI aJ a) m]=.i .a9 [.eO,.au (.dI aJ (a++[z])) (m++[y])]:=by
  unfold rb;simp_all
 show pY (if _ then(match rb z _ with |.i G dc=>bY.i G _ |.aW X dc=>_ |.aQ=>_)else _)=_
 rw[f];show bY.i _ (eZ x _ _)=_
 rw[Bh b]
theorem ab1 {a:bf}{z h:Nat}{body:cE}(c:a.length=z)(b:ai.lg a=ae)(Y:∀aA,(∀O,aA O=ax)->bT (aO.bb ah aA body (a.map E++fV h k)) λC _=>C=.en y\/(C=.de/\y=.a9)):cy ah z h body a=.i y a:=by
 obtain⟨C,e,Y,V⟩:=Y _ (xH b);unfold cy;rw[if_pos c,Y];rcases V with rfl |⟨rfl,rfl⟩
 ·show bY.i y _=_;rw[xI b]
 show bY.i _ _=_;rw[xI b]
theorem eB {a:bf}{z h:Nat}{body:cE}(b:a.length=z)(c:ai.lg a=ae)(Y:∀aA,(∀O,aA O=ax)->bT (aO.bb ah aA body (a.map E++fV h k)) λC _=>C=.en y\/(C=.de/\y=.a9)):(cy ah z h body).cj a=.i y:=xJ (ab1 b c Y)
theorem OL {a:bf}{z h:Nat}{body:cE}(b:a.length=z)(Y:aO.bb ah (ag a) body (a.map E++fV h k)=.i .de e):cy ah z h body a=.i .a9 (l0 a e):=by
 unfold cy;rw[if_pos b,Y]
end
class kR {ay:Type}(g:ay->ai):Prop where
 Bl:∀X,(g X).eT=ae
section
variable {ay:Type}{g:ay->ai}[kR g]{s:List ay}{X:ay}
theorem GA (X:ay):(g X).bO=g X:=by unfold ai.bO;rw[if_pos (kR.Bl X)]
theorem ab2 (s:List ay):ai.lT (s.map g)=ae:=by
 induction s with
 |nil=>rfl|cons X s a=>rw[eR,ai.lT,kR.Bl X,a];rfl
theorem tq (s:List ay):(s.map g).map ai.bO=s.map g:=by
 rw[gr];exact qi λX _=>GA X
mutual
theorem GB:∀(y:ai),y.eT=ae->y.ed=ae
 |.a9,_=>rfl|.aM _,_=>rfl|.d _,_=>rfl|.f _,_=>rfl|.au .a_ a,Y=>Bm a Y|.au .iu a,Y=>Bm a Y|.au .aG _,Y=>by trivial
 |.au .dD _,Y=>by trivial
 |.au (.pM _) _,Y=>by trivial
 |.au (.gy _) _,Y=>by trivial
 |.au (.dI _ _) _,Y=>by trivial
 |.aK y,Y=>by assumption
 |.eM _,Y=>by trivial
 |.eO,Y=>by trivial
theorem Bm:∀(a:bf),ai.lT a=ae->ai.k8 a=ae
 |[],_=>rfl|y::a,Y=>by rw[ai.lT,cC]at Y;rw[ai.k8,GB y Y.1,Bm a Y.2];rfl
end
theorem Bn (X:ay):(g X).ed=ae:=GB _ (kR.Bl X)
theorem OM (X:ay):(g X).eU=ae:=Fy (kR.Bl X)
instance:kR ai.d:=⟨λ_=>rfl⟩
instance:kR ai.f:=⟨λ_=>rfl⟩
instance:kR ai.aM:=⟨λ_=>rfl⟩
noncomputable def ak (g:ay->ai)(s:List ay):ai:=.au .aG (s.map g)
theorem agN:(ak g s).bO=.aK (ak g s):=rfl
theorem n0:(ai.aK (ak g s)).bO=.aK (ak g s):=Gq rfl
theorem i1:(ak g s).ed=ae:=Bm _ (ab2 s)
theorem xM:(ai.aK (ak g s)).ed=ax:=by rw[ai.ed];rfl
theorem Bo:ai.au .aG []=ak g []:=rfl
theorem agO:mx [ak g s]=.i (.d s.length):=by
 show Mo.i _=_;rw[ct]
theorem agP:dt (ak g s) (.d O)=.e8 ((eb s O).map g):=by
 show Mo.e8 _=_
 unfold eb;rw[ct];cases h8 _ O with
 |none=>rfl|some D=>
  show Mo.e8 (((s.map g)[D]?).map _)=_
  rw[gC,Option.map_map];congr 2;funext X;exact GA X
theorem ab3 (a8 aB:ea)(s:List ay)(g:ay->cQ):eD (s.map g) a8 aB=(eD s a8 aB).map g:=by
 unfold eD;simp_all
theorem GC (a8 aB:ea):la (ak g s) a8 aB=.i (ak g (eD s a8 aB)):=by
 show Mo.i _=_
 rw[ab3,tq];rfl
theorem n1 (Y:S.length+b.length<=100000):hu (ak g S) (ak g b)=.i (ak g (S++b)):=by
 show Mo.eS _ _=_
 rw[Mo.nI (by simp_all),<- iA,tq,ak]
theorem ON:xf [ak g s]=.i (ak g s):=by
 show Mo.i _=_;rw[tq];rfl
theorem vn:qZ [ak g s]=.i (s.map g):=of_eq_true (eq_self _)
theorem agQ:kq "list" (ak g s)=ae:=rfl
theorem j0 (Y:s.length<100000):q9 [ak g s,g X]=.i .a9 [ak g (s++[X]),.eO]:=by
 show(if(s.map g).length<cw then _ else _)=_
 rw[ct,if_pos (by have:=lK (z:=s.length+1) (by lia);lia)];unfold ak;rw[iA];rfl
theorem Bp (Y:S.length+b.length<=100000):tb [ak g S,ak g b]=.i .a9 [ak g (S++b),.au .aG (b.map λ_=>.eO)]:=by
 show(if(S.map g).length+(b.map g).length<=cw then bY.i _ _ else _)=_
 rw[ct,ct,if_pos (lK Y),gr];unfold ak;rw[iA];rfl
theorem agR:sX (ak g s)=.i (ak g s.reverse):=by
 show Mo.i _=_
 rw[<- Il,tq];rfl
theorem GD:∀(s:ef),sQ (s.map .d)=E (s.map .d)
 |[]=>rfl|O::s=>by rw[eR,sQ,GD s];rfl
theorem OO (O:Int):∀(s:ef),mi (.d O) (s.map .d)=decide (O∈s)
 |[]=>rfl|j::s=>by
  have:=OO O s;unfold mi at this ⊢;rw[eR,yG,this];by_cases Y:O=j
  ·subst Y;simp[ja]
  simp[ja,Y,oh Y]
theorem OP (s:ef):m7 cB (.d O) (ak .d s)=.i (.aM (if cB=ae then !decide (O∈s)else decide (O∈s))):=by
 show sR cB _ _=_
 unfold sR;rw[GD];show Mo.i (ai.aM (if cB=ae then !(mi _ _)else mi _ _))=_
 rw[OO]
end
section
variable {cQ fq:Type}{ah:ft}{x:aX}{bW:cx}{bL:jn}{du:hb}{dQ:iZ}{bV:iw}{N:cQ->Bool}{w:cQ->fq}{C:fq->ai}
theorem GF {F:bf->Mo jA}{T:cQ->bf}:∀{s:List cQ}{a:bf},(∀b∈s,F (T b)=.i (if N b=ae then E (C (w b))else k))->a.length+s.length<=100000->k4 F (s.map T) a=.i (a++((s.filter N).map w).map C)
 |[],a,_,_=>by rw[rJ];unfold k4;simp
 |b::s,a,Y,d=>by
  rw[ee]at d;rw[eR];unfold k4;rw[Y b ek,List.filter_cons];cases e:N b with
  |false=>
   exact GF (λt c=>Y t (fM _ c)) (by lia)
  |true=>
   show Mo.eS _ _=_
   rw[Mo.nI (by lia),GF (λt c=>Y t (fM _ c)) (by rw[dq,yu];lia)]
   simp
theorem ab4 {Q:kp}{e:H}{a:bf}{T:cQ->bf}(s:List cQ)(aB:bV.is.all (·<bW.length)=ae)(d:(H.gJ ah x dQ).aC du.w=.i a)(f:hM bV a=E (s.map T))(g:∀b∈s,H.s6 ah (mw (km bW bL x) bV.is (T b)) Q=.i (N b))(h:∀b∈s,N b=ae->H.aZ ah (mw (km bW bL x) bV.is (T b)) e=.i (C (w b)))(j:s.length<=100000):H.aZ ah x (.eH bW bL du dQ bV Q e)=.i (ak C ((s.filter N).map w)):=by
 show(if bV.is.all _ then(((H.gJ ah x dQ).aC _).aC λs=>.e8 _).aC λm=>(k4 _ m []).aC λaS=>Mo.i _ else .aQ)=_
 rw[if_pos aB,d,tp,f,abK,tp,GF    (λb c=>?_) (by simp_all)]
 ·rfl
 ·rw[g b c]
  cases i:N b with
  |false=>rfl|true=>rw[h b c i];rfl
theorem jH {e:H}{a:bf}{T:cQ->bf}(s:List cQ)(aB:bV.is.all (·<bW.length)=ae)(c:(H.gJ ah x dQ).aC du.w=.i a)(d:hM bV a=E (s.map T))(f:∀b∈s,H.aZ ah (mw (km bW bL x) bV.is (T b)) e=.i (C (w b)))(g:s.length<=100000):H.aZ ah x (.eH bW bL du dQ bV k e)=.i (ak C (s.map w)):=by
 rw[ab4  s aB c d (λ_ _=>abZ) (λb h _=>f b h) g,List.filter_eq_self.mpr λ_ _=>rfl]
theorem OQ (a:bf)(O:Nat):hM ⟨ax,[O]⟩ a=E (a.map λy=>[y]):=by
 induction a with
 |nil=>rfl|cons y a b=>rw[hM,b];rfl
theorem i2 {g:cQ->ai}(s:List cQ)(O:Nat):hM ⟨ax,[O]⟩ (s.map g)=E (s.map λy=>[g y]):=by rw[OQ,gr];rfl
theorem xN {g Y:cQ->ai}(s:List cQ)(O j:Nat):hM ⟨ae,[O,j]⟩ (s.map λb=>.au .a_ [g b,Y b])=E (s.map λb=>[g b,Y b]):=by
 induction s with
 |nil=>trivial|cons y a c=>rw[eR,hM,c];rfl
end
noncomputable def jg {ay:Type}(g:ay->ai)(h:List (Int×ay)):ai:=.au (.gy (h.map λV=>.inl V.1)) (h.map λV=>g V.2)
def hA {ay:Type}:List (Int×ay)->Int->Option ay
 |[],_=>k|V::h,O=>if V.1=O then E V.2 else hA h O
def vo {ay:Type}:List (Int×ay)->Int->ay->List (Int×ay)
 |[],O,v=>[(O,v)]|V::h,O,v=>if V.1=O then(O,v)::h else V::vo h O v
section
variable {ay:Type}{g:ay->ai}[kR g]{h:List (Int×ay)}{O:Int}{v r:ay}{cB:Bool}
theorem GG {O j:Int}:((tV O:d9)=.inl j)↔O=j:=⟨λY=>by lia,λY=>by rw[Y]⟩
theorem OR (h:List (Int×ay)):nP (h.map λV=>.inl V.1) (h.map λV=>g V.2) (.inl O)=(hA h O).map g:=by
 unfold nP;induction h with
 |nil=>rfl|cons V h a=>
  rw[eR,eR,j7,qp,hA];by_cases Y:V.1=O
  ·rw[decide_eq_true (GG.mpr Y),if_pos Y];rfl
  rwa[decide_eq_false (λI=>Y (GG.mp I)),if_neg Y]
theorem agS:(jg g h).bO=.aK (jg g h):=rfl
theorem agT:kq "dict" (jg g h)=ae:=rfl
theorem OS:dt (jg g h) (.d O)=.e8 ((hA h O).map g):=by
 show Mo.e8 _=_
 rw[OR];cases hA h O with
 |none=>rfl|some v=>show Mo.i _=_;rw[GA];rfl
theorem agU:m7 cB (.d O) (jg g h)=.i (.aM (if cB=ae then !(hA h O).isSome else(hA h O).isSome)):=by
 show Mo.i _=_
 rw[OR,yK]
theorem xO (h:List (Int×ay)):(hA h O=k->¬gK (h.map λV=>(.inl V.1:d9)) (.inl O)<h.length)/\(∀r,hA h O=E r->gK (h.map λV=>(.inl V.1:d9)) (.inl O)<h.length/\(h.map λV=>g V.2)[gK (h.map λV=>(.inl V.1:d9)) (.inl O)]?=E (g r)):=by
 induction h with
 |nil=>exact⟨λ_=>by simp,λr Y=>by cases Y⟩|cons V h a=>
  rw[eR,gK,hA,ee];by_cases Y:V.1=O
  ·simp_all
  ·rw[if_neg Y,if_neg (λI=>Y (GG.mp I))]
   refine⟨λI=>by have:=a.1 I;lia,λr I=>?_⟩
   have:=a.2 r I;exact⟨by lia,this.2⟩
theorem GH (O:Int):m4 (.d O)=E (.inl O):=rfl
theorem GI {z:Nat}(Y:z<100000):z<cw:=by have:=lK (z:=z+1) (by lia);lia
theorem ab5 (Y:hA h O=k)(a:h.length<100000):nW [jg g h,.d O,g v]=.i (g v) [jg g (h++[(O,v)]),.d O,g v]:=by
 unfold jg nW;simp only[OM,if_true,GH,ct,if_neg ((xO (g:=g) h).1 Y),if_pos (GI a),iA];rfl
theorem ab6 (Y:hA h O=E r):nW [jg g h,.d O,g v]=.i (g r) [jg g h,.d O,g v]:=by
 have D:=(xO (g:=g) h).2 r Y;unfold jg nW;simp only[OM,if_true,GH,ct,if_pos D.1,D.2]
theorem xP (h:List (Int×ay)):(hA h O=k->vo h O v=h++[(O,v)])/\(∀r,hA h O=E r->(h.map λV=>g V.2).set (gK (h.map λV=>(.inl V.1:d9)) (.inl O)) (g v)=(vo h O v).map (λV=>g V.2)/\(vo h O v).map (λV=>(.inl V.1:d9))=h.map λV=>.inl V.1):=by
 induction h with
 |nil=>exact⟨λ_=>rfl,λr Y=>by cases Y⟩|cons V h a=>
  rw[eR,eR,gK,hA,vo];by_cases Y:V.1=O
  ·simp_all
  simp_all
theorem OT (a:h.length<100000):ng [g v,jg g h,.d O]=.i .a9 [.eO,jg g (vo h O v),.d O]:=by
 unfold jg ng;simp only[GH,ct];cases Y:hA h O with
 |none=>rw[if_neg (λI=>(xO (g:=g) h).1 Y I.1),if_pos ⟨GI a,(xO (g:=g) h).1 Y⟩,(xP (g:=g) h).1 Y,iA,iA];rfl|some r=>rw[if_pos ⟨((xO (g:=g) h).2 r Y).1,GI a⟩,((xP h).2 r Y).1,((xP (g:=g)  h).2 r Y).2]
theorem ab7 (h:List (Int×ay)):sY (h.map λV=>.inl V.1)=E (h.map (·.1)):=by
 induction h with
 |nil=>rfl|cons V h a=>rw[eR,sY,a];rfl
theorem agV:xg [jg g h]=q3 (h.map (·.1)):=by
 show(match sY _ with |some is=>q3 is |none=>_)=_
 rw[ab7]
theorem vp (z:Nat)(O j:Int):fI z (.d O) (.d j)=E (decide (O=j)):=by
 cases z with
 |_=>rfl
theorem OU (z:Nat)(S b:bo):fI z (.f S) (.f b)=E (decide (S=b)):=by
 have:ja (eN S) (eN b)=decide (S=b):=by
  by_cases Y:S=b
  ·subst Y;simp[eN,ja]
  ·rw[decide_eq_false Y]
   refine beq_eq_false_iff_ne.mpr λI=>Y ?_
   injection I with I;exact List.toArray_inj I
 cases z with
 |_=>show E (ja _ _)=_;rw[this]
theorem tr {S b:ai}{Q:Bool}(Y:fI 12 S b=E Q):f3 cB S b=.i (.aM (if cB=ae then !Q else Q)):=by
 unfold f3;rw[Y];rfl
theorem ih (S b:Int):f3 cB (.d S) (.d b)=.i (.aM (if cB=ae then !decide (S=b)else decide (S=b))):=tr (vp 12 S b)
theorem n2 (S b:bo):f3 cB (.f S) (.f b)=.i (.aM (if cB=ae then !decide (S=b)else decide (S=b))):=tr (OU 12 S b)
theorem GJ {w:w3}:∀(a:bf),(∀y∈a,w y y=E ae)->kN w a a=E ae
 |[],_=>by simp[kN]
 |y::a,Y=>by rw[kN,Y y ek,GJ a λX b=>Y X (fM _ b)];rfl
theorem Bq {z:Nat}{a:bf}(Y:∀y∈a,fI z y y=E ae):fI (z+1) (.au .aG a) (.au .aG a)=E ae:=by
 show(if a.length=a.length then kN _ a a else E ax)=_
 rw[if_pos rfl,GJ a Y]
theorem xQ {z:Nat}{a:bf}(Y:∀y∈a,fI z y y=E ae):fI (z+1) (.au .a_ a) (.au .a_ a)=E ae:=by
 show(kN _ a a).map _=_
 rw[GJ a Y];simp
end
end VI
namespace K45
open PySem PySem.Spec PyProof.Rows L2 VI
open Mo renaming aC→agW,i→iQ
open hL renaming aK→agX,nJ→agY,pF→agZ
noncomputable abbrev fB:=bo
abbrev GK:=List fB
noncomputable abbrev xR:bo:=[97,98,99,100,101,102,103,104,105,106,107,108,109,110,111,112,113,114,115,116,117,118,119,120,121,122]
noncomputable abbrev Br:bo:=[32,48,49,50,51,52,53,54,55,56,57,65,66,67,68,69,70,71,72,73,74,75,76,77,78,79,80,81,82,83,84,85,86,87,88,89,90]
noncomputable abbrev GL:bo:=[59,32,111,114,100,101,114,59,32,98,114,101,97,107,32,48,59,32,115,117,109,32,105,110,32,49,59,32,112,114,105,110,116]
noncomputable abbrev GN:bo:=[48,49,50,51,52,53,54,55,56,57]
noncomputable def aP:ft:={c9:=["Asking", "Clauses"],my:=[("MATING_WORDS",[[109,97,116,101,115],[119,105,116,104,111,117,116]]),("WORK_WORDS",[[112,108,117,115],[108,101,115,115],[116,105,109,101,115]])]}
def OV:cE:=[.dE (.aT .h6 (.v 1) (.dK .b6 [(.v 0)])) [.cJ (.bq (.aT .fj (.v 0) (.v 1)))] [],.cJ (.bq (.z 0))]
def rt:b0:=cy aP 2 0 OV
noncomputable abbrev xS:=H.b7 rt "_law_cell_at"
def OW:cE:=[.cn 1 (.bq (.D (.f xR))),.cJ (.bq (.eF .jd (.D (.f [])) [(.eH ["_law_k"] [("_law_letters",1),("_law_cell",0)] .bC [(.aT .cO (.z 1) (.aT .dU (.v 0) (.z 8)))] ⟨ax,[0]⟩ k (.aT .fj (.v 1) (.aT .dU (.aT .cO (.aT .ib (.v 2) (.aT .cO (.v 0) (.z 1))) (.aT .lX (.v 0) (.v 0))) (.z 26))))]))]
def GO:b0:=cy aP 1 1 OW
def OX:cE:=[.cn 3 (.bq (.aT .cO (.z 1) (.aT .dU (.v 0) (.v 1)))),.cJ (.bq (.a_ [(.v 3),(.dK .min [(.v 1),(.aT .cO (.v 3) (.aT .dU (.aT .ib (.v 0) (.z 24)) (.v 2)))])]))]
def GP:b0:=cy aP 3 1 OX
noncomputable abbrev vq:=H.b7 GP "_law_span"
def OY:cE:=[.cn 2 (.bq (.D (.f xR))),.cn 3 (.bq (.aT .dU (.v 1) (.dK .b6 [(.v 0)]))),.cn 4 (.bq (.aT .fj (.v 2) (.aT .dU (.aT .cO (.aT .cO (.eF .find (.v 2) [(.aT .fj (.v 0) (.v 3))]) (.z 1)) (.aT .dU (.aT .ib (.v 1) (.z 8)) (.z 25))) (.z 26)))),.cJ (.bq (.aT .cO (.aT .cO (.sl (.v 0) k (E (.v 3))) (.v 4)) (.sl (.v 0) (E (.aT .cO (.v 3) (.z 1))) k)))]
def GQ:b0:=cy aP 2 3 OY
def Bs:cE:=[.cn 2 (.bq (vq [(.aT .ib (.v 1) (.z 4)),(.z 24),(.z 6)])),.cn 3 (.bq (.aT .lb (.O (.v 2) 1) (.O (.v 2) 0))),.cn 4 (.bq (.aT .cO (.z 1) (.aT .dU (.aT .ib (.v 1) (.z 9)) (.aT .lb (.z 36) (.v 3))))),.dE (.aT .fK (.aT .dU (.v 1) (.z 4)) (.z 1)) [.cJ (.bq (.a_ [(.D (.f [102,105,114,115,116])),(.v 2)]))] [],.dE (.aT .hx (.aT .dU (.v 1) (.z 4)) (.z 1)) [.cJ (.bq (.a_ [(.aT .fj (.aG [(.D (.f [109,97,116,101,115])),(.D (.f [119,105,116,104,111,117,116]))]) (.aT .dU (.v 1) (.z 2))),(.b7 GQ "_law_other" [(.v 0),(.aT .ib (.v 1) (.z 4))]),(.v 2),(.a_ [(.v 4),(.aT .cO (.v 4) (.v 3))])]))] [],.cJ (.bq (.D .a9))]
def GR:b0:=cy aP 2 3 Bs
def GS:cE:=[.cn 2 (.bq (.a_ [(.aT .cO (.z 25) (.aT .lX (.z 3) (.v 1))),(.aT .cO (.aT .cO (.z 25) (.aT .lX (.z 3) (.v 1))) (.aT .dU (.v 0) (.z 3)))])),.cn 3 (.bq (vq [(.aT .ib (.v 0) (.z 3)),(.z 24),(.z 6)])),.cn 4 (.bq (vq [(.aT .ib (.v 0) (.z 5)),(.z 24),(.z 3)])),.dE (.and (.aT .hx (.v 1) (.z 0)) (.aT .fK (.aT .dU (.aT .ib (.v 0) (.z 2)) (.z 3)) (.z 1))) [.cn 5 (.bq (.aT .cO (.z 25) (.aT .lX (.z 3) (.aT .dU (.aT .ib (.v 0) (.z 7)) (.v 1))))),.cn 3 (.bq (.a_ [(.v 5),(.aT .cO (.v 5) (.aT .dU (.aT .ib (.v 0) (.z 11)) (.z 3)))]))] [],.cJ (.bq (.a_ [(.v 2),(.v 3),(.aT .fj (.aG [(.D (.f [112,108,117,115])),(.D (.f [108,101,115,115])),(.D (.f [116,105,109,101,115]))]) (.aT .dU (.aT .ib (.v 0) (.z 4)) (.z 3))),(.v 4)]))]
def GU:b0:=cy aP 2 4 GS
def Bt:cE:=[.cn 1 (.bq (.D (.f Br))),.cn 2 (.bq (xS [(.v 0),(.z 3)])),.cn 3 (.bq (.aG [(.aG []),(.aG []),(.aG []),(.aG []),(.aG [])])),.gc .dy [(.sl (.v 0) (E (.z 4)) (E (.z 67)))] ⟨ax,[4]⟩ [.cn 5 (.bq (.aT .dU (.v 4) (.z 5))),.cn 6 (.bq (.aT .ib (.v 4) (.z 5))),.dE (.aT .u5 (.dK .b6 [(.aT .fj (.v 3) (.v 5))]) (.aT .fj (.aG [(.z 8),(.z 6),(.z 4),(.z 4),(.z 36)]) (.v 5))) [.cont] [],.dE (.aT .fK (.v 5) (.z 0)) [.cn 7 (.bq (vq [(.v 6),(.z 24),(.z 5)])),.cn 8 (.bq (.eF .jd (.D (.f [])) [(.eH ["_law_at"] [("_law_signs",1),("_law_seed",2)] .bR [(.O (.v 7) 0),(.aT .cO (.O (.v 7) 1) (.z 1))] ⟨ax,[0]⟩ k (.aT .fj (.v 1) (.aT .dU (.aT .cO (.v 2) (.aT .lX (.aT .lX (.v 0) (.v 0)) (.aT .cO (.z 1) (.aT .dU (.v 2) (.z 7))))) (.z 37))))])),.aW (.fw .dY (.A (.v 3) (.z 0)) [(.X (.a_ [(.v 7),(.v 8)]))])] [],.dE (.aT .fK (.v 5) (.z 1)) [.aW (.fw .dY (.A (.v 3) (.z 1)) [(.X (vq [(.v 6),(.z 24),(.z 4)]))])] [],.dE (.aT .fK (.v 5) (.z 2)) [.aW (.fw .dY (.A (.v 3) (.z 2)) [(.X (.b7 GU "_law_work" [(.v 6),(.dK .b6 [(.O (.v 3) 2)])]))])] [],.dE (.aT .fK (.v 5) (.z 3)) [.aW (.fw .dY (.A (.v 3) (.z 3)) [(.X (vq [(.v 6),(.z 36),(.z 8)]))])] [],.dE (.and (.aT .fK (.v 5) (.z 4)) (.aT .AI (.aT .cO (.z 1) (.aT .dU (.aT .ib (.v 6) (.z 40)) (.z 36))) (.eH ["_law_wire"] [] .dy [(.O (.v 3) 4)] ⟨ax,[0]⟩ k (.O (.v 0) 1)))) [.aW (.fw .dY (.A (.v 3) (.z 4)) [(.X (.a_ [(.aT .cO (.z 1) (.aT .dU (.v 6) (.z 40))),(.aT .cO (.z 1) (.aT .dU (.aT .ib (.v 6) (.z 40)) (.z 36)))]))])] []],.cJ (.kr 3)]
def xT:b0:=cy aP 1 8 Bt
def OZ:cE:=[.cJ (.bq (.a_ [(.aT .lb (.z 37) (.O (.v 0) 1)),(.aT .lb (.z 37) (.O (.v 0) 0))]))]
def GV:b0:=cy aP 1 0 OZ
noncomputable abbrev p7:=H.b7 GV "_law_turned"
def nr:cE:=[.cn 1 (.bq (xS [(.v 0),(.z 0)])),.cn 2 (.bq (.b7 GO "_law_name" [(.aT .ib (.v 1) (.z 2))])),.cn 3 (.bq (.b7 GR "_law_middle" [(.v 2),(xS [(.v 0),(.z 1)])])),.cn 4 (.bq (xS [(.v 0),(.z 2)])),.td [5,6,7,8,9] (.b7 xT "_law_drawn" [(.v 0)]),.dE (.aT .fK (.aT .dU (.v 1) (.z 2)) (.z 1)) [.cn 5 (.bq (.eH ["_law_field_here", "_law_text"] [] .dy [(.v 5)] ⟨ae,[0,1]⟩ k (.a_ [(p7 [(.v 0)]),(.m8 .pS (.v 1))]))),.cn 6 (.bq (.eH ["_law_field_here"] [] .dy [(.v 6)] ⟨ax,[0]⟩ k (p7 [(.v 0)]))),.cn 8 (.bq (.eH ["_law_field_here"] [] .dy [(.v 8)] ⟨ax,[0]⟩ k (p7 [(.v 0)]))),.cn 10 (.bq (.aG [])),.gc .dy [(.v 7)] ⟨ae,[11,12,13,14]⟩ [.aW (.fw .dY (.v 10) [(.X (.a_ [(p7 [(.v 11)]),(p7 [(.v 12)]),(.v 13),(p7 [(.v 14)])]))])],.cn 7 (.bq (.v 10)),.dE (.aT .q4 (.v 3) (.D .a9)) [.cn 15 (.bq (.aT .lb (.aT .lb (.dK .b6 [(.v 3)]) (.z 1)) (.dK .d [(.aT .fK (.dK .b6 [(.v 3)]) (.z 4))]))),.cn 3 (.bq (.aT .cO (.aT .cO (.sl (.v 3) k (E (.v 15))) (.a_ [(p7 [(.aT .fj (.v 3) (.v 15))])])) (.sl (.v 3) (E (.aT .cO (.v 15) (.z 1))) k)))] []] [],.cn 16 (.bq (.eH ["_law_there", "_law_here"] [] .dy [(.dK .sZ [(.eH ["_law_wire"] [] .dy [(.v 9)] ⟨ax,[0]⟩ k (.a_ [(.O (.v 0) 1),(.O (.v 0) 0)]))])] ⟨ae,[0,1]⟩ k (.a_ [(.v 1),(.v 0)]))),.cn 17 (.bq (.aT .dU (.v 4) (.aT .cO (.dK .min [(.z 3),(.dK .b6 [(.v 6)])]) (.z 1)))),.cJ (.bq (.aG [(.v 2),(.v 5),(.v 3),(.v 6),(.v 7),(.v 17),(.v 8),(.aT .cO (.z 1) (.aT .dU (.aT .ib (.v 4) (.z 4)) (.z 12))),(.v 16)]))]
def Bu:b0:=cy aP 1 17 nr
def O0:cE:=[.dE (.aT .fK (.O (.v 0) 0) (.O (.v 0) 1)) [.cJ (.bq (.dK .f [(.O (.v 0) 0)]))] [],.cJ (.bq (.aT .cO (.aT .cO (.dK .f [(.O (.v 0) 0)]) (.D (.f [45]))) (.dK .f [(.O (.v 0) 1)])))]
def vr:b0:=cy aP 1 0 O0
noncomputable abbrev n3:=H.b7 vr "_law_field"
def ru:cE:=[.cn 2 (.bq (.aG [(.aT .cO (.D (.f [116,97,107,101,32])) (.O (.v 0) 0))])),.gc .dy [(.O (.v 0) 1)] ⟨ae,[3,4]⟩ [.aW (.fw .dY (.v 2) [(.X (.aT .cO (.aT .cO (.aT .cO (.D (.f [112,105,99,107,32])) (n3 [(.v 3)])) (.D (.f [32]))) (.eF .jd (.D (.f [95])) [(.eF .split (.v 4) [(.D (.f [32]))])])))])],.dE (.aT .q4 (.O (.v 0) 2) (.D .a9)) [.cn 5 (.bq (.aG [])),.gc .dy [(.O (.v 0) 2)] ⟨ax,[6]⟩ [.dE (.ko (.v 6) "tuple") [.aW (.fw .dY (.v 5) [(.X (n3 [(.v 6)]))])] [.aW (.fw .dY (.v 5) [(.X (.v 6))])]],.aW (.fw .dY (.v 2) [(.X (.eF .jd (.D (.f [32])) [(.v 5)]))])] [],.cn 7 (.bq (.eF .jd (.D (.f [44,32])) [(.eH ["_law_field_here"] [] .dy [(.O (.v 0) 3)] ⟨ax,[0]⟩ k (n3 [(.v 0)]))])),.aW (.fw .dY (.v 2) [(.X (.eF .jd (.D (.f [32])) [(.sl (.aG [(.D (.f [111,114,100,101,114])),(.v 7)]) k (E (.aT .cO (.z 1) (.dK .b6 [(.O (.v 0) 3)]))))]))]),.gc .dy [(.O (.v 0) 4)] ⟨ae,[8,9,10,11]⟩ [.cn 5 (.bq (.aG [(.D (.f [119,111,114,107])),(n3 [(.v 8)]),(.D (.f [61])),(n3 [(.v 9)]),(.v 10),(n3 [(.v 11)])])),.aW (.fw .dY (.v 2) [(.X (.eF .jd (.D (.f [32])) [(.v 5)]))])],.aW (.fw .dY (.v 2) [(.X (.aT .cO (.D (.f [98,114,101,97,107,32])) (.dK .f [(.O (.v 0) 5)])))]),.cn 12 (.bq (.eF .jd (.D (.f [44,32])) [(.eH ["_law_field_here"] [] .dy [(.O (.v 0) 6)] ⟨ax,[0]⟩ k (n3 [(.v 0)]))])),.aW (.fw .dY (.v 2) [(.X (.eF .jd (.D (.f [32])) [(.aT .cO (.sl (.aG [(.D (.f [115,117,109])),(.v 12)]) k (E (.aT .cO (.z 1) (.dK .b6 [(.O (.v 0) 6)])))) (.aG [(.D (.f [105,110])),(.dK .f [(.O (.v 0) 7)])]))]))]),.cJ (.bq (.aT .cO (.v 2) (.aG [(.eF .jd (.D (.f [32])) [(.aT .cO (.aG [(.D (.f [112,114,105,110,116]))]) (.sl (.aG [(.v 1)]) k (E (.dK .b6 [(.v 1)]))))])])))]
def GW:b0:=cy aP 2 11 ru
def Bv:cE:=[.cn 1 (.bq (.aG [])),.gc .dy [(.v 0)] ⟨ax,[2]⟩ [.dE (.and (.aT .ne (.v 1) (.aG [])) (.aT .fK (.v 2) (.a_ [(.aT .cO (.O (.O (.aT .fj (.v 1) (.cB (.z 1))) 1) 0) (.z 1)),(.aT .cO (.O (.O (.aT .fj (.v 1) (.cB (.z 1))) 1) 1) (.z 1))]))) [.rg (.A (.v 1) (.cB (.z 1))) (.z 1) (.v 2)] [.aW (.fw .dY (.v 1) [(.X (.aG [(.v 2),(.v 2)]))])]],.cn 3 (.bq (.aG [])),.gc .dy [(.v 1)] ⟨ae,[4,5]⟩ [.aW (.fw .dY (.v 3) [(.X (.aT .cO (.aT .cO (n3 [(.a_ [(.O (.v 4) 0),(.O (.v 5) 0)])]) (.D (.f [62]))) (n3 [(.a_ [(.O (.v 4) 1),(.O (.v 5) 1)])])))])],.cJ (.bq (.eF .jd (.D (.f [44,32])) [(.v 3)]))]
def Bw:b0:=cy aP 1 5 Bv
def ts:cE:=[.cn 2 (.bq (.eH ["_law_here", "_law_there"] [] .dy [(.v 0)] ⟨ae,[0,1]⟩ k (.aT .cO (.aT .cO (.dK .f [(.v 0)]) (.D (.f [62]))) (.dK .f [(.v 1)])))),.cn 3 (.bq (.aT .dU (.aT .ib (.v 1) (.z 3)) (.aT .cO (.dK .b6 [(.v 2)]) (.z 1)))),.cn 2 (.bq (.aT .cO (.sl (.v 2) (E (.v 3)) k) (.sl (.v 2) k (E (.v 3))))),.dE (.aT .fK (.aT .dU (.aT .ib (.v 1) (.z 50)) (.z 2)) (.z 1)) [.cn 2 (.bq (.oO (.v 2)))] [],.dE (.aT .fK (.aT .dU (.v 1) (.z 3)) (.z 0)) [.cJ (.bq (.b7 Bw "_law_board" [(.v 0)]))] [],.cJ (.bq (.eF .jd (.D (.f [44,32])) [(.v 2)]))]
def Bx:b0:=cy aP 2 2 ts
def GX:cE:=[.cJ (.bq (.and (.aT .ne (.d2 (.v 0) "waiting") (.aG [])) (.aT .fK (.O (.eF .u7 (.O (.d2 (.v 0) "waiting") 0) [(.D (.f [32]))]) 0) (.v 1))))]
def o7:b0:=cy aP 2 0 GX
def GY:cE:=[.dE (.not (.eo [("Clauses",o7)] (.v 0) "is_next" [(.v 1)])) [.iL] [],.cJ (.fw .tc (.w (.v 0) "waiting") [(.X (.z 0))])]
def p8:b0:=cy aP 2 0 GY
def By:cE:=[.cn 3 (.ku (.eF .split [(.D (.f [32]))]) (.eo [("Clauses",p8)] (.v 0) "take" [(.X (.v 1))])),.dE (.aT .ne (.dK .b6 [(.v 3)]) (.v 2)) [.iL] [],.cJ (.kr 3)]
def kS:b0:=cy aP 3 1 By
def ab8:cE:=[.cn 1 (.bq (.z 0)),.gc .dy [(.v 0)] ⟨ax,[2]⟩ [.cn 1 (.bq (.aT .cO (.aT .lX (.v 1) (.z 10)) (.eF .index (.fu "FIGURES" (.f GN)) [(.v 2)])))],.cJ (.kr 1)]
def O1:b0:=cy aP 1 2 ab8
def ab9:cE:=[.dE (.or (.aT .fK (.v 0) (.D (.f []))) (.not (.dK .all [(.eH ["sign"] [] .dy [(.v 0)] ⟨ax,[0]⟩ k (.aT .oM (.v 0) (.fu "FIGURES" (.f GN))))]))) [.cJ (.bq (.D .a9))] [],.dE (.and (.aT .fK (.O (.v 0) 0) (.D (.f [48]))) (.aT .ne (.v 0) (.D (.f [48])))) [.cJ (.bq (.D .a9))] [],.cJ (.bq (.b7 O1 "number_by" [(.v 0)]))]
def xU:b0:=cy aP 1 0 ab9
noncomputable abbrev GZ:=H.b7 xU "read_whole"
noncomputable def ab_:cE:=[.cJ (.bq (.and (.ko (.v 0) "int") (.not (.ko (.v 0) "bool"))))]
def G0:b0:=cy aP 1 0 ab_
noncomputable abbrev xV:=H.b7 G0 "is_whole"
def O2:cE:=[.cJ (.bq (.and (xV [(.v 0)]) (.and (xV [(.v 1)]) (.oQ .fi .fi .fi (.z 1) (.v 0) (.v 1) (.fu "BODY_WIDTH" (.d 36))))))]
def Bz:b0:=cy aP 2 0 O2
def O3:cE:=[.dE (.not (.b7 Bz "is_field" [(.v 0),(.v 1)])) [.iL] [],.cJ (.bq (.a_ [(.v 0),(.v 1)]))]
def G1:b0:=cy aP 2 0 O3
def O4:cE:=[.cn 1 (.bq (.eH ["end"] [] .dy [(.eF .split (.v 0) [(.D (.f [45]))])] ⟨ax,[0]⟩ k (GZ [(.v 0)]))),.dE (.or (.aT .hx (.dK .b6 [(.v 1)]) (.z 2)) (.and (.aT .fK (.dK .b6 [(.v 1)]) (.z 2)) (.aT .fK (.O (.v 1) 0) (.O (.v 1) 1)))) [.iL] [],.cJ (.bq (.b7 G1 "field_of" [(.O (.v 1) 0),(.aT .fj (.v 1) (.cB (.z 1)))]))]
def vs:b0:=cy aP 1 1 O4
noncomputable abbrev tu:=H.b7 vs "read_field"
noncomputable def O5:cE:=[.cJ (.bq (.m8 (.mY 95 32) (.v 0)))]
def G2:b0:=cy aP 1 0 O5
def xW:cE:=[.cn 1 (.bq (.aG [])),.p1 (.eo [("Clauses",o7)] (.v 0) "is_next" [(.D (.f [112,105,99,107]))]) [.cn 2 (.eo [("Clauses",kS)] (.v 0) "take_words" [(.X (.D (.f [112,105,99,107]))),(.X (.z 3))]),.aW (.fw .dY (.v 1) [(.X (.a_ [(tu [(.O (.v 2) 1)]),(.b7 G2 "read_blanks" [(.O (.v 2) 2)])]))])],.cJ (.kr 1)]
def BA:b0:=cy aP 1 2 xW
def xX:cE:=[.gc .dy [(.hx "MATING_WORDS" [[109,97,116,101,115],[119,105,116,104,111,117,116]])] ⟨ax,[1]⟩ [.dE (.eo [("Clauses",o7)] (.v 0) "is_next" [(.v 1)]) [.cn 2 (.eo [("Clauses",kS)] (.v 0) "take_words" [(.X (.v 1)),(.X (.z 4))]),.cJ (.bq (.a_ [(.v 1),(.O (.v 2) 1),(tu [(.O (.v 2) 2)]),(tu [(.O (.v 2) 3)])]))] []],.dE (.eo [("Clauses",o7)] (.v 0) "is_next" [(.D (.f [102,105,114,115,116]))]) [.cJ (.tk (.f [102,105,114,115,116]) (.ku (.b7 vs "read_field" []) (.aT .fj (.eo [("Clauses",kS)] (.v 0) "take_words" [(.X (.D (.f [102,105,114,115,116]))),(.X (.z 2))]) (.bq (.z 1)))))] [],.cJ (.bq (.D .a9))]
def BB:b0:=cy aP 1 2 xX
def O6:cE:=[.dE (.aT .fK (.v 0) (.v 1)) [.cJ (.bq (.aG []))] [],.cJ (.bq (.eH ["text"] [] .dy [(.eF .split (.sl (.v 0) (E (.aT .cO (.dK .b6 [(.v 1)]) (.z 1))) k) [(.D (.f [44,32]))])] ⟨ax,[0]⟩ k (tu [(.v 0)])))]
def xY:b0:=cy aP 2 0 O6
def xZ:cE:=[.cn 1 (.bq (.aG [])),.p1 (.eo [("Clauses",o7)] (.v 0) "is_next" [(.D (.f [119,111,114,107]))]) [.cn 2 (.eo [("Clauses",kS)] (.v 0) "take_words" [(.X (.D (.f [119,111,114,107]))),(.X (.z 6))]),.dE (.aT .ne (.O (.v 2) 2) (.D (.f [61]))) [.iL] [],.aW (.fw .dY (.v 1) [(.X (.a_ [(tu [(.O (.v 2) 1)]),(tu [(.O (.v 2) 3)]),(.O (.v 2) 4),(tu [(.O (.v 2) 5)])]))])],.cJ (.kr 1)]
def BC:b0:=cy aP 1 2 xZ
def O7:cE:=[.cn 1 (.bq (GZ [(.v 0)])),.dE (.aT .is (.v 1) (.D .a9)) [.iL] [],.cJ (.kr 1)]
def BD:b0:=cy aP 1 1 O7
def O8:cE:=[.cn 2 (.bq (.eH ["end"] [] .dy [(.eF .split (.v 0) [(.D (.f [45]))])] ⟨ax,[0]⟩ k (GZ [(.v 0)]))),.dE (.or (.aT .oM (.D .a9) (.v 2)) (.aT .hx (.dK .b6 [(.v 2)]) (.z 2))) [.iL] [],.dE (.and (.aT .fK (.dK .b6 [(.v 2)]) (.z 2)) (.aT .u5 (.O (.v 2) 0) (.O (.v 2) 1))) [.iL] [],.dE (.or (.aT .h6 (.O (.v 2) 0) (.z 1)) (.aT .hx (.aT .fj (.v 2) (.cB (.z 1))) (.v 1))) [.iL] [],.cJ (.bq (.a_ [(.O (.v 2) 0),(.aT .fj (.v 2) (.cB (.z 1)))]))]
def BE:b0:=cy aP 2 1 O8
def O9:cE:=[.cn 1 (.bq (.eF .split (.v 0) [(.D (.f [62]))])),.dE (.aT .ne (.dK .b6 [(.v 1)]) (.z 2)) [.iL] [],.cn 2 (.bq (.b7 BE "read_span" [(.O (.v 1) 0),(.fu "CARD_WIDTH" (.d 40))])),.cn 3 (.bq (.b7 BE "read_span" [(.O (.v 1) 1),(.fu "BODY_WIDTH" (.d 36))])),.dE (.aT .ne (.aT .lb (.O (.v 2) 1) (.O (.v 2) 0)) (.aT .lb (.O (.v 3) 1) (.O (.v 3) 0))) [.iL] [],.cJ (.bq (.eH ["step"] [("here",2),("there",3)] .bC [(.aT .cO (.aT .lb (.O (.v 2) 1) (.O (.v 2) 0)) (.z 1))] ⟨ax,[0]⟩ k (.a_ [(.aT .cO (.O (.v 1) 0) (.v 0)),(.aT .cO (.O (.v 2) 0) (.v 0))])))]
def BF:b0:=cy aP 1 3 O9
def O_:cE:=[.cJ (.bq (.and (xV [(.v 0)]) (.mz .fi .fi (.z 1) (.v 0) (.v 1))))]
def BG:b0:=cy aP 2 0 O_
def G3:cE:=[.gc .dy [(.v 0)] ⟨ax,[1]⟩ [.dE (.or (.not (.b7 BG "is_column" [(.O (.v 1) 0),(.fu "CARD_WIDTH" (.d 40))])) (.not (.b7 BG "is_column" [(.O (.v 1) 1),(.fu "BODY_WIDTH" (.d 36))]))) [.iL] []],.cn 2 (.bq .nT),.gc .dy [(.v 0)] ⟨ax,[1]⟩ [.dE (.aT .oM (.O (.v 1) 1) (.v 2)) [.iL] [],.rg (.v 2) (.O (.v 1) 1) (.v 1)],.cJ (.bq (.eH ["column"] [("leading",2)] .dy [(.dK .u6 [(.v 2)])] ⟨ax,[0]⟩ k (.aT .fj (.v 1) (.v 0))))]
def x9:b0:=cy aP 1 2 G3
def Pa:cE:=[.dE (.aT .fK (.v 0) (.D (.f []))) [.cJ (.bq (.aG []))] [],.cn 1 (.bq (.aG [])),.gc .dy [(.eF .split (.v 0) [(.D (.f [44,32]))])] ⟨ax,[2]⟩ [.aW (.fw .o1 (.v 1) [(.X (.b7 BF "read_piece" [(.v 2)]))])],.cJ (.bq (.b7 x9 "make_board" [(.v 1)]))]
def tv:b0:=cy aP 1 2 Pa
def Pb:cE:=[.dE (.aT .fK (.v 0) (.D (.f [112,114,105,110,116]))) [.cJ (.bq (.aG []))] [],.cn 1 (.bq (.sl (.v 0) (E (.dK .b6 [(.D (.f [112,114,105,110,116,32]))])) k)),.dE (.aT .fK (.v 1) (.D (.f []))) [.iL] [],.cJ (.bq (.b7 tv "read_board" [(.v 1)]))]
def G4:b0:=cy aP 1 1 Pb
noncomputable def G5:cE:=[.dE (.aT .ne (.d2 (.v 0) "waiting") (.aG [])) [.iL] []]
def x_:b0:=cy aP 1 0 G5
noncomputable def Pc:cE:=[.cJ (.bq (.mA (.aT .is (.v 0) (.D .a9)) (.aG []) (.dK .dV [(.v 0)])))]
def G6:b0:=cy aP 1 0 Pc
noncomputable abbrev G7:=H.b7 G6 "own_list"
noncomputable def aca:cE:=[.dE (.not (.v 0)) [.iL] []]
def G8:b0:=cy aP 2 0 aca
noncomputable abbrev jI:=H.b7 G8 "ask_for"
def Pd:cE:=[.aW (.bq (jI [(.aT .fi (.dK .b6 [(.d2 (.v 0) "picks")]) (.fu "MOST_PICKS" (.d 8))),(.D (.f [97,110,32,97,115,107,105,110,103,32,104,97,115,32,56,32,112,105,99,107,115,32,97,116,32,109,111,115,116]))])),.aW (.bq (jI [(.aT .fi (.dK .b6 [(.d2 (.v 0) "order")]) (.fu "MOST_KEYS" (.d 6))),(.D (.f [97,110,32,97,115,107,105,110,103,32,104,97,115,32,54,32,107,101,121,115,32,97,116,32,109,111,115,116]))])),.aW (.bq (jI [(.aT .fi (.dK .b6 [(.d2 (.v 0) "works")]) (.fu "MOST_WORKS" (.d 4))),(.D (.f [97,110,32,97,115,107,105,110,103,32,104,97,115,32,52,32,119,111,114,107,115,32,97,116,32,109,111,115,116]))])),.aW (.bq (jI [(.aT .fi (.dK .b6 [(.d2 (.v 0) "sums")]) (.fu "MOST_SUMS" (.d 4))),(.D (.f [97,110,32,97,115,107,105,110,103,32,104,97,115,32,52,32,115,117,109,115,32,97,116,32,109,111,115,116]))]))]
def G9:b0:=cy aP 1 0 Pd
def acb:cE:=[.cJ (.bq (.and (.aT .q4 (.d2 (.v 0) "middle") (.D .a9)) (.aT .oM (.O (.d2 (.v 0) "middle") 0) (.hx "MATING_WORDS" [[109,97,116,101,115],[119,105,116,104,111,117,116]]))))]
def Pe:b0:=cy aP 1 0 acb
noncomputable abbrev BH:=H.b7 Pe "mates_by"
def acd:cE:=[.dE (.aT .is (.d2 (.v 0) "middle") (.D .a9)) [.te] [],.cn 1 (.bq (.dK .b6 [(.d2 (.v 0) "middle")])),.aW (.bq (jI [(.and (.aT .hx (.v 1) (.z 0)) (.or (BH [(.v 0)]) (.aT .fK (.O (.d2 (.v 0) "middle") 0) (.D (.f [102,105,114,115,116]))))),(.D (.f [97,32,109,105,100,100,108,101,32,104,97,115,32,111,110,101,32,111,102,32,116,104,114,101,101,32,119,111,114,100,115]))])),.aW (.bq (jI [(.aT .fK (.v 1) (.mA (BH [(.v 0)]) (.z 4) (.z 2))),(.D (.f [97,32,109,105,100,100,108,101,32,104,97,115,32,119,104,97,116,32,105,116,115,32,119,111,114,100,32,119,97,110,116,115]))]))]
def G_:b0:=cy aP 1 1 acd
def ace:cE:=[.cJ (.bq (.mA (BH [(.v 0)]) (.aG [(.d2 (.v 0) "deck"),(.O (.d2 (.v 0) "middle") 1)]) (.aG [(.d2 (.v 0) "deck")])))]
def BI:b0:=cy aP 1 0 ace
def Pf:cE:=[.cJ (.bq (.and (.mz .fi .fi (.z 1) (.dK .b6 [(.v 0)]) (.fu "LONGEST_NAME" (.d 8))) (.dK .all [(.eH ["letter"] [] .dy [(.v 0)] ⟨ax,[0]⟩ k (.aT .oM (.v 0) (.fu "SMALL_LETTERS" (.f xR))))])))]
def Ha:b0:=cy aP 1 0 Pf
def Pg:cE:=[.cn 1 (.bq (.b7 BI "names_of" [(.v 0)])),.gc .dy [(.v 1)] ⟨ax,[2]⟩ [.aW (.bq (jI [(.b7 Ha "is_name" [(.v 2)]),(.D (.f [97,32,110,97,109,101,32,104,97,115,32,111,110,101,32,116,111,32,101,105,103,104,116,32,115,109,97,108,108,32,108,101,116,116,101,114,115]))]))],.aW (.bq (jI [(.or (.aT .ne (.O (.v 1) 0) (.aT .fj (.v 1) (.cB (.z 1)))) (.aT .fK (.dK .b6 [(.v 1)]) (.z 1))),(.D (.f [116,104,101,32,116,119,111,32,110,97,109,101,115,32,97,114,101,32,117,110,108,105,107,101]))]))]
def BJ:b0:=cy aP 1 2 Pg
def acf:cE:=[.dE (.aT .is (.d2 (.v 0) "middle") (.D .a9)) [.cJ (.bq (.aG []))] [],.cJ (.bq (.mA (BH [(.v 0)]) (.dK .dV [(.sl (.d2 (.v 0) "middle") (E (.z 2)) k)]) (.aG [(.O (.d2 (.v 0) "middle") 1)])))]
def Hb:b0:=cy aP 1 0 acf
noncomputable abbrev Hc:=H.b7 Hb "middle_fields"
def Ph:cE:=[.cn 1 (.bq (.aT .cO (.aT .cO (.aT .cO (.eH ["pick"] [] .dy [(.d2 (.v 0) "picks")] ⟨ax,[0]⟩ k (.O (.v 0) 0)) (Hc [(.v 0)])) (.d2 (.v 0) "order")) (.d2 (.v 0) "sums"))),.gc .dy [(.d2 (.v 0) "works")] ⟨ax,[2]⟩ [.aW (.fw .o1 (.v 1) [(.X (.aG [(.O (.v 2) 0),(.O (.v 2) 1),(.O (.v 2) 3)]))])],.cJ (.kr 1)]
def Hd:b0:=cy aP 1 2 Ph
def acg:cE:=[.cJ (.bq (.aT .cO (.aT .lb (.O (.v 0) 1) (.O (.v 0) 0)) (.z 1)))]
def He:b0:=cy aP 1 0 acg
noncomputable abbrev Hf:=H.b7 He "width_of"
def Pj:cE:=[.cJ (.bq (.dK .all [(.eH ["sign"] [] .dy [(.v 0)] ⟨ax,[0]⟩ k (.aT .oM (.v 0) (.fu "SIGNS" (.f Br))))]))]
def BK:b0:=cy aP 1 0 Pj
def Pk:cE:=[.cn 1 (.bq .nT),.gc .dy [(.v 0)] ⟨ax,[2]⟩ [.dE (.aT .fK (.O (.v 2) 0) (.D (.f [112,105,99,107]))) [.tf (.aT .ne (.rf (.v 1) (.O (.v 2) 1) (.O (.v 2) 2)) (.bq (.O (.v 2) 2))) [.cJ (.bq (.D .a9))] []] []],.cJ (.kr 1)]
def BL:b0:=cy aP 1 2 Pk
def Pl:cE:=[.cJ (.bq (.oP (.O (.v 0) 0) (.aT .cO (.O (.v 0) 1) (.z 1))))]
def Hg:b0:=cy aP 1 0 Pl
def Pm:cE:=[.cn 1 (.bq (.aG [])),.gc .dy [(.d2 (.v 0) "picks")] ⟨ax,[2]⟩ [.aW (.fw .o1 (.v 1) [(.X (.eH ["column", "sign"] [] .zip [(.b7 Hg "columns_of" [(.O (.v 2) 0)]),(.O (.v 2) 1)] ⟨ae,[0,1]⟩ k (.a_ [(.D (.f [112,105,99,107])),(.v 0),(.v 1)])))])],.cJ (.kr 1)]
def Hh:b0:=cy aP 1 2 Pm
def Pn:cE:=[.gc .dy [(.d2 (.v 0) "picks")] ⟨ax,[1]⟩ [.aW (.bq (jI [(.aT .fK (.dK .b6 [(.O (.v 1) 1)]) (Hf [(.O (.v 1) 0)])),(.D (.f [97,32,112,105,99,107,39,115,32,116,101,120,116,32,105,115,32,97,115,32,119,105,100,101,32,97,115,32,105,116,115,32,102,105,101,108,100]))])),.aW (.bq (jI [(.b7 BK "are_signs" [(.O (.v 1) 1)]),(.D (.f [97,32,112,105,99,107,39,115,32,116,101,120,116,32,105,115,32,111,102,32,115,105,103,110,115]))]))],.aW (.bq (jI [(.aT .q4 (.b7 BL "picked_signs" [(.b7 Hh "pick_passes" [(.v 0)])]) (.D .a9)),(.D (.f [116,119,111,32,112,105,99,107,115,32,119,97,110,116,32,117,110,108,105,107,101,32,115,105,103,110,115,32,111,102,32,111,110,101,32,99,111,108,117,109,110]))]))]
def Hi:b0:=cy aP 1 1 Pn
def BM:cE:=[.cn 1 (.bq (Hc [(.v 0)])),.tg (.v 1) [.aW (.bq (jI [(.aT .fK (Hf [(.O (.v 1) 0)]) (Hf [(.aT .fj (.v 1) (.cB (.z 1)))])),(.D (.f [116,104,101,32,109,105,100,100,108,101,39,115,32,102,105,101,108,100,115,32,97,114,101,32,111,102,32,111,110,101,32,119,105,100,116,104]))]))] []]
def Hj:b0:=cy aP 1 1 BM
def Po:cE:=[.o2 [.cn 1 (.bq (.b7 x9 "make_board" [(.v 0)]))] [],.cJ (.bq (.aT .fK (.v 1) (.v 0)))]
def Hk:b0:=cy aP 1 1 Po
def Pp:cE:=[.aW (.bq (jI [(.and (xV [(.d2 (.v 0) "breaks")]) (.mz .fi .fi (.z 0) (.d2 (.v 0) "breaks") (.fu "MOST_BREAKS" (.d 3)))),(.D (.f [116,104,101,114,101,32,97,114,101,32,48,32,116,111,32,51,32,98,114,101,97,107,115]))])),.aW (.bq (jI [(.aT .fi (.d2 (.v 0) "breaks") (.dK .b6 [(.d2 (.v 0) "order")])),(.D (.f [116,104,101,114,101,32,97,114,101,32,110,111,32,109,111,114,101,32,98,114,101,97,107,115,32,116,104,97,110,32,107,101,121,115]))])),.aW (.bq (jI [(.and (xV [(.d2 (.v 0) "figures")]) (.mz .fi .fi (.z 1) (.d2 (.v 0) "figures") (.fu "MOST_FIGURES" (.d 12)))),(.D (.f [119,104,101,101,108,115,32,104,97,118,101,32,49,32,116,111,32,49,50,32,102,105,103,117,114,101,115]))])),.aW (.bq (jI [(.b7 Hk "is_board" [(.d2 (.v 0) "board")]),(.D (.f [116,104,101,32,98,111,97,114,100,32,105,115,32,110,111,110,101,44,32,111,114,32,110,111,116,32,115,111,114,116,101,100]))]))]
def Hl:b0:=cy aP 1 0 Pp
def Pq:cE:=[.cn 2 (.bq (.aT .cO (.aT .cO (.eH ["pick"] [] .dy [(.d2 (.v 0) "picks")] ⟨ax,[0]⟩ k (.O (.v 0) 0)) (.sl (Hc [(.v 0)]) k (E (.z 1)))) (.d2 (.v 0) "order"))),.gc .q6 [(.d2 (.v 0) "works")] ⟨ae,[3,4]⟩ [.dE (.aT .ne (.v 3) (.v 1)) [.aW (.fw .dY (.v 2) [(.X (.O (.v 4) 0))])] [],.dE (.aT .fi (.v 3) (.v 1)) [.aW (.fw .o1 (.v 2) [(.X (.aG [(.O (.v 4) 1),(.O (.v 4) 3)]))])] []],.cJ (.kr 2)]
def Hm:b0:=cy aP 2 3 Pq
def Pr:cE:=[.cJ (.bq (.or (.aT .h6 (.O (.v 0) 1) (.O (.v 1) 0)) (.aT .h6 (.O (.v 1) 1) (.O (.v 0) 0))))]
def Hn:b0:=cy aP 2 0 Pr
def Pt:cE:=[.gc .q6 [(.d2 (.v 0) "works")] ⟨ae,[1,2]⟩ [.aW (.bq (jI [(.aT .oM (.O (.v 2) 2) (.hx "WORK_WORDS" [[112,108,117,115],[108,101,115,115],[116,105,109,101,115]])),(.D (.f [97,32,119,111,114,107,32,104,97,115,32,111,110,101,32,111,102,32,116,104,114,101,101,32,119,111,114,100,115]))])),.gc .dy [(.b7 Hm "fields_kept" [(.v 0),(.v 1)])] ⟨ax,[3]⟩ [.aW (.bq (jI [(.b7 Hn "are_apart" [(.O (.v 2) 0),(.v 3)]),(.D (.f [97,32,119,111,114,107,32,112,117,110,99,104,101,115,32,105,110,116,111,32,97,32,102,105,101,108,100,32,116,104,97,116,32,105,116,32,109,117,115,116,32,98,101,32,97,112,97,114,116,32,102,114,111,109]))]))]]]
def Ho:b0:=cy aP 1 3 Pt
def Pu:cE:=[.aW (.bq (.b7 G9 "check_lengths" [(.v 0)])),.aW (.bq (.b7 G_ "check_middle_word" [(.v 0)])),.aW (.bq (.b7 BJ "check_names" [(.v 0)])),.gc .dy [(.b7 Hd "fields_due" [(.v 0)])] ⟨ax,[1]⟩ [.aW (.bq (jI [(.b7 Bz "is_field" [(.O (.v 1) 0),(.O (.v 1) 1)]),(.D (.f [97,32,102,105,101,108,100,32,103,111,101,115,32,102,114,111,109,32,97,32,102,105,114,115,116,32,116,111,32,97,32,108,97,115,116,32,99,111,108,117,109,110,44,32,102,114,111,109,32,49,32,116,111,32,51,54]))]))],.aW (.bq (.b7 Hi "check_picks" [(.v 0)])),.aW (.bq (.b7 Hj "check_middle_widths" [(.v 0)])),.aW (.bq (.b7 Hl "check_counting" [(.v 0)])),.aW (.bq (.b7 Ho "check_works" [(.v 0)]))]
def Hp:b0:=cy aP 1 1 Pu
def ya:cE:=[.kv (.v 0) "deck" (.v 1),.kv (.v 0) "picks" (.dK .dV [(.v 2)]),.kv (.v 0) "middle" (.v 3),.kv (.v 0) "order" (.dK .dV [(.v 4)]),.kv (.v 0) "works" (G7 [(.v 5)]),.kv (.v 0) "breaks" (.v 6),.kv (.v 0) "sums" (G7 [(.v 7)]),.kv (.v 0) "figures" (.v 8),.kv (.v 0) "board" (G7 [(.v 9)]),.aW (.bq (.b7 Hp "check_asking" [(.v 0)]))]
def BN:b0:=cy aP 10 0 ya
def BO:cE:=[.cn 1 (.aT .fj (.eo [("Clauses",kS)] (.v 0) "take_words" [(.X (.D (.f [116,97,107,101]))),(.X (.z 2))]) (.bq (.z 1))),.cn 2 (.b7 BA "read_picks" [(.s (.v 0))]),.cn 3 (.b7 BB "read_middle" [(.s (.v 0))]),.cn 4 (.ku (.b7 xY "read_listed" [(.D (.f [111,114,100,101,114]))]) (.eo [("Clauses",p8)] (.v 0) "take" [(.X (.D (.f [111,114,100,101,114])))])),.cn 5 (.b7 BC "read_works" [(.s (.v 0))]),.cn 6 (.ku (.b7 BD "read_number" []) (.aT .fj (.eo [("Clauses",kS)] (.v 0) "take_words" [(.X (.D (.f [98,114,101,97,107]))),(.X (.z 2))]) (.bq (.z 1)))),.cn 7 (.ku (.eF .q5 [(.D (.f [32,105,110,32]))]) (.eo [("Clauses",p8)] (.v 0) "take" [(.X (.D (.f [115,117,109])))])),.cn 8 (.bq (.b7 xY "read_listed" [(.O (.v 7) 0),(.D (.f [115,117,109]))])),.cn 9 (.bq (.b7 BD "read_number" [(.O (.v 7) 2)])),.cn 10 (.ku (.b7 G4 "read_print" []) (.eo [("Clauses",p8)] (.v 0) "take" [(.X (.D (.f [112,114,105,110,116])))])),.aW (.bq (.eo [("Clauses",x_)] (.v 0) "check_end" [])),.cJ (.bq (.i9 BN "Asking" [(.v 1),(.v 2),(.v 3),(.v 4),(.v 5),(.v 6),(.v 8),(.v 9),(.v 10)]))]
def BP:b0:=cy aP 1 10 BO
noncomputable def BQ:cE:=[.kv (.v 0) "waiting" (.eF .split (.v 1) [(.D (.f [59,32]))])]
def yb:b0:=cy aP 2 0 BQ
def Pw:cE:=[.o2 [.cJ (.b7 BP "asking_of" [(.X (.i9 yb "Clauses" [(.v 0)]))])] []]
def Hq:b0:=cy aP 1 1 Pw
noncomputable abbrev Hr:=H.b7 Hq "read_asking"
noncomputable def ach:cE:=[.cJ (.bq (.and (.ko (.v 0) "int") (.not (.ko (.v 0) "bool"))))]
def Hs:b0:=cy aP 1 0 ach
noncomputable abbrev BR:=H.b7 Hs "_law_whole"
def Px:cE:=[.cn 2 (.bq (.aG [(.d2 (.v 0) "deck"),(.d2 (.v 0) "picks"),(.d2 (.v 0) "middle"),(.d2 (.v 0) "order"),(.d2 (.v 0) "works"),(.d2 (.v 0) "breaks")])),.cn 2 (.bq (.aT .cO (.v 2) (.aG [(.d2 (.v 0) "sums"),(.d2 (.v 0) "figures"),(.d2 (.v 0) "board")]))),.gc .dy [(.aG [(.z 1),(.z 3),(.z 4),(.z 6),(.z 8)])] ⟨ax,[3]⟩ [.dE (.not (.ko (.aT .fj (.v 2) (.v 3)) "list")) [.cJ (.bq (.D (.aM ax)))] [],.gc .dy [(.aT .fj (.v 2) (.v 3))] ⟨ax,[4]⟩ [.dE (.not (.ko (.v 4) "tuple")) [.cJ (.bq (.D (.aM ax)))] []]],.dE (.or (.not (.ko (.O (.v 2) 0) "str")) (.or (.not (BR [(.O (.v 2) 5)])) (.not (BR [(.O (.v 2) 7)])))) [.cJ (.bq (.D (.aM ax)))] [],.gc .dy [(.aT .cO (.aT .cO (.O (.v 2) 3) (.O (.v 2) 6)) (.O (.v 2) 8))] ⟨ax,[5]⟩ [.dE (.or (.not (BR [(.O (.v 5) 0)])) (.not (BR [(.O (.v 5) 1)]))) [.cJ (.bq (.D (.aM ax)))] []],.cJ (.bq (.aT .fK (.v 2) (.v 1)))]
def Ht:b0:=cy aP 2 4 Px
noncomputable abbrev BS:=H.b7 Ht "_law_are"
def Hu:cE:=[.cn 1 (.bq (.b7 Bu "_law_parts" [(.v 0)])),.cn 2 (.bq (.eF .jd (.D (.f [59,32])) [(.b7 GW "_law_clauses" [(.v 1),(.b7 Bx "_law_loose" [(.O (.v 1) 8),(xS [(.v 0),(.z 3)])])])])),.cn 3 (.bq (Hr [(.v 2)])),.dE (.not (BS [(.v 3),(.v 1)])) [.cJ (.bq (.D (.aM ax)))] [],.cn 4 (.bq (Hr [(.aT .cO (.aT .cO (.D (.f [116,97,107,101,32])) (.O (.v 1) 0)) (.D (.f GL)))])),.dE (.not (BS [(.v 4),(.aG [(.O (.v 1) 0),(.aG []),(.D .a9),(.aG []),(.aG []),(.z 0),(.aG []),(.z 1),(.aG [])])])) [.cJ (.bq (.D (.aM ax)))] [],.cJ (.bq (.and (BS [(Hr [(.v 2)]),(.v 1)]) (BS [(.v 3),(.v 1)])))]
def Py:b0:=cy aP 1 4 Hu
local macro_rules|`(tactic|exists $ts,*)=>do
 let f (t:String)(g:Lean.Ident->Lean.MacroM (Lean.TSyntax `Lean.Parser.Tactic.simpLemma)):=(t.splitOn " ").toArray.mapM fun s=>g (Lean.mkIdent s.toName)
 let a<-f "aO.bb aO.gm vc lq agL OJ agM agJ agK Bk Bi agH agI lZ.fW lZ.w agQ agT l5 abJ afG afH jZ afI tp abK abL abM afJ afK afL afM afN age agf agg p6 abT abU OE Gr abV agh Gs Gu Bool.and_true Mo.nI afO afP afQ abN afR afS afT afU afV nk hR vl xM pW List.foldl_cons List.foldl_nil agE agF agG H.eg H.oR H.AL i2 xN abW agi agj agk agl agm abX abY agn ago agp agq agr ags agt agu agv agw agx agy agz agA agB agC abZ agD abS af_ aga agb agc agd OB afW afX OC abO afY OD afZ xK af0 af1 af2 af3 af4 af5 af6 af7 af8 af9 Be abR hv.w oN.w hb.w AP eh List.map_cons List.map_nil List.length_cons List.length_nil List.set_cons_zero List.set_cons_succ List.replicate_succ List.replicate_zero List.cons_append List.nil_append abG Ox afv afw GA Bn agN n0 i1 agO agP GC ON vn agR agS OS agU agV OP ih n2 afx afy afz afA afB afC afD afE Oz afF Bool.not_true Bool.not_false if_true if_false Bool.false_eq_true Bool.true_eq_false Option.map_some Option.map_none Nat.reduceAdd Nat.reduceLT Nat.reduceLeDiff Int.reduceLT Int.reduceLE Int.reduceNeg Int.reduceAdd Int.reduceSub Nat.lt_add_one Nat.zero_lt_succ Nat.zero_add mw km List.getElem?_cons_succ List.getElem?_cons_zero Option.join_some i0 true_and Int.toNat_natCast abF" fun i=>`(Lean.Parser.Tactic.simpLemma|$i:term)
 let b<-f "l5 abJ afG afH jZ afI tp" fun i=>`(Lean.Parser.Tactic.simpLemma|↓$i:term)
 `(tactic|first |simp only[$[$a:simpLemma],*,$[$b:simpLemma],*,$[$ts:term],*]|skip)
set_option hygiene false in
local macro_rules | `(tactic|fail "q") => `(tactic|first |exact⟨_, _, rfl, .inl rfl⟩|exact⟨_, _, rfl, .inr ⟨rfl, rfl⟩⟩|exact⟨_, _, rfl, .inr ⟨rfl, trivial⟩⟩)
noncomputable abbrev cq:=Int×Int
abbrev er:=List cq
def ao (w:cq):ai:=.au .a_ [.d w.1,.d w.2]
instance:kR ao:=⟨λ_=>rfl⟩
abbrev gL:=cq×bo
def cU (N:gL):ai:=.au .a_ [ao N.1,.f N.2]
instance:kR cU:=⟨λ_=>rfl⟩
abbrev hS:=cq×cq×bo×cq
abbrev n4:=List hS
def cm (r:hS):ai:=.au .a_ [ao r.1,ao r.2.1,.f r.2.2.1,ao r.2.2.2]
instance:kR cm:=⟨λ_=>rfl⟩
theorem jh (w:cq):dt (ao w) (.d 0)=.i (.d w.1):=rfl
theorem iR (w:cq):dt (ao w) (.d 1)=.i (.d w.2):=rfl
theorem Pz (w:gL):dt (cU w) (.d 0)=.i (ao w.1):=rfl
theorem PA (w:gL):dt (cU w) (.d 1)=.i (.f w.2):=rfl
theorem yc (w:hS):dt (cm w) (.d 0)=.i (ao w.1):=rfl
theorem BU (w:hS):dt (cm w) (.d 1)=.i (ao w.2.1):=rfl
theorem aci (w:hS):dt (cm w) (.d 2)=.i (.f w.2.2.1):=rfl
theorem BV (w:hS):dt (cm w) (.d 3)=.i (ao w.2.2.2):=rfl
theorem fa (w:cq):(ao w).bO=ao w:=rfl
theorem PB (w:gL):(cU w).bO=cU w:=rfl
theorem tw (w:hS):(cm w).bO=cm w:=rfl
theorem hT (w:cq):(ao w).ed=ae:=Bn w
noncomputable def kT:bo:=[102,105,114,115,116]
noncomputable def n5:bo:=[109,97,116,101,115]
noncomputable def n6:bo:=[119,105,116,104,111,117,116]
inductive ji where
 |aQ |hU (w:cq)|gB (r z:fB) (w g:cq)
def dX:ji->ai
 |.aQ=>.a9|.hU w=>.au .a_ [.f kT,ao w]|.gB r z w g=>.au .a_ [.f r,.f z,ao w,ao g]
structure eI where
 dF:bo
 c4:List gL
 cP:ji
 cg:er
 dw:n4
 c6:Int
 cD:er
 es:Int
 ff:er
def BW (p:eI):List ai:=[.f p.dF,ak cU p.c4,dX p.cP,ak ao p.cg,ak cm p.dw,.d p.c6,ak ao p.cD,.d p.es,ak ao p.ff]
def dN (p:eI):ai:=.au (.dI "Asking" ["deck", "picks", "middle", "order", "works", "breaks", "sums", "figures", "board"]) (BW p)
section
variable (p:eI)
theorem acj:jC aP.c9 "deck" (dN p)=.i (.f p.dF):=rfl
theorem vt:jC aP.c9 "picks" (dN p)=.i (.aK (ak cU p.c4)):=rfl
theorem ack:jC aP.c9 "middle" (dN p)=.i (dX p.cP):=by cases Y:p.cP<;>· show iQ _=_;rw[Y];rfl
theorem yd:jC aP.c9 "order" (dN p)=.i (.aK (ak ao p.cg)):=rfl
theorem ye:jC aP.c9 "works" (dN p)=.i (.aK (ak cm p.dw)):=rfl
theorem PC:jC aP.c9 "breaks" (dN p)=.i (.d p.c6):=rfl
theorem Hv:jC aP.c9 "sums" (dN p)=.i (.aK (ak ao p.cD)):=rfl
theorem PD:jC aP.c9 "figures" (dN p)=.i (.d p.es):=rfl
theorem PE:jC aP.c9 "board" (dN p)=.i (.aK (ak ao p.ff)):=rfl
theorem Hw:(dN p).bO=.aK (dN p):=rfl
theorem hV:(ai.aK (dN p)).bO=.aK (dN p):=rfl
end
def fL (w:cq):Prop:=1<=w.1/\w.1<=w.2/\w.2<=36
def iS:bo:=Br
def jJ:bo:=xR
def mH (z:fB):Prop:=1<=z.length/\z.length<=8/\∀Q∈z,Q∈jJ
def rv (cV:mQ)(N:gL):Prop:=fL N.1/\N.2=(gp N.1.1 (N.1.2+1-N.1.1).toNat).map cV
def o8 (y:fB):ji->Prop
 |.aQ=>True|.hU w=>fL w|.gB r z w g=>(r=n5\/r=n6)/\mH z/\z≠y/\fL w/\fL g/\w.2-w.1=g.2-g.1
def l6:GK:=[[112,108,117,115],[108,101,115,115],[116,105,109,101,115]]
def Hx (r:hS):Prop:=fL r.1/\fL r.2.1/\fL r.2.2.2/\r.2.2.1∈l6
def tx (S b:cq):Bool:=decide (S.2<b.1)||decide (b.2<S.1)
def iT:ji->er
 |.aQ=>[]|.hU w=>[w]|.gB _ _ w g=>[w,g]
def nM (D:Int)(V:Int×hS):List cq:=(if V.1=D then[]else[V.2.1])++(if V.1<=D then[V.2.2.1,V.2.2.2.2]else[])
def lH (p:eI)(D:Int):List cq:=p.c4.map (·.1)++(iT p.cP).take 1++p.cg++(lQ p.dw).flatMap (nM D)
structure hW (p:eI):Prop where
 cI:mH p.dF
 iW:p.c4.length<=8
 c4:∃cV:Int->Nat,(∀Q,cV Q∈iS)/\∀N∈p.c4,rv cV N
 cP:o8 p.dF p.cP
 ky:p.cg.length<=6
 cg:∀w∈p.cg,fL w
 l7:p.dw.length<=4
 dw:∀r∈p.dw,Hx r
 c6:0<=p.c6/\p.c6<=3/\p.c6<=p.cg.length
 sl:p.cD.length<=4
 cD:∀w∈p.cD,fL w
 es:1<=p.es/\p.es<=12
 aM:p.ff.length<=36
 ff:(∀r∈p.ff,1<=r.1/\r.1<=40/\1<=r.2/\r.2<=36)/\p.ff.Pairwise λS b=>S.2<b.2
 ml:∀V∈lQ p.dw,∀w∈lH p V.1,tx V.2.1 w=ae
theorem acm (S b:cq):Hn.cj [ao S,ao b]=.i (.aM (tx S b)):=by
 refine eB rfl rfl λaA a=>?_
 unfold Pr
 exists jh,iR
 fail "q"
theorem Hy (w:cq):He.cj [ao w]=.i (.d (w.2-w.1+1)):=rfl
theorem n7 (r:fB):G8.cj [.aM ae,.f r]=.i .a9:=rfl
theorem acn (O:Int):G0.cj [.d O]=.i (.aM ae):=rfl
theorem PF {w:cq}(Y:fL w):Bz.cj [.d w.1,.d w.2]=.i (.aM ae):=by
 obtain⟨ab,af,br⟩:=Y;refine eB rfl rfl λaA a=>?_
 unfold O2
 exists AK,pT,decide_eq_true ab,decide_eq_true af,decide_eq_true br
 fail "q"
theorem aco {w:cq}(Y:fL w):Hg.cj [ao w]=.i (ak .d (gp w.1 (w.2+1-w.1).toNat)):=by
 obtain⟨ab,af,br⟩:=Y;refine eB rfl rfl λaA a=>?_
 unfold Pl;have e:AE (.d w.1) (.d (w.2+1))=.i (ak .d (gp w.1 (w.2+1-w.1).toNat)):=by
  show Mo.dW _ _=_
  rw[Mo.lN (by lia),tq];rfl
 exists jh,iR,e
 fail "q"
theorem acp {p:eI}(Y:o8 p.dF p.cP):BI.cj [.aK (dN p)]=.i (ak .f (match p.cP with |.gB _ z _ _=>[p.dF,z]|_=>[p.dF])):=by
 obtain⟨S,b,h,G⟩:=p;cases h with
 |gB r z w g=>rcases Y.1 with rfl |rfl<;>rfl |_=>rfl
theorem Hz {p:eI}(Y:o8 p.dF p.cP):Hb.cj [.aK (dN p)]=.i (ak ao (iT p.cP)):=by
 obtain⟨S,b,h,G⟩:=p;cases h with
 |gB r z w g=>rcases Y.1 with rfl |rfl<;>rfl |_=>rfl
theorem acq {p:eI}(Y:o8 p.dF p.cP):G_.cj [.aK (dN p)]=.i .a9:=by
 obtain⟨S,b,h,G⟩:=p;cases h with
 |gB r z w g=>rcases Y.1 with rfl |rfl<;>rfl |_=>rfl
theorem acr {p:eI}(Y:hW p):G9.cj [.aK (dN p)]=.i .a9:=by
 have ab:=Y.iW;have af:=Y.ky;have br:=Y.l7;have a:=Y.sl;refine eB rfl rfl λaA b=>?_
 unfold Pd
 exists hV,vt,yd,ye,Hv,decide_eq_true (show(p.c4.length:Int)<=8 by lia),decide_eq_true (show(p.cg.length:Int)<=6 by lia),decide_eq_true (show(p.dw.length:Int)<=4 by lia),decide_eq_true (show(p.cD.length:Int)<=4 by lia),n7
 fail "q"
theorem acs {Q:Nat}(Y:Q∈jJ):m7 ax (.f [Q]) (.f jJ)=.i (.aM ae):=by
 show iQ (ai.aM (decide _))=_
 rw[decide_eq_true Y]
theorem acu {Q:Nat}(Y:Q∈iS):m7 ax (.f [Q]) (.f iS)=.i (.aM ae):=by
 show iQ (ai.aM (decide _))=_
 rw[decide_eq_true Y]
theorem PG:∀(s:qx),sW (s.map .aM)=E s
 |[]=>rfl|b::s=>by rw[eR,sW,PG s];rfl
theorem acv (s:qx):u3 [ak .aM s]=.i (.aM (s.all id)):=by
 show(match sW _ with |some a=>iQ _ |none=>.aQ)=_
 rw[PG]
theorem PH {ay:Type}{N:ay->Bool}(s:List ay)(Y:∀X∈s,N X=ae):u3 [ak .aM (s.map N)]=.i (.aM ae):=by
 rw[acv,Iz,mM.mpr];assumption
theorem yf {s:bo}(Y:s.length<=100000):mx [.f s]=.i (.d s.length):=by
 show Mo.eS _ _=_
 rw[Mo.nI Y]
theorem acw {z:bo}(Y:mH z):Ha.cj [.f z]=.i (.aM ae):=by
 obtain⟨ab,af,br⟩:=Y;refine eB rfl rfl λaA b=>?_
 unfold Pf
 exists pT,yf (show z.length<=100000 by lia),decide_eq_true (show(1:Int)<=z.length by lia),decide_eq_true (show(z.length:Int)<=8 by lia)
 rw[jH   z rfl (rfl) (i2 _ _) (λQ a=>by exact acs (br Q a)) (by lia)]
 exists PH z  (λ_ _=>rfl)
 fail "q"
theorem acx {z:bo}(a:z.length<=100000)(Y:∀Q∈z,Q∈iS):BK.cj [.f z]=.i (.aM ae):=by
 refine eB rfl rfl λaA b=>?_
 unfold Pj
 exists b
 rw[jH   z rfl (rfl) (i2 _ _) (λQ c=>by exact acu (Y Q c)) a]
 exists PH z  (λ_ _=>rfl)
 fail "q"
theorem acy {p:eI}(Y:hW p):BJ.cj [.aK (dN p)]=.i .a9:=by
 have i:∀(c:GK) (Q:Bool),BI.cj [.aK (dN p)]=.i (ak .f c)->(∀z∈c,mH z)->f3 ae (.f (c.headD [])) (.f (c.getLastD []))=.i (.aM Q)->dt (ak .f c) (.d 0)=.i (.f (c.headD []))->dt (ak .f c) (.d (-1))=.i (.f (c.getLastD []))->(Q ||decide ((c.length:Int)=1))=ae->BJ.cj [.aK (dN p)]=.i .a9:=λc Q e l m n ab o=>by
  refine eB rfl rfl λaA f=>?_
  unfold Pg
  exists f,hV,e
  refine vm (S:=[_,_]) (b:=[]) rfl (f _) (λz d=>?_) (λC=>?_)
  ·exists f,acw (l z d),n7
   exact⟨_,_,rfl,rfl,rfl⟩
  ·exists f,n,ab,m,o,n7
   fail "q"
 have e:=acp Y.cP;have h:=Y.cP
 revert e h
 cases p.cP with
 |aQ=>exact λe _=>i _ ax e (λz d=>by rw[fv.mp d];exact Y.cI) (by rw[n2];simp) rfl rfl rfl|hU=>exact λe _=>i _ ax e (λz d=>by rw[fv.mp d];exact Y.cI) (by rw[n2];simp) rfl rfl rfl|gB r z w g=>
  intro e h;refine i _ ae e (λX j=>?_) ?_ rfl rfl rfl
  ·rcases df.mp j with rfl |j
   ·exact Y.cI
   ·rw[fv.mp j];exact h.2.1
  ·rw[n2]
   show iQ (ai.aM (if ae=ae then !decide (p.dF=z)else _))=_
   rw[if_pos rfl,decide_eq_false (λI=>h.2.2.1 I.symm)];rfl
theorem PI {ay cQ:Type}{z:Nat}{w:ay->List cQ}:∀(s:List ay),(∀X,(w X).length<=z)->(s.flatMap w).length<=z*s.length
 |[],_=>by simp
 |X::s,Y=>by rw[ql,dq,ee];have:=PI s Y;grind
theorem acz {p:eI}(Y:hW p):Hd.cj [.aK (dN p)]=.i (ak ao (p.c4.map (·.1)++iT p.cP++p.cg++p.cD++p.dw.flatMap λr=>[r.1,r.2.1,r.2.2.2])):=by
 have ab:=Y.iW;have af:=Y.ky;have br:=Y.l7;have j:=Y.sl;have m:(iT p.cP).length<=2:=by unfold iT;split<;>simp
 refine eB rfl rfl λaA c=>?_
 unfold Ph
 exists c,hV
 rw[jH (w:=λN:gL=>N.1) (C:=ao) p.c4 rfl (by exists hV,vt;rfl) (i2 _ _) (λQ q=>rfl) (by lia)]
 exists c,hV,Hz Y.cP,yd,Hv,ye,n1 (g:=ao) (S:=p.c4.map (·.1)) (b:=iT p.cP) (by rw[ct];lia),n1 (g:=ao) (S:=p.c4.map (·.1)++iT p.cP) (b:=p.cg) (by rw[dq,ct];lia),n1 (g:=ao) (S:=p.c4.map (·.1)++iT p.cP++p.cg) (b:=p.cD) (by rw[dq,dq,ct];lia)
 generalize h:p.c4.map (·.1)++iT p.cP++p.cg++p.cD=A
 have s:A.length<=20:=by rw[<- h];simp;lia
 refine o5 (s:=p.dw) (d:=λr=>[cm r]) (λy e=>∃C,e=[E (.aK (dN p)),E (ak ao (A++y.flatMap λr=>[r.1,r.2.1,r.2.2.2])),C]) ⟨_,by rw[yD,lC]⟩ (λy X G e i d=>?_) (λe d=>?_)
 ·obtain⟨C,rfl⟩:=d
  refine⟨_,by exists c;rfl,?_⟩
  have e:tb [ak ao (A++y.flatMap λr=>[r.1,r.2.1,r.2.2.2]),.au .aG [ao X.1,ao X.2.1,ao X.2.2.2]]=.i .a9 [_,_]:=Bp (b:=[X.1,X.2.1,X.2.2.2]) (by
   have:=PI (z:=3) (w:=λr:hS=>[r.1,r.2.1,r.2.2.2]) y (λ_=>by simp)
   rw[i]at br;rw[dq]at br ⊢;simp only[ee,vJ];lia)
  exists c,tw,yc,BU,BV,hT,e
  exact⟨_,_,rfl,.inl ⟨.inl rfl,E (cm X),by rw[qj];simp⟩⟩
 ·obtain⟨C,rfl⟩:=d
  exists c
  fail "q"
theorem acA {p:eI}(Y:hW p){cV:mQ}(b:∀Q,cV Q∈iS){N:gL}(c:rv cV N):BK.cj [.f N.2]=.i (.aM ae)/\mx [.f N.2]=.i (.d (N.1.2-N.1.1+1)):=by
 obtain⟨⟨d,f,g⟩,e⟩:=c;have h:N.2.length=(N.1.2+1-N.1.1).toNat:=by rw[e,ct,oF]
 refine⟨acx (by lia) (λQ a=>?_),?_⟩
 ·rw[e]at a
  obtain⟨X,_,rfl⟩:=e3.mp a;exact b X
 rw[yf (by lia)];lia
def bZ (w:cq):List Int:=gp w.1 (w.2+1-w.1).toNat
def jb (cV:mQ)(Q:Int):ai:=.au .a_ [.f [112,105,99,107],.d Q,.f [cV Q]]
def rx (cV:mQ)(a:ef):ai:=jg .f (a.map λQ=>(Q,[cV Q]))
def ry (h:ef)(Q:Int):List Int:=if Q∈h then h else h++[Q]
def l8 (s:ef):List Int:=s.foldl ry []
section
variable {cV:mQ}
instance:kR (jb cV):=⟨λ_=>rfl⟩
theorem PJ (Q:Int):dt (jb cV Q) (.d 0)=.i (.f [112,105,99,107]):=rfl
theorem PK (Q:Int):dt (jb cV Q) (.d 1)=.i (.d Q):=rfl
theorem PL (Q:Int):dt (jb cV Q) (.d 2)=.i (.f [cV Q]):=rfl
theorem PM (Q:Int):(jb cV Q).bO=jb cV Q:=rfl
theorem PN (a:ef)(Q:Int):hA (a.map λQ=>(Q,[cV Q])) Q=if Q∈a then E [cV Q]else k:=by
 induction a with
 |nil=>rfl|cons D a b=>
  rw[eR,hA];by_cases Y:D=Q
  ·simp_all
  ·rw[if_neg Y,b]
   simp[oh Y]
theorem acB (s:ef)(Q:Int):l8 (s++[Q])=ry (l8 s) Q:=by unfold l8;rw[List.foldl_append];rfl
theorem acC (h:ef)(Q:Int):(ry h Q).length<=h.length+1:=by unfold ry;split<;>simp
theorem PO:∀(s h:ef),(s.foldl ry h).length<=h.length+s.length
 |[],h=>by simp
 |Q::s,h=>by have:=PO s (ry h Q);have:=acC h Q;grind
theorem acD (s:ef):(l8 s).length<=s.length:=by have:=PO s [];rwa[vJ,Nat.zero_add]at this
theorem HA {w:cq}(Y:fL w):(bZ w).length<=36:=by unfold bZ;rw[oF];obtain⟨S,b,Q⟩:=Y;lia
theorem BX {ay cQ:Type}{z:Nat}{w:ay->List cQ}:∀(s:List ay),(∀X∈s,(w X).length<=z)->(s.flatMap w).length<=z*s.length
 |[],_=>by simp
 |X::s,Y=>by rw[ql,dq,ee,Nat.mul_add];have:=BX s λt a=>Y t (fM _ a);have:=Y X ek;lia
theorem PQ (s:ef):q2 [ak .d s,.f (s.map cV)]=.i (s.map λQ=>.au .a_ [.d Q,.f [cV Q]]):=by
 show iQ _=_
 rw[List.zip_map',gr];rfl
theorem acE {p:eI}(m:p.c4.length<=8)(j:∀N∈p.c4,rv cV N):Hh.cj [.aK (dN p)]=.i (ak (jb cV) (p.c4.flatMap λN=>bZ N.1)):=by
 refine eB rfl rfl λaA c=>?_
 unfold Pm
 exists c,hV,vt
 refine o5 (s:=p.c4) (d:=λr=>[cU r]) (λy e=>∃C,e=[E (.aK (dN p)),E (ak (jb cV) (y.flatMap λN=>bZ N.1)),C]) ⟨k,rfl⟩ (λy X G e d h=>?_) (λe h=>?_)
 ·obtain⟨C,rfl⟩:=h
  refine⟨_,by exists c;rfl,?_⟩
  have i:=j X (by rw[d];simp)
  have aN:X.2=(bZ X.1).map cV:=i.2;have q  := BX y λt n=>HA (j t (by rw[d];simp[n])).1
  have s:=HA i.1;rw[d,dq]at m
  exists c,PB
  rw[jH (w:=λQ:Int=>Q) (C:=jb cV)  (bZ X.1) rfl (by exists PB,Pz,PA,fa,aco i.1,aN,PQ;exact PQ _) (xN _ _ _) (λQ u=>rfl) (by lia)]
  exists c,vL,Bp (g:=jb cV) (S:=y.flatMap λN=>bZ N.1) (b:=bZ X.1) (by lia)
  exact⟨_,_,rfl,.inl ⟨.inl rfl,E (cU X),by rw[qj];simp⟩⟩
 ·obtain⟨C,rfl⟩:=h
  exists c
  fail "q"
theorem acF (a:ef)(i:a.length<=1000):BL.cj [.aK (ak (jb cV) a)]=.i (rx cV (l8 a)):=by
 refine eB rfl rfl λaA b=>?_
 unfold Pk
 exists b
 refine o5 (s:=a) (d:=λr=>[jb cV r]) (λy e=>∃C,e=[E (.aK (ak (jb cV) a)),E (rx cV (l8 y)),C]) ⟨k,rfl⟩ (λy X G e j d=>?_) (λe d=>?_)
 ·obtain⟨C,rfl⟩:=d
  refine⟨_,by exists b;rfl,?_⟩
  have m:=acD y;rw[j,dq]at i;rw[acB];have f:f3 ae (.f [cV X]) (.f [cV X])=.i (.aM ax):=by rw[n2];simp
  have h:f3 ax (.f [112,105,99,107]) (.f [112,105,99,107])=.i (.aM ae):=by rw[n2];simp
  by_cases c:X∈l8 y
  ·have aw:nW [rx cV (l8 y),.d X,.f [cV X]]=_:=ab6 (g:=.f) (v:=[cV X]) (r:=[cV X]) (by rw[PN,if_pos c])
   rw[show ry (l8 y) X=l8 y from if_pos c]
   have du:kq "dict" (rx cV (l8 y))=ae:=rfl
   exists b,PM,PJ,PK,PL,h,aw,du,f
   exact⟨_,_,rfl,.inl ⟨.inl rfl,E (jb cV X),rfl⟩⟩
  ·have aw:nW [rx cV (l8 y),.d X,.f [cV X]]=_:=ab5 (g:=.f) (v:=[cV X]) (by rw[PN,if_neg c]) (by rw[ct];lia)
   have du:kq "dict" (rx cV (l8 y))=ae:=rfl
   exists b,PM,PJ,PK,PL,h,aw,du,f
   exact⟨_,_,rfl,.inl ⟨.inl rfl,E (jb cV X),by unfold rx ry;rw[if_neg c,iA];rfl⟩⟩
 ·obtain⟨C,rfl⟩:=d
  exists b
  fail "q"
end
theorem acG {p:eI}{cV:mQ}(c:p.c4.length<=8)(a:∀N∈p.c4,rv cV N):BL.cj [.aK (ak (jb cV) (p.c4.flatMap λN=>bZ N.1))]=.i (rx cV (l8 (p.c4.flatMap λN=>bZ N.1))):=
 acF _ (by have  := BX _ λt b=>HA (a t b).1;lia)
theorem acH {p:eI}(Y:hW p):Hi.cj [.aK (dN p)]=.i .a9:=by
 obtain⟨cV,c,b⟩:=Y.c4;refine eB rfl rfl λaA d=>?_
 unfold Pn
 exists hV,vt
 refine vm (S:=[_])  rfl (d _) (λN e=>?_) (λC=>?_)
 ·obtain⟨aN,az⟩:=acA Y c (b N e)
  exists Pz,PA,aN,az,Hy,decide_true,n7
  exact⟨_,_,rfl,rfl,rfl⟩
 ·exists hV,acE Y.iW b,acG Y.iW b,n7
  fail "q"
theorem acI {p:eI}(Y:hW p):Hj.cj [.aK (dN p)]=.i .a9:=by
 have e:=Hz Y.cP;have c:=Y.cP
 revert e c
 cases p.cP with
 |aQ=>
  intro e _;refine eB rfl rfl λaA a=>?_
  unfold BM;have b:vc (ak ao [])=.i ax:=rfl
  exists a,hV,e,iT
  have:vc (.aK (ak ao []))=.i ax:=rfl;exact⟨_,_,rfl,.inr ⟨rfl,by first |rfl |trivial⟩⟩
 |hU w=>
  intro e _;refine eB rfl rfl λaA a=>?_
  unfold BM;have b:dt (ak ao [w]) (.d 0)=.i (ao w):=rfl;have aN:dt (ak ao [w]) (.d (-1))=.i (ao w):=rfl
  exists a,hV,e,iT,b,aN,fa,Hy,ih,decide_true,n7
  exact⟨_,_,rfl,.inr ⟨rfl,by first |rfl |trivial⟩⟩
 |gB r z w g=>
  intro e c;refine eB rfl rfl λaA a=>?_
  unfold BM;have b:dt (ak ao [w,g]) (.d 0)=.i (ao w):=rfl;have aN:dt (ak ao [w,g]) (.d (-1))=.i (ao g):=rfl
  exists a,hV,e,iT,b,aN,fa,Hy,ih,decide_eq_true (show w.2-w.1+1=g.2-g.1+1 by have:=c.2.2.2.2.2;lia),n7
  exact⟨_,_,rfl,.inr ⟨rfl,by first |rfl |trivial⟩⟩
theorem BY {v h:Int}(Y:1<=v/\v<=h):BG.cj [.d v,.d h]=.i (.aM ae):=by
 refine eB rfl rfl λaA a=>?_
 unfold O_
 exists pT,decide_eq_true Y.1,decide_eq_true Y.2
 fail "q"
def hB (aD:er):List (Int×cq):=aD.map λr=>(r.2,r)
theorem PR {aD:er}{O:Int}(Y:∀r∈aD,r.2≠O):hA (hB aD) O=k:=by
 induction aD with
 |nil=>rfl|cons r aD a=>unfold hB at a ⊢;rw[eR,hA,if_neg (Y r ek)];exact a λX b=>Y X (fM _ b)
theorem acJ {aD:er}(a:aD.Pairwise λS b=>S.2<b.2){r:cq}(Y:r∈aD):hA (hB aD) r.2=E r:=by
 induction aD with
 |nil=>cases Y|cons X aD c=>
  rw[Cx]at a;unfold hB at c ⊢;rw[eR,hA];rcases df.mp Y with rfl |Y
  ·rw[if_pos rfl]
  rw[if_neg (by have:=a.1 r Y;lia)];exact c a.2 Y
theorem acK {aD:er}(q:aD.length<=36)(ab:∀r∈aD,1<=r.1/\r.1<=40/\1<=r.2/\r.2<=36)(af:aD.Pairwise λS b=>S.2<b.2):x9.cj [.aK (ak ao aD)]=.i (ak ao aD):=by
 refine eB rfl rfl λaA c=>?_
 unfold G3
 exists c
 refine vm (S:=[_]) (b:=[_]) rfl (c _) (λr hw=>?_) (λC=>?_)
 ·obtain⟨s,t,u,w⟩:=ab r hw
  exists c,fa,jh,iR,BY ⟨s,t⟩,BY ⟨u,w⟩
  exact⟨_,_,rfl,rfl,rfl⟩
 ·exists c
  refine o5 (s:=aD) (d:=λr=>[ao r]) (λy e=>∃C,e=[E (.aK (ak ao aD)),C,E (jg ao (hB y))]) ⟨_,rfl⟩ (λy X G e j h=>?_) (λe h=>?_)
  ·obtain⟨C,rfl⟩:=h
   refine⟨_,by exists c;rfl,?_⟩
   have n:hA (hB y) X.2=k:=PR λr hw=>by
    rw[j,List.pairwise_append]at af;have:=af.2.2 r hw X ek;lia
   rw[j,dq]at q
   exists c,fa,iR,n,IL
   rw[OK (y:=ao X) (S:=.d X.2) rfl (hT X) rfl rfl rfl (OT (g:=ao) (h:=hB y) (O:=X.2) (v:=X) (by unfold hB;rw[ct];lia))]
   exists c
   refine⟨_,_,rfl,.inl ⟨.inl rfl,E (ao X),?_⟩⟩;rw[(xP (g:=ao) (hB y)).1 n];unfold hB;rw[iA];rfl
  ·obtain⟨C,rfl⟩:=h
   exists c
   have aw:q3 ((hB aD).map (·.1))=.i (.au .aG (aD.map λr=>.d r.2)):=by
    have x:(hB aD).map (·.1)=aD.map (·.2):=by unfold hB;rw[gr];rfl
    unfold q3;rw[x,Mo.lN (by rw[ct];lia),<- z6 qT (aD:=aD.map (·.2)) (Jr _) ?_,gr]
    ·rfl
    ·rw[tP]
     exact af.imp λ{S b} Y=>by show decide _=ax;exact decide_eq_false (by lia)
   rw[jH (w:=λr:cq=>r) (C:=ao) (T:=λr=>[.d r.2]) (a:=aD.map λr=>.d r.2) aD rfl (by exists aw;rfl) (i2 _ _) (λQ z=>?_) (by lia)]
   ·exists c,vL
    fail "q"
   ·show dt (.aK (jg ao (hB aD))) (.d Q.2)=_
    rw[OB,OS,acJ af z];rfl
theorem n8 (z:Nat)(r:cq):fI (z+1) (ao r) (ao r)=E ae:=xQ λy a=>by
 rcases df.mp a with rfl |a
 ·rw[vp,decide_eq_true rfl]
 rw[fv.mp a,vp,decide_eq_true rfl]
theorem acL {aD:er}(a:aD.length<=36)(ab:∀r∈aD,1<=r.1/\r.1<=40/\1<=r.2/\r.2<=36)(af:aD.Pairwise λS b=>S.2<b.2):Hk.cj [.aK (ak ao aD)]=.i (.aM ae):=by
 refine eB rfl rfl λaA c=>?_
 unfold Po;have e:f3 ax (ak ao aD) (ak ao aD)=.i (.aM ae):=tr  (Bq  λy d=>by obtain⟨r,_,rfl⟩:=e3.mp d;exact n8 10 r)
 exists c,acK a ab af,e
 fail "q"
theorem acM {p:eI}(Y:hW p):Hl.cj [.aK (dN p)]=.i .a9:=by
 obtain⟨k2,kK,a⟩:=Y.c6;obtain⟨b,c⟩:=Y.es;refine eB rfl rfl λaA d=>?_
 unfold Pp
 exists hV,PC,yd,PD,PE,acn,pT,decide_eq_true k2,decide_eq_true kK,decide_eq_true a,decide_eq_true b,decide_eq_true c,acL Y.aM Y.ff.1 Y.ff.2,n7
 fail "q"
theorem PS (s:n4):uZ [ak cm s]=.i ((lQ s).map λV=>.au .a_ [.d V.1,cm V.2]):=by
 show iQ _=_
 unfold lQ;rw[ct,List.zip_map_right,gr,gr,gr];rfl
theorem acN {p:eI}(Y:hW p)(D:Int):Hm.cj [.aK (dN p),.d D]=.i (ak ao (lH p D)):=by
 have ab:=Y.iW;have af:=Y.ky;have br:=Y.l7;have t:((iT p.cP).take 1).length<=1:=by rw[lB];lia
 refine eB rfl rfl λaA c=>?_
 unfold Pq
 exists c,hV
 rw[jH (w:=λN:gL=>N.1) (C:=ao) p.c4 rfl (by exists hV,vt;rfl) (i2 _ _) (λQ u=>rfl) (by lia)]
 exists c,hV,Hz Y.cP,yd,ye,sv (show(0:Int)<=1 by lia),show(1:Int).toNat=1 from rfl,n1 (g:=ao) (S:=p.c4.map (·.1)) (b:=(iT p.cP).take 1) (by rw[ct];lia),n1 (g:=ao) (S:=p.c4.map (·.1)++(iT p.cP).take 1) (b:=p.cg) (by rw[dq,ct];lia),PS
 unfold lH
 generalize r:p.c4.map (·.1)++(iT p.cP).take 1++p.cg=A
 have v:A.length<=15:=by rw[<- r];simp;lia
 refine o5 (s:=lQ p.dw) (d:=λV=>[.d V.1,cm V.2]) (λy e=>∃C bS,e=[E (.aK (dN p)),E (.d D),E (ak ao (A++y.flatMap (nM D))),C,bS]) ⟨k,k,by rw[yD,lC]⟩ (λy X G e s j=>?_) (λe j=>?_)
 ·obtain⟨C,bS,rfl⟩:=j
  refine⟨_,by exists c;rfl,?_⟩
  have w:(y.flatMap (nM D)).length<=3*y.length:=BX y λV _=>by unfold nM;split<;>split<;>simp
  have z:y.length<=4:=by have:=Ee p.dw;rw[s,dq]at this;lia
  generalize m:A++y.flatMap (nM D)=h
  have B:h.length<=30:=by rw[<- m,dq];lia
  rw[qj,<- od,m,ql,yD,lC];have n:q9 [ak ao h,ao X.2.1]=_:=j0 (g:=ao) (s:=h) (X:=X.2.1) (by lia)
  have q:∀h:er,h.length<=31->tb [ak ao h,.au .aG [ao X.2.2.1,ao X.2.2.2.2]]=.i .a9 [ak ao (h++[X.2.2.1,X.2.2.2.2]),_]:=λh F=>Bp (b:=[X.2.2.1,X.2.2.2.2]) (by simp only[ee,vJ];lia)
  unfold nM;by_cases i:X.1=D
  ·have d:X.1<=D:=by lia
   rw[if_pos i,if_pos d]
   exists c,tw,yc,BU,BV,fa,hT,ih,decide_eq_true i,decide_eq_true d,q h (by lia)
   exact⟨_,_,rfl,.inl ⟨.inl rfl,E (.d X.1),E (cm X.2),rfl⟩⟩
  ·rw[if_neg i]
   by_cases d:X.1<=D
   ·rw[if_pos d]
    exists c,tw,yc,BU,BV,fa,hT,ih,decide_eq_false i,decide_eq_true d,n,q (h++[X.2.1]) (by simp;lia)
    exact⟨_,_,rfl,.inl ⟨.inl rfl,E (.d X.1),E (cm X.2),by simp⟩⟩
   ·rw[if_neg d]
    exists c,tw,yc,BU,BV,fa,hT,ih,decide_eq_false i,decide_eq_false d,n
    exact⟨_,_,rfl,.inl ⟨.inl rfl,E (.d X.1),E (cm X.2),by simp⟩⟩
 ·obtain⟨C,bS,rfl⟩:=j
  exists c
  fail "q"
theorem acO {r:bo}(Y:r∈l6):m7 ax (.f r) (.au .iu (l6.map .f))=.i (.aM ae):=by
 unfold l6 at Y;simp only[df,gD,or_false]at Y;rcases Y with rfl |rfl |rfl<;>rfl
theorem acP {p:eI}(Y:hW p):Ho.cj [.aK (dN p)]=.i .a9:=by
 refine eB rfl rfl λaA c=>?_
 unfold Pt
 exists c,hV,ye,PS
 refine o5 (s:=lQ p.dw) (d:=λV=>[.d V.1,cm V.2]) (λy e=>∃S b C,e=[E (.aK (dN p)),S,b,C]) ⟨k,k,k,rfl⟩ (λy X G e h d=>?_) (λe d=>?_)
 ·obtain⟨j,m,n,rfl⟩:=d
  refine⟨_,by exists c;rfl,?_⟩
  have f:X∈lQ p.dw:=by rw[h];simp
  have hw:X.2∈p.dw:=by obtain⟨O,_,_,az⟩:=WD f;exact qh az
  have g:∀x,H.aZ aP x (.hx "WORK_WORDS" l6)=.i (.au .iu (l6.map .f)):=λx=>OF _ _ (by decide)
  have az:=acO (Y.dw X.2 hw).2.2.2;unfold l6 at g az;simp only[eR,rJ]at az
  exists c,tw,aci,hV,acN Y,g,az,n7
  refine vm (S:=[_,_,_]) (b:=[]) rfl (c _) (λw i=>?_) (λC=>?_)
  ·exists c,tw,yc,fa,acm,Y.ml X f w i,n7
   exact⟨_,_,rfl,rfl,rfl⟩
  ·exists c
   exact⟨_,_,rfl,.inl ⟨.inl rfl,_,_,_,rfl⟩⟩
 ·obtain⟨S,b,C,rfl⟩:=d
  exists c
  fail "q"
theorem acQ {p:eI}(Y:hW p):Hp.cj [.aK (dN p)]=.i .a9:=by
 refine eB rfl rfl λaA d=>?_
 unfold Pu
 exists d,hV,acr Y,acq Y.cP,acy Y,acz Y
 refine vm (S:=[_]) (b:=[]) rfl (d _) (λw c=>?_) (λC=>?_)
 ·have f:fL w:=by
   obtain⟨cV,_,h⟩:=Y.c4;have e:=Y.cP;rcases g0.mp c with c |c
   ·rcases g0.mp c with c |c
    ·rcases g0.mp c with c |c
     ·rcases g0.mp c with c |c
      ·obtain⟨N,d,rfl⟩:=e3.mp c;exact(h N d).1
      ·revert e c
       cases p.cP with
       |aQ=>intro _ c;cases c
       |hU g=>intro e c;rw[fv.mp c];exact e
       |gB r z w g=>
        intro e c;rcases df.mp c with rfl |c
        ·exact e.2.2.2.1
        ·rw[fv.mp c];exact e.2.2.2.2.1
     ·exact Y.cg w c
    ·exact Y.cD w c
   ·obtain⟨r,hw,c⟩:=CA.mp c
    obtain⟨S,b,Q,_⟩:=Y.dw r hw;simp only[df,gD,or_false]at c;rcases c with rfl |rfl |rfl
    ·exact S
    ·exact b
    ·exact Q
  exists d,fa,jh,iR,PF f,n7
  exact⟨_,_,rfl,rfl,rfl⟩
 ·exists d,hV,acH Y,acI Y,acM Y,acP Y
  fail "q"
theorem HB {ay:Type}{g:ay->ai}[kR g](s:List ay):G6.cj [.aK (ak g s)]=.i (ak g s):=by
 refine eB rfl rfl λaA a=>?_
 unfold Pc;have e:m5 ax (ak g s) .a9=.i _:=rfl
 exists e
 fail "q"
theorem PT (h:ji):(dX h).eT=ae:=by cases h<;>rfl
theorem tA (h:ji):(dX h).bO=dX h:=by unfold ai.bO;rw[PT];rfl
theorem BZ (h:ji):(dX h).ed=ae:=GB _ (PT h)
theorem acR {p:eI}(Y:hW p):∃a,BN [.au (.dI "Asking" []) [],.f p.dF,.aK (ak cU p.c4),dX p.cP,.aK (ak ao p.cg),.aK (ak cm p.dw),.d p.c6,.aK (ak ao p.cD),.d p.es,.aK (ak ao p.ff)]=.i .a9 (dN p::a):=by
 have c:(dX p.cP).ed=ae:=BZ _;have f:∀aA:Nat->Bool,∃e,aO.bb aP aA ya [E (.au (.dI "Asking" []) []),E (.f p.dF),E (.aK (ak cU p.c4)),E (dX p.cP),E (.aK (ak ao p.cg)),E (.aK (ak cm p.dw)),E (.d p.c6),E (.aK (ak ao p.cD)),E (.d p.es),E (.aK (ak ao p.ff))]=.i .de (E (dN p)::e):=λaA=>by
  unfold ya;rw[aO.bb,aO.gm,o6 (y:=.f p.dF) rfl rfl rfl (by decide) (by decide) (by decide),l5]
  rw[aO.bb,aO.gm,o6 (y:=ak cU p.c4) (by exists ON) i1 rfl (by decide) (by decide) (by decide),l5]
  rw[aO.bb,aO.gm,o6 (y:=dX p.cP) (by exists(tA _)) c rfl (by decide) (by decide) (by decide),l5]
  rw[aO.bb,aO.gm,o6 (y:=ak ao p.cg) (by exists ON) i1 rfl (by decide) (by decide) (by decide),l5]
  rw[aO.bb,aO.gm,o6 (y:=ak cm p.dw) (by exists HB) i1 rfl (by decide) (by decide) (by decide),l5]
  rw[aO.bb,aO.gm,o6 (y:=.d p.c6) rfl rfl rfl (by decide) (by decide) (by decide),l5]
  rw[aO.bb,aO.gm,o6 (y:=ak ao p.cD) (by exists HB) i1 rfl (by decide) (by decide) (by decide),l5]
  rw[aO.bb,aO.gm,o6 (y:=.d p.es) rfl rfl rfl (by decide) (by decide) (by decide),l5]
  rw[aO.bb,aO.gm,o6 (y:=ak ao p.ff) (by exists HB) i1 rfl (by decide) (by decide) (by decide),l5]
  have b:∀s,e9 (E (ai.au (.dI "Asking" _) (BW p))::s) 0=.i (.aK (dN p)):=λs=>rfl
  unfold BW at b
  exists b,hV,acQ Y
  exact⟨_,rfl⟩
 obtain⟨e,g⟩:=f (ag [.au (.dI "Asking" []) [],.f p.dF,.aK _,dX p.cP,.aK _,.aK _,.d p.c6,.aK (ak ao p.cD),.d p.es,.aK (ak ao p.ff)]);exact⟨_,OL (ah:=aP) (z:=10) (h:=0) (body:=ya)  rfl g⟩
section
variable {aA:i7}{e:VI.aX}{q:eY->VI.aX->Prop}
theorem MY (y:ai):y.bO.bO=y.bO:=by
 by_cases Y:y.eT=ae
 ·have:y.bO=y:=by unfold ai.bO;rw[if_pos Y]
  rw[this,this]
 ·cases y<;>first |rfl  |skip
  ·rename_i D a
   have:(ai.au D a).bO=.aK (.au D a):=by unfold ai.bO;rw[if_neg Y]
   rw[this];exact Gq (by simpa using Y)
  ·rename_i y
   have e:(ai.aK y).eT=y.eT:=rfl;rw[e]at Y;have  := Gq (by simpa using Y)
   rw[this,this]
end
section
variable {x aN:VI.aX}{V cL:hg}{N eW:dS}{Q cR y S G dO pI:ai}{a dc:bf}{X D:H}{aI:nU}{z:Str}
theorem iy (a:e6 (X.aZ aP x) x X.eg=.i y x):eh aP x [.X X]=.i (nq [y]) x:=by
 show((lY aP x X).aC λy e=>(eh aP e []).aC λc b=>.i _ b)=_
 rw[nk,a];rfl
theorem yg {t:H}(a:e6 (X.aZ aP x) x X.eg=.i y x)(b:e6 (t.aZ aP x) x t.eg=.i S x):eh aP x [.X X,.X t]=.i (nq [y,S]) x:=by
 have e:=iy b;show((lY aP x X).aC λy e=>(eh aP e _).aC λd c=>.i _ c)=_
 rw[nk,a,jZ,e];rfl
theorem PU {b:ai->Bool}{F:hg->b0}(f:dS.aZ aP x N=.i V)(d:d3 x V=E Q)(g:b Q=ae)(h:eh aP x aI=.i (nq a) x)(i:F V (Q::a)=.i G (cR::dc)):mD aP x N aI b (λV c e=>gY (F V) (.s V::c) e)=.i G (eZ x V cR):=by
 unfold mD;rw[f];show(match d3 x V with |some Q=>if b Q=ae then(eh aP x aI).aC λc e=>gY _ _ e else .aQ |none=>.aQ)=_
 rw[d];show(if b Q=ae then(eh aP x aI).aC λc e=>gY _ _ e else .aQ)=_
 rw[if_pos g,h,jZ];unfold gY;have az:ie x (.s V::nq a)=E (Q::a):=by
  show(d3 x V).bind _=_
  rw[d,Gv];rfl
 rw[az];show(if(oW V _ && oX _)=ae then(match F V _ with |.i G dc=>bY.i G _ |.aW X dc=>.aW X _ |.aQ=>.aQ)else _)=_
 rw[Gw,Gx,i];show bY.i G (eZ _ V cR)=_
 rw[Bj]
theorem j1 {C:lZ}(b:dS.aZ aP x N=.i V)(c:d3 x V=E Q)(d:kq C.fW Q=ae)(e:eh aP x aI=.i (nq a) x)(f:C.w (Q::a)=.i G (cR::dc)):cZ.aZ aP (.fw C N aI) x=.i G (eZ x V cR):=PU  b c d e f
theorem tB {b:oL}{aJ:Str}{c:cx}{m:bf}{w:Str×b0}(f:dS.aZ aP x N=.i V)(e:d3 x V=E (.au (.dI aJ c) m))(d:b.find? (λV=>V.1 == aJ)=E w)(g:z∉c)(h:eh aP x aI=.i (nq a) x)(i:w.2 (.au (.dI aJ c) m::a)=.i G (cR::dc)):cZ.aZ aP (.eo b N z aI) x=.i G (eZ x V cR):=by
 rw[cZ.aZ];unfold A0;rw[(show b.isEmpty=ax by cases b with |nil=>cases d |cons=>rfl)]
 refine PU (dc:=dc)   f e ?_ h ?_
 ·unfold VI.AY;simp only[d,decide_eq_false g];rfl
 unfold AZ;simp only[e,d];exact i
theorem PV {b:oL}{t:H}{aJ:Str}{c:cx}{m:bf}{w:Str×b0}{aS:iZ}(f:t.aZ aP x=.i y)(g:y.aH=.au (.dI aJ c) m)(d:b.find? (λV=>V.1 == aJ)=E w)(h:z∉c)(i:H.gJ aP x aS=.i a)(j:w.2.cj (y.bO::a.map .bO)=.i G):H.aZ aP x (.eo b t z aS)=.i G:=by
 have e:H.aZ aP x (.eo b t z aS)=(t.aZ aP x).aC λy=>q0 b z y (H.gJ aP x aS):=by cases b with |nil=>cases d |cons=>rfl
 rw[e,f,tp];unfold q0;rw[g];simp only[d,if_neg h,i];exact j
theorem acS (a:e6 (X.aZ aP x) x X.eg=.i y x)(b:dS.aZ aP x N=.i V)(c:e6 (D.aZ aP x) x D.eg=.i S x)(d:d3 x V=E Q)(e:ng [y,Q,S]=.i G [dO,cR,pI]):rd aP N D X x=.i .de (eZ x V cR):=by
 unfold rd;have aN:eh aP x [.X X,.s N,.X D]=.i [.y y,.s V,.y S] x:=by
  unfold eh;rw[nk,a,jZ];unfold eh;rw[b,iy c];rfl
 rw[aN,jZ];unfold gY;have az:ie x [.y y,.s V,.y S]=E [y,Q,S]:=by
  show((d3 x V).bind λQ=>E [Q,S]).map _=_
  rw[d];rfl
 rw[az];show pY (if _ then(match ng _ with |.i G dc=>bY.i G _ |.aW X dc=>_ |.aQ=>_)else _)=_
 rw[e];rfl
theorem PW {aA:i7}{A:aO}{cT:cE}(Y:aO.gm aP aA A x=.i .de aN):aO.bb aP aA (A::cT) x=aO.bb aP aA cT aN:=by rw[aO.bb,Y,l5]
theorem kz {aA:i7}{t:cZ}{cT:cE}(Y:cZ.aZ aP t x=.i y aN):aO.bb aP aA (.aW t::cT) x=aO.bb aP aA cT aN:=by rw[aO.bb,aO.gm,Y,abN,l5]
end
abbrev fT:=GK
theorem PX {x:VI.aX}(C:nS)(S:H):H.aZ aP x (.m8 C S)=(S.aZ aP x).aC λy=>(m6 y).aC C.w:=Ou
theorem iP {x:VI.aX}(C:jV)(S:H)(aI:iZ):H.aZ aP x (.eF C S aI)=(S.aZ aP x).aC λy=>(m6 y).aC λs=>(H.gJ aP x aI).aC λQ=>C.w s Q:=Ou
theorem nt (s:fB)(a:bf):jV.w .jd s a=kn s a:=rfl
theorem tC (s:fB)(a:bf):jV.w .split s a=nR s a:=rfl
theorem B0 (Q:Nat):∀aF:fT,gx [Q] aF=nH Q aF
 |[]=>rfl|[N]=>rfl|N::V::G=>by show N++[Q]++gx _ _=N++Q::nH Q _;rw[B0 Q _];simp
theorem acT (Q:Nat)(s:fB):qU [Q] s=eX Q s:=KL _ Q
theorem acU {Q:Nat}(d:yR (⟨#[Q,32]⟩:Str)=1){X:Str}(c:∀D,X.cps.toList[D]?=E Q->X.cps.toList[D+1]?=E 32):∀N∈Txt.split X ⟨#[Q,32]⟩,Q∉N.cps.toList:=by
 obtain⟨w,e,f⟩:=StrLaws.occ_tight X ⟨#[Q,32]⟩ (show 0<2 by lia)
 have a:=LD c _ 0 w e f;unfold Txt.split;split
 ·rename_i Y
  intro N b;rw[fv.mp b];intro g;obtain⟨j,h⟩:=tO g;have:=(hF.mp (c j h)).1;rw[pd,decide_eq_true_eq,decide_eq_true_eq]at Y;rcases Y with Y |Y
  ·simp[mO]at Y this
   lia
  ·rw[d]at Y
   exact absurd Y (by unfold yR;split<;>(try split)<;>lia)
 ·split
  ·rename_i Y
   rw[j8]at Y;rw[Y]at a;intro N b;rw[fv.mp b];have:=a (rR X 0 X.length) (fv.mpr rfl);rwa[StrLaws.sub_whole]at this
  ·rw[StrLaws.partsBetween_eq]
   exact a
theorem acV {Q:Nat}(b:yR (⟨#[Q,32]⟩:Str)=1)(a:32≠Q){aF:fT}(Y:aF≠[])(w:∀N∈aF,Q∉N):qU [Q,32] (gx [Q,32] aF)=aF:=by
 have ab:=Ex ⟨#[Q,32]⟩ (Txt.split ⟨(gx [Q,32] aF).toArray⟩ ⟨#[Q,32]⟩);rw[(I4 _ _)]at ab;have af:=I2 ⟨(gx [Q,32] aF).toArray⟩ ⟨#[Q,32]⟩;refine Xs   a (λI=>?_) Y (λV c=>?_) w ab.symm
 ·have:=congrArg ma I
  unfold qU at this;rw[ct]at this;rw[this]at af;simp at af
 ·obtain⟨I,d,rfl⟩:=e3.mp c
  exact acU b  (LG a w) I d
theorem B1 {n:bo}{Q:Nat}(Y:n.length<=100000):nR n [.f [Q]]=.i (ak .f (eX Q n)):=by
 show Mo.dW _ _=_
 rw[Mo.lN ⟨Y,by simp⟩,tq,acT];rfl
theorem HC {Q:Nat}(a:yR (⟨#[Q,32]⟩:Str)=1)(b:32≠Q){aF:fT}(c:aF≠[])(w:∀N∈aF,Q∉N)(Y:(gx [Q,32] aF).length<=100000):nR (gx [Q,32] aF) [.f [Q,32]]=.i (ak .f aF):=by
 show Mo.dW _ _=_
 rw[Mo.lN ⟨Y,by simp⟩,tq,acV a b c w];rfl
theorem PY:∀(s:fT),sV (s.map ai.f)=E s
 |[]=>rfl|Q::s=>by rw[eR];unfold sV;rw[PY s];rfl
theorem acW {a:bo}{aF:fT}(b:a.length<=100)(c:aF.length<=1000)(Y:∀N∈aF,N.length<=1000):JoinOk ⟨a.toArray⟩ (oG aF)=ae:=by
 have:=StrLaws.joinFits (sep:=⟨a.toArray⟩) (texts:=oG aF)  (λI d=>by
  obtain⟨n,e,rfl⟩:=e3.mp d;exact Y n e) (by
  rw[(show(oG aF).length=aF.length by unfold oG;rw[ct])];show aF.length*1000+aF.length*a.toArray.size<=_
  rw[eQ];have:=Nat.mul_le_mul c b;lia)
 unfold JoinOk;rw[this];rfl
theorem tD {a:bo}{aF:fT}(b:a.length<=100)(c:aF.length<=1000)(Y:∀N∈aF,N.length<=1000):kn a [ak .f aF]=.i (.f (gx a aF)):=by
 show(Mo.e8 _).aC _=_
 rw[PY];show Mo.dW _ _=_
 rw[Mo.lN (acW b c Y),Xt]
theorem lr {S b:bo}(Y:S.length+b.length<=100000):hu (.f S) (.f b)=.i (.f (S++b)):=by
 show Mo.eS _ _=_;rw[Mo.nI Y]
def gM (Q:Nat)(n:fB):List Nat:=n.takeWhile (· != Q)
theorem HD {Q:Nat}{S b:bo}(Y:Q∉S):gM Q (S++Q::b)=S:=by
 unfold gM;rw[List.takeWhile_append_of_pos (λX a=>by simp;rintro rfl;exact Y a)]
 simp
theorem HE {Q:Nat}{S:bo}(Y:Q∉S):gM Q S=S:=by
 unfold gM;induction S with
 |nil=>rfl|cons y S a=>
  rw[List.takeWhile_cons,if_pos (by simp;rintro rfl;exact Y ek),a λI=>Y (fM _ I)]
theorem acX (n:fB)(Q:Nat):(Txt.partition ⟨n.toArray⟩ ⟨#[Q]⟩).1.cps.toList=gM Q n:=by
 have a:∀O,rW ⟨n.toArray⟩ ⟨#[Q]⟩ (⟨n.toArray⟩:Str).length O↔n[O]?=E Q:=λO=>y0 ⟨n.toArray⟩ Q O
 unfold Txt.partition;rcases StrLaws.occ_head ⟨n.toArray⟩ ⟨#[Q]⟩ 1 (cM 1)with⟨e,Y⟩|⟨O,G,e,ab,af⟩
 ·rw[e]
  exact(HE λb=>by obtain⟨O,aB⟩:=tO b;exact Y O ((a O).mpr aB)).symm
 ·rw[e]
  have ab:=(a O).mp ab;obtain⟨g,aB⟩:=hF.mp ab;have f:n=n.take O++Q::n.drop (O+1):=by
   rw[<- aB,List.getElem_cons_drop,Ia]
  show(rR ⟨n.toArray⟩ 0 O).cps.toList=_
  rw[yZ];show(n.drop 0).take (O-0)=_
  conv=>rhs;rw[f]
  rw[HD,mN,CF];intro b;obtain⟨D,c⟩:=tO b;have d:D<O:=by
   have:=(hF.mp c).1;rw[lB]at this;lia
  rw[ys d]at c;exact af D d ((a D).mpr c)
noncomputable def ei:bo:=[32,105,110,32]
theorem q5 {S b:bo}(c:∀Q∈b,48<=Q/\Q<=57):Txt.rpartition ⟨(S++(ei++b)).toArray⟩ ⟨ei.toArray⟩=(⟨S.toArray⟩,⟨ei.toArray⟩,⟨b.toArray⟩):=by
 have d:∀O,rW ⟨(S++(ei++b)).toArray⟩ ⟨ei.toArray⟩ (⟨(S++(ei++b)).toArray⟩:Str).length O↔O+4<=(S++(ei++b)).length/\((S++(ei++b)).drop O).take 4=ei:=λO=>by
  unfold rW;rw[StrLaws.subAt_eq,beq_iff_eq];show O+ei.toArray.size<=(S++(ei++b)).toArray.size/\_↔_
  rw[eQ,eQ];exact Iff.rfl
 have f:rW ⟨(S++(ei++b)).toArray⟩ ⟨ei.toArray⟩ (⟨(S++(ei++b)).toArray⟩:Str).length S.length:=(d _).mpr ⟨by rw[dq,dq];show S.length+4<=S.length+(4+b.length);lia,by rw[CC];rfl⟩
 have l:∀D,S.length<D->¬rW ⟨(S++(ei++b)).toArray⟩ ⟨ei.toArray⟩ (⟨(S++(ei++b)).toArray⟩:Str).length D:=λD n Y=>by
  obtain⟨ab,af⟩:=(d D).mp Y;have g:∀j,j<4->(ei++b)[D-S.length+j]?=ei[j]?:=λj m=>by
   have e:=congrArg (λs:bo=>s[j]?) af
   rw[ys m,Ih,pe (by lia),show D+j-S.length=D-S.length+j by lia]at e
   exact e
  have a:(ei++b)[D-S.length]?=E 32:=g 0 (by lia)
  have i:(ei++b)[D-S.length+1]?=E 105:=g 1 (by lia)
  rcases(show D-S.length=1\/D-S.length=2\/D-S.length=3\/∃h,D-S.length=h+4 from by
   rcases CG (D-S.length) 4 with I |I
   ·lia
   ·exact .inr (.inr (.inr ⟨_,(Nat.sub_add_cancel I).symm⟩)))with I |I |I |⟨h,I⟩<;>rw[I]at a i
  ·cases a
  ·cases a
  ·have:b[0]?=E 105:=i
   have:=c 105 (qh this);lia
  ·have:b[h]?=E 32:=a
   have:=c 32 (qh this);lia
 unfold Txt.rpartition;rcases StrLaws.last_spec ⟨(S++(ei++b)).toArray⟩ ⟨ei.toArray⟩with⟨e,Y⟩|⟨O,e,ab,af⟩
 ·exact absurd f (Y _)
 ·have:O=S.length:=by
   rcases Nat.lt_trichotomy O S.length with I |I |I
   ·exact absurd f (af _ I)
   ·exact I
   ·exact absurd ab (l _ I)
  subst this;rw[e];have bh:rR ⟨(S++(ei++b)).toArray⟩ 0 S.length=⟨S.toArray⟩:=by
   refine Str.ext' (y2.mp ?_);rw[yZ];show((S++(ei++b)).drop 0).take (S.length-0)=S
   rw[mN,CF,List.take_left]
  have bj:rR ⟨(S++(ei++b)).toArray⟩ (S.length+(⟨ei.toArray⟩:Str).length) (⟨(S++(ei++b)).toArray⟩:Str).length=⟨b.toArray⟩:=by
   refine Str.ext' (y2.mp ?_);rw[yZ];show((S++(ei++b)).drop (S.length+4)).take ((S++(ei++b)).toArray.size-(S.length+4))=b
   rw[eQ,<- It,CC,dq,dq];show(b.take (S.length+(4+b.length)-(S.length+4)))=b
   rw[show S.length+(4+b.length)-(S.length+4)=b.length by lia,yB]
  show(rR _ 0 S.length,_,rR _ (S.length+_) _)=_
  rw[bh,bj]
def PZ (z:Nat):Bool:=decide ((cX (z:Int)).length<=2) && decide (cX (z:Int)≠[]) && (cX (z:Int)).all (λQ=>decide (48<=Q/\Q<=57)) && decide ((z:Int).natAbs.log2<1920)
theorem acY:(fl 41).all PZ=ae:=by decide +kernel
theorem acZ:(fl 41).map (λz:Nat=>xU.cj [.f (cX z)])=(fl 41).map λz:Nat=>.i (.d z):=by kernel_rfl
theorem kA {z:Int}(b:0<=z)(Y:z<=40):((cX z).length<=2/\cX z≠[]/\∀Q∈cX z,48<=Q/\Q<=57)/\E8 [.d z]=.i (.f (cX z))/\xU.cj [.f (cX z)]=.i (.d z):=by
 obtain⟨h,rfl⟩:∃h:Nat,z=h:=⟨z.toNat,by lia⟩
 have a:h<41:=by lia
 have S:=mM.mp acY h (lD.mpr a);unfold PZ at S;simp only[cC,decide_eq_true_eq,mM]at S;refine⟨⟨S.1.1.1,S.1.1.2,S.1.2⟩,?_,?_⟩
 ·show Mo.dW _ _=_
  rw[Mo.lN S.2]
 ·have e:=congrArg (λs=>s[h]?) acZ
  simp only[gC,Cw a,IP]at e;exact jQ e
def b1 (w:cq):List Nat:=if w.1=w.2 then cX w.1 else cX w.1++45::cX w.2
def n9 (h:Int)(w:cq):Prop:=1<=w.1/\w.1<=w.2/\w.2<=h
theorem yh {z:Int}(a:0<=z)(Y:z<=40){Q:Nat}(b:Q<48\/57<Q):Q∉cX z:=λI=>by have:=(kA a Y).1.2.2 Q I;lia
theorem ac0 {w:cq}(Y:n9 40 w):eX 45 (b1 w)=if w.1=w.2 then[cX w.1]else[cX w.1,cX w.2]:=by
 obtain⟨ab,af,br⟩:=Y;unfold b1;split
 ·exact ux 45 _ (yh (by lia) (by lia) (by lia))
 rw[wC 45 _ _ (yh (by lia) (by lia) (by lia)),ux 45 _ (yh (by lia) (by lia) (by lia))]
theorem hC {w:cq}(Y:n9 40 w):(b1 w).length<=5/\b1 w≠[]:=by
 obtain⟨ab,af,br⟩:=Y;have S:=(kA (z:=w.1) (by lia) (by lia)).1
 have b:=(kA (z:=w.2) (by lia) (by lia)).1
 unfold b1;split
 ·exact⟨by lia,S.2.1⟩
 exact⟨by rw[dq,ee];lia,by simp⟩
theorem ac1 {w:cq}(Y:n9 40 w){Q:Nat}(a:Q∈b1 w):Q=45\/48<=Q/\Q<=57:=by
 obtain⟨ab,af,br⟩:=Y;have S:=(kA (z:=w.1) (by lia) (by lia)).1.2.2
 unfold b1 at a;split at a
 ·exact .inr (S Q a)
 ·rcases g0.mp a with a |a
  ·exact .inr (S Q a)
  ·rcases df.mp a with rfl |a
   ·exact .inl rfl
   exact .inr ((kA  (by lia) (by lia)).1.2.2 Q a)
theorem fC {w:cq}(Y:fL w):n9 40 w:=⟨Y.1,Y.2.1,by have:=Y.2.2;lia⟩
def n_ (w:cq):List Int:=if w.1=w.2 then[w.1]else[w.1,w.2]
theorem P0 {x:VI.aX}{w:cq}{O:Nat}{m:iZ}(Y:n9 40 w)(b:e9 x O=.i (.f (b1 w)))(bW:Str):H.aZ aP x (.eH [bW] [] .dy [.eF .split (.v O) [.D (.f [45])]] ⟨ax,[0]⟩ k (.b7 xU "read_whole" [.v 0]))=.i (ak .d (n_ w)):=by
 have d:=(hC Y).1;have c:(H.gJ aP x [.eF .split (.v O) [.D (.f [45])]]).aC hb.dy.w=.i ((if w.1=w.2 then[w.1]else[w.1,w.2]).map λz=>ai.f (cX z)):=by
  exists iP,b,tC,B1 (show(b1 w).length<=100000 by lia),ac0 Y
  split<;>rfl
 rw[jH (w:=λz:Int=>z) (C:=.d)  _ rfl c (by rw[i2]) (λz a=>?_) (by split<;>simp),vL]
 ·rfl
 ·obtain⟨ab,af,br⟩:=Y
  have:0<=z/\z<=40:=by
   split at a
   ·rw[fv.mp a];lia
   ·rcases df.mp a with rfl |a
    ·lia
    ·rw[fv.mp a];lia
  exact(kA this.1 this.2).2.2
theorem B2 (w:cq):eb (n_ w) 0=E w.1:=by unfold n_;split<;>rfl
theorem B3 (w:cq):eb (n_ w) (-1)=E w.2:=by
 unfold n_;split
 ·rename_i Y;rw[<- Y];rfl
 rfl
theorem P1:¬(1:Int)=2:=by lia
theorem P2 {w:cq}(Y:fL w):G1.cj [.d w.1,.d w.2]=.i (ao w):=by
 refine eB rfl rfl λaA a=>?_
 unfold O3
 exists PF Y
 fail "q"
theorem B4 (w:cq):mx [ak .d (n_ w)]=.i (.d (if w.1=w.2 then 1 else 2)):=by unfold n_;split<;>rfl
theorem p9 {w:cq}(Y:fL w):vs.cj [.f (b1 w)]=.i (ao w):=by
 refine eB rfl rfl λaA a=>?_
 unfold O4;rw[e0 (P0 (m:=[]) (fC Y) rfl _ |> λe=>by rw[lq,e];exact hR _ i1) (a _)]
 by_cases Q:w.1=w.2
 ·have s:=B4 w
  rw[if_pos Q]at s
  exists a,s,B2,B3,ih,decide_false,P1,yq,P2 Y
  fail "q"
 ·have s:=B4 w
  rw[if_neg Q]at s;have aN:eb (n_ w) 1=E w.2:=by unfold n_;rw[if_neg Q];rfl
  exists a,s,B2,B3,aN,ih,decide_true,decide_false,decide_eq_false Q,Cs,yq,P2 Y
  fail "q"
theorem P4 (s:ef):m7 ax .a9 (ak .d s)=.i (.aM ax):=by
 have e:∀s:ef,mi .a9 (s.map .d)=ax:=λs=>by
  induction s with
  |nil=>rfl|cons S s a=>assumption
 show(Mo.e8 _).aC _=_
 rw[GD];show iQ (ai.aM (if ax=ae then !mi _ _ else mi _ _))=_
 rw[e];rfl
theorem P5 {w:cq}{h:Int}(Y:n9 h w)(f:h<=40):BE.cj [.f (b1 w),.d h]=.i (ao w):=by
 obtain⟨ab,af,br⟩:=id Y;refine eB rfl rfl λaA a=>?_
 unfold O8;rw[e0 (P0 (m:=[]) ⟨ab,af,by lia⟩ rfl _ |> λe=>by rw[lq,e];exact hR _ i1) (a _)]
 have b:¬w.1<1:=by lia
 have c:¬h<w.2:=by lia
 by_cases Q:w.1=w.2
 ·have s:=B4 w
  rw[if_pos Q]at s
  exists a,s,B2,B3,ih,P4,decide_false,yq,Cs,tL,P1,decide_eq_false b,decide_eq_false c
  fail "q"
 ·have s:=B4 w
  rw[if_neg Q]at s;have aN:eb (n_ w) 1=E w.2:=by unfold n_;rw[if_neg Q];rfl
  have d:¬w.2<=w.1:=by lia
  exists a,s,B2,B3,aN,ih,decide_true,P4,decide_false,yq,Cs,tL,decide_eq_false b,decide_eq_false c,decide_eq_false d
  fail "q"
theorem rz {w:cq}(Y:n9 40 w):vr.cj [ao w]=.i (.f (b1 w)):=by
 obtain⟨ab,af,br⟩:=id Y;have S:=kA (z:=w.1) (by lia) (by lia)
 have b:=kA (z:=w.2) (by lia) (by lia)
 have aN:hu (.f (cX w.1)) (.f [45])=.i _:=lr (by have:=S.1.1;simp;lia)
 have az:hu (.f (cX w.1++[45])) (.f (cX w.2))=.i _:=lr (by have:=S.1.1;have:=b.1.1;simp;lia)
 refine eB rfl rfl λaA a=>?_
 unfold O0;by_cases Q:w.1=w.2
 ·exists a,jh,iR,ih,decide_eq_true Q,S.2.1,show b1 w=cX w.1 from if_pos Q
  fail "q"
 ·exists a,jh,iR,ih,decide_eq_false Q,S.2.1,b.2.1,aN,az,show b1 w=cX w.1++[45]++cX w.2 from(if_neg Q).trans (by simp)
  fail "q"
abbrev hX:=cq×Nat
abbrev lu:=List hX
def B5 (G:hX)(O:Nat):cq:=(G.1.1+O,G.1.2+O)
def f5 (G:hX):List cq:=(fl (G.2+1)).map (B5 G)
def lx (G:hX):cq:=(G.1.1,G.1.1+G.2)
def l9 (G:hX):cq:=(G.1.2,G.1.2+G.2)
def iz (G:hX):List Nat:=b1 (lx G)++62::b1 (l9 G)
def j2 (G:hX):Prop:=1<=G.1.1/\G.1.1+G.2<=40/\1<=G.1.2/\G.1.2+G.2<=36
theorem j2.Y {G:hX}(C:j2 G):n9 40 (lx G):=⟨C.1,by show G.1.1<=G.1.1+G.2;lia,C.2.1⟩
theorem j2.n {G:hX}(C:j2 G):n9 36 (l9 G):=⟨C.2.2.1,by show G.1.2<=G.1.2+G.2;lia,C.2.2.2⟩
theorem j2.yi {G:hX}(C:j2 G):n9 40 (l9 G):=⟨C.n.1,C.n.2.1,by have:=C.n.2.2;lia⟩
theorem mI {w:cq}(Y:n9 40 w){Q:Nat}(ab:Q≠45)(af:Q<48\/57<Q):Q∉b1 w:=λI=>by have:=ac1 Y I;lia
theorem B6 {G:hX}(C:j2 G):(iz G).length<=11:=by
 unfold iz;have:=(hC C.Y).1;have:=(hC C.yi).1;grind
theorem P6 {G:hX}(C:j2 G){Q:Nat}(ab:Q≠45)(af:Q<48\/57<Q)(br:Q≠62):Q∉iz G:=λI=>by
 rcases g0.mp I with I |I
 ·exact mI C.Y ab af I
 ·rcases df.mp I with I |I
  ·exact br I
  exact mI C.yi ab af I
theorem ac2 {G:hX}(C:j2 G):BF.cj [.f (iz G)]=.i (ak ao (f5 G)):=by
 have d:eX 62 (iz G)=[b1 (lx G),b1 (l9 G)]:=by
  unfold iz;rw[wC 62 _ _ (mI C.Y (by lia) (by lia)),ux 62 _ (mI C.yi (by lia) (by lia))]
 have bh:nR (iz G) [.f [62]]=.i (ak .f [b1 (lx G),b1 (l9 G)]):=by rw[B1 (by have:=B6 C;lia),d]
 have e:eb [b1 (lx G),b1 (l9 G)] 0=E (b1 (lx G)):=rfl;have h:eb [b1 (lx G),b1 (l9 G)] 1=E (b1 (l9 G)):=rfl;have i:mx [ak .f [b1 (lx G),b1 (l9 G)]]=.i (.d 2):=rfl;have a:(lx G).2-(lx G).1=G.2:=by show G.1.1+(G.2:Int)-G.1.1=G.2;lia
 have j:(l9 G).2-(l9 G).1=G.2:=by show G.1.2+(G.2:Int)-G.1.2=G.2;lia
 refine eB rfl rfl λaA c=>?_
 unfold O9
 exists c,iP,tC,bh,i,ih,decide_true,e,h,P5 C.Y (qv 40),P5 C.n (show(36:Int)<=40 by lia),fa,hT,jh,iR,a,j
 have n:=C.2.1;have ab:=C.1;have l:sT [.d ((G.2:Int)+1)]=.i ((fl (G.2+1)).map λO:Nat=>ai.d (O:Int)):=by
  unfold sT;dsimp only;rw[VI.Oz,tp,Mo.lN ⟨by lia,by lia⟩]
  unfold gp;simp_all
 rw[jH (w:=λO:Nat=>B5 G O) (C:=ao) (T:=λO:Nat=>[.d (O:Int)]) (a:=(fl (G.2+1)).map λO:Nat=>ai.d (O:Int)) (fl (G.2+1)) rfl (by
  have m:∀(S b:ai) (w g:cq),H.gJ aP [E S,E b,E (ao w),E (ao g)] [.aT .cO (.aT .lb (.O (.v 2) 1) (.O (.v 2) 0)) (.z 1)]=.i [.d (w.2-w.1+1)]:=λS b w g=>by exists jh,iR
  rw[m,a,tp];exact l) (by rw[i2]) (λO aB=>by exists jh,fa;rfl) (by rw[qk];lia)]
 exists c
 fail "q"
structure rA (a:er):Prop where
 s:a.length<=36
 G:∀r∈a,1<=r.1/\r.1<=40/\1<=r.2/\r.2<=36
 A:a.Pairwise λS b=>S.2<b.2
theorem ac3 {aD:er}(a:(aD.map (·.2)).Nodup){r:cq}(Y:r∈aD):hA (hB aD) r.2=E r:=by
 induction aD with
 |nil=>cases Y|cons X aD b=>
  rw[eR,qo]at a;unfold hB at b ⊢;rw[eR,hA];rcases df.mp Y with rfl |Y
  ·rw[if_pos rfl]
  rw[if_neg (λe=>a.1 (by rw[show X.2=r.2 from e];exact Ic Y))];exact b a.2 Y
theorem ac4 {aD h:er}(C:rA h)(j:aD.Perm h):x9.cj [.aK (ak ao aD)]=.i (ak ao h):=by
 have u:=C.s;have af:=C.A;have w:aD.length<=36:=by rw[j.length_eq];exact u
 have n:(aD.map (·.2)).Nodup:=(j.map _).nodup_iff.mpr (tP.mpr (af.imp λ{S b} Y e=>by lia))
 refine eB rfl rfl λaA c=>?_
 unfold G3
 exists c
 refine vm (S:=[_]) (b:=[_]) rfl (c _) (λr hw=>?_) (λC=>?_)
 ·obtain⟨x,z,A,B⟩:=C.G r (j.mem_iff.mp hw)
  exists c,fa,jh,iR,BY ⟨x,z⟩,BY ⟨A,B⟩
  exact⟨_,_,rfl,rfl,rfl⟩
 ·exists c
  refine o5 (s:=aD) (d:=λr=>[ao r]) (λy e=>∃C,e=[E (.aK (ak ao aD)),C,E (jg ao (hB y))]) ⟨_,rfl⟩ (λy X G e s q=>?_) (λe q=>?_)
  ·obtain⟨C,rfl⟩:=q
   refine⟨_,by exists c;rfl,?_⟩
   have t:hA (hB y) X.2=k:=PR λr hw e=>by
    rw[s,iA,eR,yz]at n;exact n.2.2 r.2 (Ic hw) X.2 ek e
   rw[s,dq]at w
   exists c,fa,iR,t,IL
   rw[OK (y:=ao X) (S:=.d X.2) rfl (hT X) rfl rfl rfl (OT (g:=ao) (h:=hB y) (O:=X.2) (v:=X) (by unfold hB;rw[ct];lia))]
   exists c
   refine⟨_,_,rfl,.inl ⟨.inl rfl,E (ao X),?_⟩⟩;rw[(xP (g:=ao) (hB y)).1 t];unfold hB;rw[iA];rfl
  ·obtain⟨C,rfl⟩:=q
   exists c
   have aw:q3 ((hB aD).map (·.1))=.i (.au .aG (h.map λr=>.d r.2)):=by
    have D:(hB aD).map (·.1)=aD.map (·.2):=by unfold hB;rw[gr];rfl
    unfold q3;rw[D,Mo.lN (by rw[ct];lia),<- z6 qT (aD:=h.map (·.2)) (j.symm.map _) ?_,gr]
    ·rfl
    ·rw[tP]
     exact af.imp λ{S b} Y=>by show decide _=ax;exact decide_eq_false (by lia)
   rw[jH (w:=λr:cq=>r) (C:=ao) (T:=λr=>[.d r.2]) (a:=h.map λr=>.d r.2) h rfl (by exists aw;rfl) (i2 _ _) (λQ F=>?_) (by lia)]
   ·exists c,vL
    fail "q"
   ·show dt (.aK (jg ao (hB aD))) (.d Q.2)=_
    rw[OB,OS,ac3 n (j.mem_iff.mpr F)];rfl
def jj (aF:lu):List Nat:=gx [44,32] (aF.map iz)
theorem vu (a:fB){b:Nat}:∀(aF:fT),(∀N∈aF,N.length<=b)->(gx a aF).length<=aF.length*(b+a.length)
 |[],_=>jl _|[N],Y=>by
  have:=Y N ek;show N.length<=1*_
  lia
 |N::V::G,Y=>by
  have d:=vu a _ λI c=>Y I (fM _ c)
  have:=Y N ek;show(N++a++gx a _).length<=_
  rw[dq,dq,ee,Nat.add_mul,Nat.one_mul];lia
theorem P7 {aF:lu}(Y:∀G∈aF,j2 G):(jj aF).length<=aF.length*13:=by
 have:=vu [44,32]  _ λn a=>by obtain⟨G,b,rfl⟩:=e3.mp a;exact B6 (Y G b)
 rwa[ct]at this
theorem ac5 {a:bo}:∀{aF:fT},aF≠[]->(∀N∈aF,N≠[])->gx a aF≠[]
 |[],Y,_=>absurd rfl Y|[N],_,Y=>Y N ek|N::V::G,_,Y=>by show N++a++_≠[];simp[Y N ek]
theorem ac6 {G:hX}:iz G≠[]:=by unfold iz;simp
theorem P8 {aF:lu}(a:aF≠[]):jj aF≠[]:=ac5 (by simpa using a) λn b=>by obtain⟨G,_,rfl⟩:=e3.mp b;exact ac6
def hq (G:hX):ai:=.f (iz G)
instance:kR hq:=⟨λ_=>rfl⟩
theorem ac7 {aF:lu}{d:er}(f:aF≠[])(Y:∀G∈aF,j2 G)(C:rA d)(h:(aF.flatMap f5).Perm d):tv.cj [.f (jj aF)]=.i (ak ao d):=by
 have o:=C.s;have j:(aF.flatMap f5).length<=36:=by rw[h.length_eq];exact o
 have x:aF.length<=(aF.flatMap f5).length:=by
  clear j h f;induction aF with
  |nil=>exact cM _|cons G aF q=>
   have:=q λI r=>Y I (fM _ r)
   rw[ql,dq,ee];unfold f5 at *;rw[ct,qk];lia
 have z:=P7 Y;have bj:nR (jj aF) [.f [44,32]]=.i (ak hq aF):=(show ak hq aF=ak .f (aF.map iz) by unfold ak hq;rw[gr];rfl) ▸ HC (by decide +kernel) (by lia) (by simpa using f) (λn s=>by obtain⟨G,t,rfl⟩:=e3.mp s;exact P6 (Y G t) (by lia) (by lia) (by lia)) (by show(jj aF).length<=_;lia)
 have u:f3 ax (.f (jj aF)) (.f [])=.i (.aM ax):=by rw[n2];simp[P8 f]
 refine eB rfl rfl λaA c=>?_
 unfold Pa
 exists c,u,iP,tC,bj
 refine o5 (s:=aF) (d:=λG=>[hq G]) (λy e=>∃C,e=[E (.f (jj aF)),E (ak ao (y.flatMap f5)),C]) ⟨_,rfl⟩ (λy X G e m i=>?_) (λe i=>?_)
 ·obtain⟨C,rfl⟩:=i
  refine⟨_,by exists c;rfl,?_⟩
  have v:j2 X:=Y X (by rw[m];simp)
  have A:(y.flatMap f5).length+(f5 X).length<=36:=by
   rw[m,qj,ql,dq,dq]at j;lia
  have w:BF.cj [hq X]=.i (ak ao (f5 X)):=ac2 v
  exists c,w,Bp (g:=ao) (S:=y.flatMap f5) (b:=f5 X) (by lia)
  exact⟨_,_,rfl,.inl ⟨.inl rfl,E (hq X),by rw[qj,ql,yD,lC]⟩⟩
 ·obtain⟨bS,rfl⟩:=i
  exists c,ac4 C h
  fail "q"
def cz (r:fT):ai:=.au (.dI "Clauses" ["waiting"]) [ak .f r]
theorem P9 (r:fT):(ai.aK (cz r)).bO=.aK (cz r):=rfl
theorem P_ (r:fT):jC aP.c9 "waiting" (cz r)=.i (.aK (ak .f r)):=rfl
def Qa (Q:fB):ai:=.au .a_ ((Fm (Txt.partition ⟨Q.toArray⟩ ⟨[32].toArray⟩)).map .bO)
theorem ac8 {Q:bo}(Y:Q.length<=100000):jV.w .u7 Q [.f [32]]=.i (Qa Q):=by
 show Mo.dW _ _=_
 rw[Mo.lN ⟨by simp,Y⟩];rfl
theorem ac9 (Q:fB):dt (Qa Q) (.d 0)=.i (.f (gM 32 Q)):=by
 show iQ (ai.f _)=_
 rw[acX]
theorem vv {a:bf}{z h:Nat}{body:cE}{y:ai}{e:VI.aX}(b:a.length=z)(Y:aO.bb aP (ag a) body (a.map E++fV h k)=.i (.en y) e):cy aP z h body a=.i y (l0 a e):=by
 unfold cy;rw[if_pos b,Y]
theorem ac_ {Q:bo}{r:fT}{X:bo}(Y:Q.length<=100000):o7.cj [.aK (cz (Q::r)),.f X]=.i (.aM (decide (gM 32 Q=X))):=by
 refine eB rfl rfl λaA a=>?_
 unfold GX
 exists P9,P_,(show eb (Q::r) 0=E Q from Bd (qv 0) rfl),iP,ac8 Y,ac9
 fail "q"
section
variable {x:VI.aX}{Q X:bo}{r:fT}
theorem tE {O:Nat}{t:H}(a:e9 x O=.i (.aK (cz (Q::r))))(b:t.aZ aP x=.i (.f X))(Y:Q.length<=100000):H.aZ aP x (.eo [("Clauses",o7)] (.v O) "is_next" [t])=.i (.aM (decide (gM 32 Q=X))):=
 PV      (a:=[.f X]) a rfl rfl (by decide) (by exists b) (ac_ Y)
theorem ada (Q:fB)(Y:fT):AU [ak .f (Q::Y),.d 0]=.i (.f Q) [ak .f Y,.d 0]:=by
 show(if -(2 ^ 63)<=0/\(0:Int)<2 ^ 63 then(match h8 _ 0 with |some j=>(match((Q::Y).map ai.f)[j]? with |some y=>bY.i y _ |none=>.aQ)|none=>.aQ)else .aQ)=_
 have:h8 ((Q::Y).map ai.f).length 0=E 0:=by unfold h8;simp_all
 rw[this];rfl
theorem Qb (Y:Q.length<=100000)(a:gM 32 Q=X):p8 [cz (Q::r),.f X]=.i (.f Q) [cz r,.f X]:=by
 refine vv    (e:=[E (cz r),E (.f X)]) rfl ?_;unfold GY;rw[hQ (by rw[abX,tE    rfl rfl Y,decide_eq_true a];rfl)]
 exact Ow (j1 (V:=(0,[0]))    (cR:=ak _ r)  rfl rfl rfl (iy rfl) (ada Q r))
theorem yj {aD:fT}{z:Int}(Y:Q.length<=100000)(a:gM 32 Q=X)(b:eX 32 Q=aD)(c:(aD.length:Int)=z):kS [cz (Q::r),.f X,.d z]=.i (ak .f aD) [cz r,.f X,.d z]:=by
 have aN:cZ.aZ aP (.ku (.eF .split [(.D (.f [32]))]) (.eo [("Clauses",p8)] (.v 0) "take" [(.X (.v 1))])) [E (cz (Q::r)),E (.f X),E (.d z),k]=.i (ak .f aD) [E (cz r),E (.f X),E (.d z),k]:=by
  rw[Gy,tB (V:=(0,[])) (aJ:="Clauses") (c:=["waiting"])  (w:=("Clauses",p8)) (a:=[.f X]) (G:=.f Q) (cR:=cz r) (dc:=[.f X]) rfl rfl rfl (by decide) (iy rfl) (Qb Y a),jZ,Gz]
  show e6 (H.aZ aP _ (.eF .split (.D (.f Q)) [(.D (.f [32]))])) _ _=_
  have az:∀x:VI.aX,H.aZ aP x (.eF .split (.D (.f Q)) [(.D (.f [32]))])=.i (ak .f aD):=λx=>by
   exists iP,tC,B1 Y,b
  rw[az];exact hR _ i1
 have d:kS=cy aP 3 1 By:=rfl;rw[d];refine vv  (z:=3) (h:=1) (e:=[E (cz r),E (.f X),E (.d z),k]) rfl ?_;unfold By;show aO.bb aP _ (.cn 3 _::_) [E (cz (Q::r)),E (.f X),E (.d z),k]=_
 rw[kx aN rfl (by show 3<4;lia)]
 exists ih,decide_eq_true c
end
noncomputable def kB:bo:=[116,97,107,101]
noncomputable def ly:bo:=[112,105,99,107]
noncomputable def gN:bo:=[111,114,100,101,114]
noncomputable def mJ:bo:=[119,111,114,107]
noncomputable def jK:bo:=[98,114,101,97,107]
noncomputable def fU:bo:=[115,117,109]
noncomputable def oa:bo:=[112,114,105,110,116]
def lz (n:fB):List Nat:=n.map λQ=>if Q=32 then 95 else Q
abbrev fk (aD:fT):List Nat:=nH 32 aD
def i3 (N:gL):List Nat:=fk [ly,b1 N.1,lz N.2]
def jL:ji->fT
 |.aQ=>[]|.hU w=>[fk [kT,b1 w]]|.gB r z w g=>[fk [r,z,b1 w,b1 g]]
def e_ (av:er):List Nat:=gx [44,32] (av.map b1)
def dg (r:fB)(av:er):List Nat:=if av=[]then r else r++32::e_ av
def hD (r:hS):List Nat:=fk [mJ,b1 r.1,[61],b1 r.2.1,r.2.2.1,b1 r.2.2.2]
def i4 (n:fB):List Nat:=if n=[]then oa else oa++32::n
def c9 (p:eI)(n:fB):fT:=fk [kB,p.dF]::(p.c4.map i3++(jL p.cP++(dg gN p.cg::(p.dw.map hD++[fk [jK,cX p.c6],dg fU p.cD++ei++cX p.es,i4 n]))))
theorem vw {aD:fT}(Y:aD≠[])(w:∀r∈aD,(32:Nat)∉r):eX 32 (fk aD)=aD:=D3 32 aD Y w
theorem rB {r:bo}{aD:fT}(Y:(32:Nat)∉r):gM 32 (fk (r::aD))=r:=by
 cases aD with
 |nil=>exact HE Y|cons S aD=>exact HD Y
theorem adb (n:fB):(32:Nat)∉lz n:=λY=>by
 obtain⟨Q,_,e⟩:=e3.mp Y;grind
theorem B7 (n:fB):(lz n).length=n.length:=ct ..
theorem HF (s h:Nat):∀n:bo,nH h (eX s n)=n.map λQ=>if Q=s then h else Q
 |[]=>rfl|y::G=>by
  rw[eX,eR,<- (HF s h G)];by_cases e:y=s
  ·rw[if_pos e,if_pos e]
   cases I:eX s G with
   |nil=>exact absurd I (D2 s G)|cons N aF=>rfl
  ·rw[if_neg e,if_neg e]
   cases I:eX s G with
   |nil=>rfl|cons N aF=>cases aF<;>rfl
theorem ade {s h:Nat}{n:bo}(Y:n.length<=1000):nS.w (.mY s h) n=.i (.f (n.map λQ=>if Q=s then h else Q)):=by
 show Mo.dW _ _=_
 rw[Mo.lN (by lia),StrLaws.replace_one,D4,KL]
 exact congrArg (λn=>iQ _) (HF s h n)
theorem Qc {Q:Nat}(Y:Q∈iS):Q=32\/48<=Q/\Q<=57\/65<=Q/\Q<=90:=by revert Q;decide
theorem HG {Q:Nat}(Y:Q∈jJ):97<=Q/\Q<=122:=by revert Q;decide
theorem adf {n:bo}(b:n.length<=1000)(Y:∀Q∈n,Q∈iS):G2.cj [.f (lz n)]=.i (.f n):=by
 have e:((lz n).map λQ=>if Q=95 then 32 else Q)=n:=by
  unfold lz;rw[gr];refine(qi λQ a=>?_).trans (vM n)
  have:=Qc (Y Q a);grind
 refine eB rfl rfl λaA c=>?_
 unfold O5
 exists PX,ade  (by rwa[B7]),e
 fail "q"
structure HH (N:gL):Prop where
 w:fL N.1
 s:N.2.length<=36
 A:∀Q∈N.2,Q∈iS
theorem Qd {aA:i7}{Q:H}{b cT:cE}{e:VI.aX}:aO.bb aP aA (.p1 Q b::cT) e=jX (nf (λe=>(Q.aZ aP e).aC fz) (λe=>aO.bb aP aA b e) su e) λe=>aO.bb aP aA cT e:=by rw[aO.bb,aO.gm]
theorem adg {N:gL}(C:HH N):eX 32 (i3 N)=[ly,b1 N.1,lz N.2]/\gM 32 (i3 N)=ly/\(i3 N).length<=50:=by
 refine⟨vw (by simp) λr hw=>?_,rB (by decide),?_⟩
 ·simp only[df,gD,or_false]at hw
  rcases hw with rfl |rfl |rfl
  ·decide
  ·exact mI (fC C.w) (by lia) (by lia)
  exact adb _
 ·show(ly++32::(b1 _++32::lz _)).length<=50
  have:=(hC (fC C.w)).1;have:=C.s;rw[dq,ee,dq,ee,B7];show 4+_<=50
  lia
def p_ (dz:fT)(X:fB):Prop:=∃Q r,dz=Q::r/\Q.length<=100000/\gM 32 Q≠X
theorem adh {aF:List gL}{dz:fT}(J:aF.length<=8)(Y:∀N∈aF,HH N)(i:p_ dz ly):BA [cz (aF.map i3++dz)]=.i (ak cU aF) [cz dz]:=by
 have j:BA=cy aP 1 2 xW:=rfl;have l:∀aA:Nat->Bool,aA 1=ax->aA 2=ax->∃aN az,aO.bb aP aA xW [E (cz (aF.map i3++dz)),k,k]=.i (.en (ak cU aF)) [E (cz dz),aN,az]:=λaA b o=>by
  suffices I:bT (aO.bb aP aA xW [E (cz (aF.map i3++dz)),k,k]) λC e=>C=.en (ak cU aF)/\∃aN az,e=[E (cz dz),aN,az] by
   obtain⟨C,e,I,rfl,aN,az,rfl⟩:=I;exact⟨aN,az,I⟩
  unfold xW;rw[e0 (y:=ak cU []) (by exists Bo;rfl) b,Qd]
  refine OG (P:=λO e=>∃C,e=[E (cz ((aF.drop O).map i3++dz)),E (ak cU (aF.take O)),C]) aF.length (by lia) ⟨_,rfl⟩ λO e aB s=>?_
  obtain⟨C,rfl⟩:=s;rcases CG O aF.length with a |K
  ·right
   have t:aF.drop O=aF[O]::aF.drop (O+1):=rF a;have u:aF.take (O+1)=aF.take O++[aF[O]]:=H5 a;rw[t,u,eR,yC]
   generalize (aF.drop (O+1)).map i3++dz=r
   have C:=Y _ (rH a)
   generalize aF[O]=N at C
   have v:(aF.take O).length<=8:=by rw[lB];lia
   generalize aF.take O=y at v
   obtain⟨z,h,L⟩:=adg C;refine⟨a,by rw[tE (Q:=i3 N) (r:=r) (X:=ly) rfl rfl (by lia),decide_eq_true h];rfl,?_⟩
   rw[kx (tB (V:=(0,[])) (aJ:="Clauses") (c:=["waiting"]) (m:=[ak .f (i3 N::r)]) (w:=("Clauses",kS)) (a:=[.f ly,.d 3]) (cR:=cz r) (dc:=[.f ly,.d 3]) rfl rfl rfl (by decide) (yg rfl rfl) (yj (by lia) h z rfl)) o (by show 2<3;lia)]
   show bT (aO.bb aP aA _ [E (cz r),E (ak cU y),E (ak .f [ly,b1 N.1,lz N.2])]) _
   have A:eb [ly,b1 N.1,lz N.2] 1=E (b1 N.1):=rfl;have B:eb [ly,b1 N.1,lz N.2] 2=E (lz N.2):=rfl;have D:q9 [ak cU y,.au .a_ [ao N.1,.f N.2]]=.i .a9 [ak cU (y++[N]),.eO]:=j0 (X:=N) (by lia)
   have dC:(ai.au .a_ [ao N.1,.f N.2]).ed=ae:=Bn (g:=cU) N
   exists b,A,B,p9 C.w,adf (show N.2.length<=1000 by have:=C.s;lia) C.A,hT,D,dC
   exact⟨_,_,rfl,rfl,_,rfl⟩
  ·left
   have:O=aF.length:=by lia
   subst this;obtain⟨Q,r,rfl,F,G⟩:=i;rw[vI,yB,rJ,yF];refine⟨by rw[tE (Q:=Q) (r:=r) (X:=ly) rfl rfl F,decide_eq_false G];rfl,?_⟩
   exists b
   exact⟨_,_,rfl,rfl,_,_,rfl⟩
 obtain⟨aN,az,I⟩:=l (ag [cz (aF.map i3++dz)]) rfl rfl;rw[j];exact vv (a:=[cz (aF.map i3++dz)]) (z:=1) (h:=2) rfl I
theorem Qe {r:bo}(Y:r∈l6):(32:Nat)∉r/\r.length<=5:=by
 unfold l6 at Y;simp only[df,gD,or_false]at Y;rcases Y with rfl |rfl |rfl<;>decide
theorem adi {r:hS}(C:Hx r):eX 32 (hD r)=[mJ,b1 r.1,[61],b1 r.2.1,r.2.2.1,b1 r.2.2.2]/\gM 32 (hD r)=mJ/\(hD r).length<=40:=by
 obtain⟨a,b,c,d⟩:=C;refine⟨vw (by simp) λX e=>?_,rB (by decide),?_⟩
 ·simp only[df,gD,or_false]at e
  rcases e with rfl |rfl |rfl |rfl |rfl |rfl
  ·decide
  ·exact mI (fC a) (by lia) (by lia)
  ·decide
  ·exact mI (fC b) (by lia) (by lia)
  ·exact(Qe d).1
  ·exact mI (fC c) (by lia) (by lia)
 ·show(mJ++32::(b1 r.1++32::([61]++32::(b1 r.2.1++32::(r.2.2.1++32::b1 r.2.2.2))))).length<=40
  have:=(hC (fC a)).1;have:=(hC (fC b)).1;have:=(hC (fC c)).1;have:=(Qe d).2;simp only[dq,ee,vJ];show 4+_<=40
  lia
theorem adj {aF:n4}{dz:fT}(U:aF.length<=4)(Y:∀N∈aF,Hx N)(j:p_ dz mJ):BC [cz (aF.map hD++dz)]=.i (ak cm aF) [cz dz]:=by
 have l:BC=cy aP 1 2 xZ:=rfl;have o:∀aA:Nat->Bool,aA 1=ax->aA 2=ax->∃aN az,aO.bb aP aA xZ [E (cz (aF.map hD++dz)),k,k]=.i (.en (ak cm aF)) [E (cz dz),aN,az]:=λaA h s=>by
  suffices I:bT (aO.bb aP aA xZ [E (cz (aF.map hD++dz)),k,k]) λC e=>C=.en (ak cm aF)/\∃aN az,e=[E (cz dz),aN,az] by
   obtain⟨C,e,I,rfl,aN,az,rfl⟩:=I;exact⟨aN,az,I⟩
  unfold xZ;rw[e0 (y:=ak cm []) (by exists Bo;rfl) h,Qd]
  refine OG (P:=λO e=>∃C,e=[E (cz ((aF.drop O).map hD++dz)),E (ak cm (aF.take O)),C]) aF.length (by lia) ⟨_,rfl⟩ λO e aB t=>?_
  obtain⟨C,rfl⟩:=t;rcases CG O aF.length with b |V
  ·right
   have u:aF.drop O=aF[O]::aF.drop (O+1):=rF b;have v:aF.take (O+1)=aF.take O++[aF[O]]:=H5 b;rw[u,v,eR,yC]
   generalize (aF.drop (O+1)).map hD++dz=r
   have C:=Y _ (rH b)
   generalize aF[O]=N at C
   have z:(aF.take O).length<=8:=by rw[lB];lia
   generalize aF.take O=y at z
   obtain⟨A,i,X⟩:=adi C;obtain⟨B,D,F,Z⟩:=C;refine⟨b,by rw[tE (Q:=hD N) (r:=r) (X:=mJ) rfl rfl (by lia),decide_eq_true i];rfl,?_⟩
   rw[kx (tB (V:=(0,[])) (aJ:="Clauses") (c:=["waiting"]) (m:=[ak .f (hD N::r)]) (w:=("Clauses",kS)) (a:=[.f mJ,.d 6]) (cR:=cz r) (dc:=[.f mJ,.d 6]) rfl rfl rfl (by decide) (yg rfl rfl) (yj (by lia) i A rfl)) s (by show 2<3;lia)]
   generalize a:[mJ,b1 N.1,[61],b1 N.2.1,N.2.2.1,b1 N.2.2.2]=W
   show bT (aO.bb aP aA _ [E (cz r),E (ak cm y),E (ak .f W)]) _
   have G:eb W 1=E (b1 N.1):=by rw[<- a];rfl
   have J:eb W 2=E [61]:=by rw[<- a];rfl
   have K:eb W 3=E (b1 N.2.1):=by rw[<- a];rfl
   have L:eb W 4=E N.2.2.1:=by rw[<- a];rfl
   have M:eb W 5=E (b1 N.2.2.2):=by rw[<- a];rfl
   have az:f3 ae (.f [61]) (.f [61])=.i (.aM ax):=by rw[n2];simp
   have R:q9 [ak cm y,.au .a_ [ao N.1,ao N.2.1,.f N.2.2.1,ao N.2.2.2]]=.i .a9 [ak cm (y++[N]),.eO]:=j0 (X:=N) (by lia)
   have dC:(ai.au .a_ [ao N.1,ao N.2.1,.f N.2.2.1,ao N.2.2.2]).ed=ae:=Bn (g:=cm) N
   exists h,G,J,K,L,M,az,p9 B,p9 D,p9 F,hT,R,dC
   exact⟨_,_,rfl,rfl,_,rfl⟩
  ·left
   have:O=aF.length:=by lia
   subst this;obtain⟨Q,r,rfl,S,T⟩:=j;rw[vI,yB,rJ,yF];refine⟨by rw[tE (Q:=Q) (r:=r) (X:=mJ) rfl rfl S,decide_eq_false T];rfl,?_⟩
   exists h
   exact⟨_,_,rfl,rfl,_,_,rfl⟩
 obtain⟨aN,az,I⟩:=o (ag [cz (aF.map hD++dz)]) rfl rfl;rw[l];exact vv (a:=[cz (aF.map hD++dz)]) (z:=1) (h:=2) rfl I
theorem Qf {z:Int}(a:0<=z)(Y:z<=40):BD.cj [.f (cX z)]=.i (.d z):=by
 refine eB rfl rfl λaA b=>?_
 unfold O7
 exists b,(kA a Y).2.2
 fail "q"
def vx (w:cq):ai:=.f (b1 w)
instance:kR vx:=⟨λ_=>rfl⟩
theorem Qg {av:er}(Y:∀w∈av,fL w):(e_ av).length<=av.length*7:=by
 have:=vu [44,32]  _ λn a=>by obtain⟨G,b,rfl⟩:=e3.mp a;exact(hC (fC (Y G b))).1
 rwa[ct]at this
theorem HI {r:bo}{av:er}(hw:r.length<=10)(j:av.length<=40)(Y:∀w∈av,fL w):xY.cj [.f (dg r av),.f r]=.i (ak ao av):=by
 refine eB rfl rfl λaA a=>?_
 unfold O6;have c:mx [.f r]=.i (.d r.length):=yf (by lia)
 by_cases b:av=[]
 ·subst b
  exists a,n2,show dg r []=r from if_pos rfl,decide_true,Bo
  fail "q"
 ·have d:dg r av=r++32::e_ av:=if_neg b
  have e:¬r++32::e_ av=r:=λI=>by simp_all
  have l:=Qg Y;have aw:la (.f (r++32::e_ av)) (E ((r.length:Int)+1)) k=.i (.f (e_ av)):=by
   show(Mo.eS _ _)=_
   rw[Mo.nI (by rw[dq,ee];lia),uG (by lia),show((r.length:Int)+1).toNat=r.length+1 by lia,<- It,CC]
   rfl
  have bj:nR (e_ av) [.f [44,32]]=.i (ak vx av):=(show ak vx av=ak .f (av.map b1) by unfold ak vx;rw[gr];rfl) ▸ HC (by decide +kernel) (by lia) (by simpa using b) (λn g=>by obtain⟨G,h,rfl⟩:=e3.mp g;exact mI (fC (Y G h)) (by lia) (by lia)) (by show(e_ av).length<=_;lia)
  exists a,d,n2,decide_eq_false e
  rw[jH (w:=λw:cq=>w) (C:=ao) (T:=λw=>[vx w]) (a:=av.map vx) av rfl (by exists c,aw,iP,tC,bj) (by rw[i2]) (λw i=>by exists p9;exact p9 (Y w i)) (by lia),vL]
  exists a
  fail "q"
theorem adk {n:bo}{b:er}(i:n.length<=1000)(f:n=[]->b=[])(g:n≠[]->tv.cj [.f n]=.i (ak ao b)):G4.cj [.f (i4 n)]=.i (ak ao b):=by
 refine eB rfl rfl λaA c=>?_
 unfold Pb;by_cases a:n=[]
 ·subst a
  rw[f rfl]
  exists c,e,Bo
  fail "q"
 ·have d:i4 n=oa++32::n:=if_neg a
  have aN:f3 ax (.f (i4 n)) (.f [112,114,105,110,116])=.i (.aM ax):=by
   rw[n2,d];rfl
  have az:mx [.f [112,114,105,110,116,32]]=.i (.d 6):=rfl;have aw:la (.f (i4 n)) (E 6) k=.i (.f n):=by
   rw[d];show(Mo.eS _ _)=_
   rw[Mo.nI (by rw[dq,ee];show 5+(n.length+1)<=_;lia),uG (by lia)]
   rfl
  have h:f3 ax (.f n) (.f [])=.i (.aM ax):=by rw[n2];simp[a]
  exists c,aN,az,aw,h,g a
  fail "q"
theorem adl {h:ji}{R:bo}{dz:fT}(s:o8 R h)(bC:p_ dz n5)(bR:p_ dz n6)(S:p_ dz kT):BB [cz (jL h++dz)]=.i (dX h) [cz dz]:=by
 have T:BB=cy aP 1 2 xX:=rfl;have N:∀z:bo,mH z->(32:Nat)∉z/\z.length<=8:=λz Y=>⟨λI=>by have:=HG (Y.2.2 _ I);lia,Y.2.1⟩
 obtain⟨Q,r,ec,u,D,O,F⟩:∃Q r,jL h++dz=Q::r/\Q.length<=100000/\(∀X z w g,h=.gB X z w g->gM 32 Q=X/\eX 32 Q=[X,z,b1 w,b1 g]/\r=dz)/\(∀w,h=.hU w->gM 32 Q=kT/\eX 32 Q=[kT,b1 w]/\r=dz)/\(h=.aQ->gM 32 Q≠n5/\gM 32 Q≠n6/\gM 32 Q≠kT/\Q::r=dz):=by
  cases h with
  |aQ=>
   obtain⟨Q,r,rfl,U,V⟩:=bC;obtain⟨cR,W,e,_,Z⟩:=bR;cases e;obtain⟨cR,W,e,_,aa⟩:=S;cases e;exact⟨Q,r,rfl,U,λ_ _ _ _ I=>(nomatch I),λ_ I=>(nomatch I),λ_=>⟨V,Z,aa,rfl⟩⟩
  |hU w=>
   refine⟨fk [kT,b1 w],dz,rfl,?_,λ_ _ _ _ I=>(nomatch I),λar I=>?_,λI=>(nomatch I)⟩
   ·show(kT++32::b1 w).length<=_
    have:=(hC (fC s)).1;rw[dq,ee];show 5+_<=_;lia
   ·cases I
    refine⟨rB (by decide),vw (by simp) λX a=>?_,rfl⟩
    simp only[df,gD,or_false]at a;rcases a with rfl |rfl
    ·decide
    ·exact mI (fC s) (by lia) (by lia)
  |gB X z w g=>
   obtain⟨ab,af,_,v,A,_⟩:=s;have a:(32:Nat)∉X/\X.length<=7:=by rcases ab with rfl |rfl<;>decide
   refine⟨fk [X,z,b1 w,b1 g],dz,rfl,?_,λ_ _ _ _ I=>?_,λ_ I=>(nomatch I),λI=>(nomatch I)⟩
   ·show(X++32::(z++32::(b1 w++32::b1 g))).length<=_
    have:=(hC (fC v)).1;have:=(hC (fC A)).1;have:=(N z af).2;simp only[dq,ee];lia
   ·cases I
    refine⟨rB a.1,vw (by simp) λt j=>?_,rfl⟩
    simp only[df,gD,or_false]at j;rcases j with rfl |rfl |rfl |rfl
    ·exact a.1
    ·exact(N _ af).1
    ·exact mI (fC v) (by lia) (by lia)
    ·exact mI (fC A) (by lia) (by lia)
 have ac:∀aA:Nat->Bool,aA 1=ax->aA 2=ax->∃aN az,aO.bb aP aA xX [E (cz (jL h++dz)),k,k]=.i (.en (dX h)) [E (cz dz),aN,az]:=λaA P ah=>by
  suffices I:bT (aO.bb aP aA xX [E (cz (jL h++dz)),k,k]) λC e=>C=.en (dX h)/\∃aN az,e=[E (cz dz),aN,az] by
   obtain⟨C,e,I,rfl,aN,az,rfl⟩:=I;exact⟨aN,az,I⟩
  rw[ec];unfold xX;have aj:∀x,H.aZ aP x (.hx "MATING_WORDS" [n5,n6])=.i (.au .iu ([n5,n6].map .f)):=λx=>OF _ _ (by decide)
  refine Bg (y:=.au .iu ([n5,n6].map .f)) (s:=[n5,n6]) (d:=λX=>[.f X]) (c:=[n5,n6].map .f) (aN:=[E (cz (Q::r)),k,k]) (λy e=>(∃C,e=[E (cz (Q::r)),C,k])/\∀X∈y,gM 32 Q≠X) (by rw[show H.aZ aP [E (cz (Q::r)),k,k] (.hx "MATING_WORDS" [[109,97,116,101,115],[119,105,116,104,111,117,116]])=_ from aj _];exact hR _ (by rfl)) rfl (by rw[i2]) ⟨⟨_,rfl⟩,λX a=>(nomatch a)⟩ (λy X G e al J=>?_) (λe J=>?_)
  ·obtain⟨⟨C,rfl⟩,K⟩:=J
   refine⟨[E (cz (Q::r)),E (.f X),k],by show(if aA 1=ax/\_ then _ else _)=_;rw[if_pos ⟨P,by show 1<3;lia⟩];rfl,?_⟩
   have a:X=n5\/X=n6:=by
    have:X∈[n5,n6]:=by rw[al];simp
    simpa using this
   have b:=tE (x:=[E (cz (Q::r)),E (.f X),k]) (Q:=Q) (r:=r) (X:=X) (O:=0) (t:=.v 1) rfl rfl u;by_cases o:gM 32 Q=X
   ·rw[decide_eq_true o]at b
    rw[mG (by rw[b];rfl)]
    obtain⟨z,w,g,rfl⟩:∃z w g,h=.gB X z w g:=by
     cases h with
     |aQ=>exact absurd o (by rcases a with rfl |rfl;exact(F rfl).1;exact(F rfl).2.1)|hU w=>rw[(O w rfl).1]at o;rcases a with rfl |rfl<;>cases o
     |gB t z w g=>rw[(D _ _ _ _ rfl).1]at o;subst o;exact⟨z,w,g,rfl⟩
    obtain⟨B,L,rfl⟩:=D _ _ _ _ rfl;obtain⟨_,af,_,v,A,_⟩:=s;show bT (aO.bb aP aA (.cn 2 _::_) _) _
    rw[kx (tB (V:=(0,[])) (aJ:="Clauses") (c:=["waiting"]) (m:=[ak .f (Q::r)]) (w:=("Clauses",kS)) (a:=[.f X,.d 4]) (cR:=cz r) (dc:=[.f X,.d 4]) rfl rfl rfl (by decide) (yg rfl rfl) (yj u B L rfl)) ah (by show 2<3;lia)]
    show bT (aO.bb aP aA [.cJ _] [E (cz r),E (.f X),E (ak .f [X,z,b1 w,b1 g])]) _
    have M:eb [X,z,b1 w,b1 g] 1=E z:=rfl;have am:eb [X,z,b1 w,b1 g] 2=E (b1 w):=rfl;have an:eb [X,z,b1 w,b1 g] 3=E (b1 g):=rfl
    exists M,am,an,p9 v,p9 A,hT
    exact⟨_,_,rfl,.inr ⟨⟨_,rfl⟩,rfl,_,_,rfl⟩⟩
   ·rw[decide_eq_false o]at b
    rw[hQ (by rw[b];rfl)]
    exact⟨_,_,rfl,.inl ⟨.inl rfl,⟨_,rfl⟩,λt j=>by
     rcases g0.mp j with j |j
     ·exact K t j
     ·rw[fv.mp j];exact o⟩⟩
  ·obtain⟨⟨C,rfl⟩,K⟩:=J
   have b:=tE (x:=[E (cz (Q::r)),C,k]) (Q:=Q) (r:=r) (X:=kT) (O:=0) (t:=.D (.f kT)) rfl rfl u;cases h with
   |gB X z w g=>exact absurd (D _ _ _ _ rfl).1 (K X (by rcases s.1 with rfl |rfl<;>simp))|aQ=>
    obtain⟨_,_,ap,rfl⟩:=F rfl;rw[decide_eq_false ap]at b;rw[hQ (by rw[show H.aZ aP [E (cz (Q::r)),C,k] (.eo [("Clauses",o7)] (.v 0) "is_next" [(.D (.f [102,105,114,115,116]))])=_ from b];rfl)]
    exists P
    exact⟨_,_,rfl,rfl,_,_,rfl⟩
   |hU w=>
    obtain⟨B,L,rfl⟩:=O w rfl;rw[decide_eq_true B]at b;rw[mG (by rw[show H.aZ aP [E (cz (Q::r)),C,k] (.eo [("Clauses",o7)] (.v 0) "is_next" [(.D (.f [102,105,114,115,116]))])=_ from b];rfl)]
    have M:eb [kT,b1 w] 1=E (b1 w):=rfl;have aN:cZ.aZ aP (.aT .fj (.eo [("Clauses",kS)] (.v 0) "take_words" [(.X (.D (.f [102,105,114,115,116]))),(.X (.z 2))]) (.bq (.z 1))) [E (cz (Q::r)),C,k]=.i (.f (b1 w)) [E (cz r),C,k]:=by
     rw[OJ,tB (V:=(0,[])) (aJ:="Clauses") (c:=["waiting"]) (m:=[ak .f (Q::r)]) (w:=("Clauses",kS)) (a:=[.f kT,.d 2]) (cR:=cz r) (dc:=[.f kT,.d 2]) rfl rfl rfl (by decide) (yg rfl rfl) (yj u B L rfl),jZ]
     exists M
     rfl
    have az:cZ.aZ aP (.ku (.b7 vs "read_field" []) (.aT .fj (.eo [("Clauses",kS)] (.v 0) "take_words" [(.X (.D (.f [102,105,114,115,116]))),(.X (.z 2))]) (.bq (.z 1)))) [E (cz (Q::r)),C,k]=.i (ao w) [E (cz r),C,k]:=by
     rw[Gy,aN,jZ,Gz];have aq:∀x:VI.aX,H.aZ aP x (jE.X (.b7 vs "read_field" []) (.D (.f (b1 w))))=.i (ao w):=λx=>by
      unfold jE.X
      exists p9 s
     rw[aq];exact hR _ (hT w)
    show bT (aO.bb aP aA (.cJ (.tk _ _)::_) _) _
    rw[aO.bb,aO.gm,ab0,az,jZ];exact⟨_,_,rfl,rfl,_,_,rfl⟩
 obtain⟨aN,az,I⟩:=ac (ag [cz (jL h++dz)]) rfl rfl;rw[T];exact vv (a:=[cz (jL h++dz)]) (z:=1) (h:=2) rfl I
section
variable {x aN:VI.aX}{w:b0}{cI:Str}{N:dS}{V:hg}{S pI G y:ai}{X:H}{Q b t:bo}{r aD:fT}{z:Int}
theorem HJ (a:dS.aZ aP x N=.i V)(b:d3 x V=E S)(c:w [S]=.i G [pI]):cZ.aZ aP (.b7 w cI [(.s N)]) x=.i G (eZ x V pI):=by
 rw[cZ.aZ,(show eh aP x _=.i _ x by unfold eh;rw[a];rfl),jZ]
 unfold gY;have az:ie x [.s V]=E [S]:=by
  show(d3 x V).bind (λQ=>E [Q])=_
  rw[b];rfl
 rw[az];show(if _ then(match w _ with |.i G dc=>bY.i G _ |.aW X dc=>_ |.aQ=>_)else _)=_
 rw[c];rfl
theorem adm (a:e6 (X.aZ aP x) x X.eg=.i y x)(b:w [y]=.i G [pI]):cZ.aZ aP (.b7 w cI [(.X X)]) x=.i G x:=by
 rw[cZ.aZ,iy a,jZ];unfold gY;show(if _ then(match w [y]with |.i G dc=>bY.i G _ |.aW X dc=>_ |.aQ=>_)else _)=_
 rw[b];trivial
theorem HK (a:dS.aZ aP x (.v 0)=.i (0,[]))(b:d3 x (0,[])=E (cz (Q::r)))(c:Q.length<=100000)(d:gM 32 Q=t):cZ.aZ aP (.eo [("Clauses",p8)] (.v 0) "take" [(.X (.D (.f t)))]) x=.i (.f Q) (eZ x (0,[]) (cz r)):=
 tB         a b rfl (by decide) (iy rfl) (Qb c d)
theorem Qh (a:dS.aZ aP x (.v 0)=.i (0,[]))(c:d3 x (0,[])=E (cz (Q::r)))(d:Q.length<=100000)(e:gM 32 Q=t)(f:eX 32 Q=aD)(g:(aD.length:Int)=z)(h:eb aD 1=E b):cZ.aZ aP (.aT .fj (.eo [("Clauses",kS)] (.v 0) "take_words" [(.X (.D (.f t))),(.X (.z z))]) (.bq (.z 1))) x=.i (.f b) (eZ x (0,[]) (cz r)):=by
 rw[OJ,tB         a c rfl (by decide) (yg rfl rfl) (yj d e f g)]
 exists h
theorem B8 {p:jE}{t:cZ}(Y:cZ.aZ aP t x=.i (.f b) aN)(af:H.aZ aP aN (p.X (.D (.f b)))=.i y)(a:y.ed=ae):cZ.aZ aP (.ku p t) x=.i y aN:=by
 rw[Gy,Y,jZ,Gz,af];exact hR _ a
end
theorem adn:x_.cj [.aK (cz [])]=.i .a9:=by
 have e:f3 ae (ak .f []) (.au .aG [])=.i (.aM ax):=rfl;refine eB rfl rfl λaA a=>?_
 unfold G5
 exists a,P9,P_,e
 fail "q"
theorem HL (p:eI):(dN p).ed=ae:=by
 show ai.k8 _=ae
 unfold BW;simp only[Gs,Gu,Gr,OE,i1,BZ,vE]
theorem ado {p:eI}(Y:hW p):pQ BN "Asking" [.f p.dF,.aK (ak cU p.c4),dX p.cP,.aK (ak ao p.cg),.aK (ak cm p.dw),.d p.c6,.aK (ak ao p.cD),.d p.es,.aK (ak ao p.ff)]=.i (dN p):=by
 obtain⟨a,aB⟩:=acR Y;unfold pQ;simp only[eR,rJ,n0,Ox,abG,(tA _),aB]
theorem B9 {Q:bo}{r:fT}{X t:bo}(a:Q.length<=100000)(Y:gM 32 Q=t)(b:t≠X):p_ (Q::r) X:=⟨Q,r,rfl,a,by rwa[Y]⟩
theorem adp {r:bo}{av:er}(Y:(32:Nat)∉r):gM 32 (dg r av)=r:=by
 unfold dg;split
 ·exact HE Y
 exact HD Y
theorem B_ {r:bo}{av:er}(hw:r.length<=5)(a:av.length<=40)(Y:∀w∈av,fL w):(dg r av).length<=300:=by
 unfold dg;have:=Qg Y;grind
theorem HM {p:eI}(Y:hW p):∀N∈p.c4,HH N:=λN c=>by
 obtain⟨cV,d,f⟩:=Y.c4;obtain⟨C,e⟩:=f N c;refine⟨C,?_,λQ a=>?_⟩
 ·rw[e,ct,oF];obtain⟨S,b,Q⟩:=C;lia
 rw[e]at a;obtain⟨X,_,rfl⟩:=e3.mp a;exact d X
def qa (p:eI):List Nat:=dg fU p.cD++(ei++cX p.es)
def ob (p:eI)(n:fB):fT:=[fk [jK,cX p.c6],qa p,i4 n]
theorem adq (p:eI)(n:fB):c9 p n=fk [kB,p.dF]::(p.c4.map i3++(jL p.cP++(dg gN p.cg::(p.dw.map hD++ob p n)))):=by
 unfold c9 ob qa;rw[od]
theorem ads (p:eI):gM 32 (qa p)=fU:=by
 unfold qa dg;split
 ·rfl
 trivial
theorem adt (n:fB):gM 32 (i4 n)=oa:=by
 unfold i4;split
 ·rfl
 rfl
theorem adu {p:eI}{n:bo}(Y:hW p)(v:n.length<=1000)(x:n=[]->p.ff=[])(A:n≠[]->tv.cj [.f n]=.i (ak ao p.ff)):BP [cz (c9 p n)]=.i (dN p) [cz []]:=by
 have B:BP=cy aP 1 10 BO:=rfl;have D:(32:Nat)∉p.dF:=λI=>by have:=HG (Y.cI.2.2 _ I);lia
 have W:=Y.cI.2.1;have k2:=Y.c6;have kK:=Y.es;have F:=kA (z:=p.c6) (by lia) (by lia)
 have l:=kA (z:=p.es) (by lia) (by lia)
 have G:(fk [kB,p.dF]).length<=100000:=by show(kB++32::p.dF).length<=_;rw[dq,ee];show 4+_<=_;lia
 have Z:(dg gN p.cg).length<=300:=B_ (by decide) (by have:=Y.ky;lia) Y.cg
 have o:(fk [jK,cX p.c6]).length<=100000:=by show(jK++32::cX p.c6).length<=_;rw[dq,ee];have:=F.1.1;show 5+_<=_;lia
 have aa:(qa p).length<=310:=by
  have:=B_ (r:=fU) (by decide) (show p.cD.length<=40 by have:=Y.sl;lia) Y.cD
  have:=l.1.1;unfold qa;rw[dq,dq];show _+(4+_)<=_;lia
 have J:(i4 n).length<=100000:=by
  unfold i4;split
  ·decide
  ·rw[dq,ee];show 5+_<=_;lia
 have r:gM 32 (dg gN p.cg)=gN:=adp (by decide)
 have t:gM 32 (fk [jK,cX p.c6])=jK:=rB (by decide)
 have K:∀X,jK≠X->p_ (ob p n) X:=λX c=>B9 o t c
 have h:∀X,gN≠X->p_ (dg gN p.cg::(p.dw.map hD++ob p n)) X:=λX c=>B9 (by lia) r c
 have L:p_ (jL p.cP++(dg gN p.cg::(p.dw.map hD++ob p n))) ly:=by
  have i:=Y.cP
  revert i
  cases p.cP with
  |aQ=>exact λ_=>h _ (by decide)|hU w=>
   intro i;refine B9 (t:=kT) ?_ (rB (by decide)) (by decide)
   show(kT++32::b1 w).length<=_
   have:=(hC (fC i)).1;rw[dq,ee];show 5+_<=_;lia
  |gB X z w g=>
   rintro⟨ab,af,_,M,N,_⟩;refine B9 (t:=X) ?_ (rB (by rcases ab with rfl |rfl<;>decide)) (by rcases ab with rfl |rfl<;>decide)
   show(X++32::(z++32::(b1 w++32::b1 g))).length<=_
   have:=(hC (fC M)).1;have:=(hC (fC N)).1;have:=af.2.1;have:X.length<=7:=by rcases ab with rfl |rfl<;>decide
   simp only[dq,ee];lia
 have P:∀aA:Nat->Bool,(∀O,O≠0->aA O=ax)->∃e,aO.bb aP aA BO [E (cz (c9 p n)),k,k,k,k,k,k,k,k,k,k]=.i (.en (dN p)) (E (cz [])::e):=λaA a=>by
  rw[adq];unfold BO;rw[kx (Qh (t:=[116,97,107,101]) (z:=2) rfl rfl G (rB (by decide)) (vw (by simp) λX c=>by
   simp only[df,gD,or_false]at c;rcases c with rfl |rfl
   ·decide
   ·exact D) rfl rfl) (a 1 (by lia)) (by show 1<11;lia)]
  show∃e,aO.bb aP aA _ [E (cz (p.c4.map i3++(jL p.cP++(dg gN p.cg::(p.dw.map hD++ob p n))))),E (.f p.dF),k,k,k,k,k,k,k,k,k]=_
  rw[kx (HJ (V:=(0,[])) rfl rfl (adh Y.iW (HM Y) L)) (a 2 (by lia)) (by show 2<11;lia)]
  show∃e,aO.bb aP aA _ [E (cz (jL p.cP++(dg gN p.cg::(p.dw.map hD++ob p n)))),E (.f p.dF),E (ak cU p.c4),k,k,k,k,k,k,k,k]=_
  rw[kx (HJ (V:=(0,[])) rfl rfl (adl Y.cP (h _ (by decide)) (h _ (by decide)) (h _ (by decide)))) (a 3 (by lia)) (by show 3<11;lia)]
  show∃e,aO.bb aP aA _ [E (cz (dg gN p.cg::(p.dw.map hD++ob p n))),E (.f p.dF),E (ak cU p.c4),E (dX p.cP),k,k,k,k,k,k,k]=_
  rw[kx (B8 (HK (t:=[111,114,100,101,114]) rfl rfl (by lia) r) (y:=ak ao p.cg) (by unfold jE.X;exists HI (r:=gN) (by decide) (show p.cg.length<=40 by have:=Y.ky;lia) Y.cg;exact HI (r:=gN) (by decide) (show p.cg.length<=40 by have:=Y.ky;lia) Y.cg) i1) (a 4 (by lia)) (by show 4<11;lia)]
  show∃e,aO.bb aP aA _ [E (cz (p.dw.map hD++ob p n)),E (.f p.dF),E (ak cU p.c4),E (dX p.cP),E (ak ao p.cg),k,k,k,k,k,k]=_
  rw[kx (HJ (V:=(0,[])) rfl rfl (adj Y.l7 Y.dw (K _ (by decide)))) (a 5 (by lia)) (by show 5<11;lia)]
  show∃e,aO.bb aP aA _ [E (cz (ob p n)),E (.f p.dF),E (ak cU p.c4),E (dX p.cP),E (ak ao p.cg),E (ak cm p.dw),k,k,k,k,k]=_
  unfold ob;rw[kx (B8 (Qh (t:=[98,114,101,97,107]) (z:=2) rfl rfl o t (vw (by simp) λX c=>by
   simp only[df,gD,or_false]at c;rcases c with rfl |rfl
   ·decide
   ·exact yh (by lia) (by lia) (by lia)) rfl rfl) (y:=.d p.c6) (by unfold jE.X;exists Qf (z:=p.c6) (by lia) (by lia)) (OE _)) (a 6 (by lia)) (by show 6<11;lia)]
  show∃e,aO.bb aP aA _ [E (cz [qa p,i4 n]),E (.f p.dF),E (ak cU p.c4),E (dX p.cP),E (ak ao p.cg),E (ak cm p.dw),E (.d p.c6),k,k,k,k]=_
  have R:jV.w .q5 (qa p) [.f [32,105,110,32]]=.i (.au .a_ [.f (dg fU p.cD),.f ei,.f (cX p.es)]):=by
   show Mo.dW ([32,105,110,32]≠[]/\(qa p).length<=100000) (iQ (ai.au .a_ ((Fm (Txt.rpartition ⟨(dg fU p.cD++(ei++cX p.es)).toArray⟩ ⟨ei.toArray⟩)).map .bO)))=_
   rw[Mo.lN ⟨by simp,by lia⟩,q5 l.1.2.2];rfl
  rw[kx (B8 (HK (t:=[115,117,109]) rfl rfl (by lia) (ads p)) (y:=.au .a_ [.f (dg fU p.cD),.f ei,.f (cX p.es)]) (by unfold jE.X;exists iP,R) rfl) (a 7 (by lia)) (by show 7<11;lia)]
  show∃e,aO.bb aP aA _ [E (cz [i4 n]),E (.f p.dF),E (ak cU p.c4),E (dX p.cP),E (ak ao p.cg),E (ak cm p.dw),E (.d p.c6),E (.au .a_ [.f (dg fU p.cD),.f ei,.f (cX p.es)]),k,k,k]=_
  have u:dt (.au .a_ [.f (dg fU p.cD),.f ei,.f (cX p.es)]) (.d 0)=.i (.f (dg fU p.cD)):=rfl;have cv:dt (.au .a_ [.f (dg fU p.cD),.f ei,.f (cX p.es)]) (.d 2)=.i (.f (cX p.es)):=rfl;have j:∀(S b Q y e w g:jA) (s:VI.aX),e9 (S::b::Q::y::e::w::g::E (.au .a_ [.f (dg fU p.cD),.f ei,.f (cX p.es)])::s) 7=.i (.au .a_ [.f (dg fU p.cD),.f ei,.f (cX p.es)]):=λ_ _ _ _ _ _ _ _=>rfl
  have aw:xY.cj [.f (dg fU p.cD),.f [115,117,109]]=.i (ak ao p.cD):=HI (r:=fU) (by decide) (show p.cD.length<=40 by have:=Y.sl;lia) Y.cD
  generalize ai.au .a_ [.f (dg fU p.cD),.f ei,.f (cX p.es)]=T at u cv j
  rw[e0 (y:=ak ao p.cD) (by exists j,u,aw) (a 8 (by lia))]
  show∃e,aO.bb aP aA _ [E (cz [i4 n]),E (.f p.dF),E (ak cU p.c4),E (dX p.cP),E (ak ao p.cg),E (ak cm p.dw),E (.d p.c6),E T,E (ak ao p.cD),k,k]=_
  rw[e0 (y:=.d p.es) (by exists j,cv,Qf (z:=p.es) (by lia) (by lia)) (a 9 (by lia))]
  show∃e,aO.bb aP aA _ [E (cz [i4 n]),E (.f p.dF),E (ak cU p.c4),E (dX p.cP),E (ak ao p.cg),E (ak cm p.dw),E (.d p.c6),E T,E (ak ao p.cD),E (.d p.es),k]=_
  rw[kx (B8 (HK (t:=[112,114,105,110,116]) rfl rfl J (adt n)) (y:=ak ao p.ff) (by unfold jE.X;exists adk v x A) i1) (a 10 (by lia)) (by show 10<11;lia)]
  show∃e,aO.bb aP aA _ [E (cz []),E (.f p.dF),E (ak cU p.c4),E (dX p.cP),E (ak ao p.cg),E (ak cm p.dw),E (.d p.c6),E T,E (ak ao p.cD),E (.d p.es),E (ak ao p.ff)]=_
  have U:H.aZ aP [E (cz []),E (.f p.dF),E (ak cU p.c4),E (dX p.cP),E (ak ao p.cg),E (ak cm p.dw),E (.d p.c6),E T,E (ak ao p.cD),E (.d p.es),E (ak ao p.ff)] (.eo [("Clauses",x_)] (.v 0) "check_end" [])=.i .a9:=PV (y:=.aK (cz [])) (aJ:="Clauses") (c:=["waiting"]) (m:=[ak .f []]) (w:=("Clauses",x_)) (a:=[]) rfl rfl rfl (by decide) rfl adn
  rw[abD (by rw[lq,U];exact hR _ abV)]
  have V:=tA p.cP
  exists V,ado Y,HL
  exact⟨_,rfl⟩
 obtain⟨e,I⟩:=P (ag [cz (c9 p n)]) (λO aB=>by cases O with |zero=>exact absurd rfl aB |succ O=>rfl)
 rw[B];exact vv (a:=[cz (c9 p n)]) (z:=1) (h:=10) rfl I
theorem Qi {Q:Nat}(Y:Q≠32):∀{aD:fT},(∀r∈aD,Q∉r)->Q∉nH 32 aD
 |[],_=>λI=>nomatch I|[r],w=>w r ek|r::v::aD,w=>λI=>by
  rcases g0.mp (I)with I |I
  ·exact w r ek I
  ·rcases df.mp I with I |I
   ·exact Y I
   exact Qi Y (λX a=>w X (fM _ a)) I
theorem HN {Q:Nat}{a:bo}(Y:Q∉a):∀{aD:fT},(∀r∈aD,Q∉r)->Q∉gx a aD
 |[],_=>λI=>nomatch I|[r],w=>w r ek|r::v::aD,w=>λI=>by
  rcases g0.mp (I)with I |I
  ·rcases g0.mp I with I |I
   ·exact w r ek I
   exact Y I
  exact HN Y (λX b=>w X (fM _ b)) I
theorem Qj {w:cq}(Y:fL w):(59:Nat)∉b1 w:=mI (fC Y) (by lia) (by lia)
theorem Qk {z:Int}(a:0<=z)(Y:z<=40):(59:Nat)∉cX z:=yh a Y (by lia)
theorem adv {z:bo}(Y:mH z):(59:Nat)∉z:=λI=>by have:=HG (Y.2.2 _ I);lia
theorem Ql {r:bo}{av:er}(hw:(59:Nat)∉r)(Y:∀w∈av,fL w):(59:Nat)∉dg r av:=by
 unfold dg;split
 ·exact hw
 ·refine λI=>?_
  rcases g0.mp I with I |I
  ·exact hw I
  ·rcases df.mp I with I |I
   ·cases I
   exact HN (by decide) (λX a=>by obtain⟨w,b,rfl⟩:=e3.mp a;exact Qj (Y w b)) I
theorem HO {p:eI}{n:bo}(Y:hW p)(A:n.length<=900)(m:(59:Nat)∉n):∀Q∈c9 p n,(59:Nat)∉Q/\Q.length<=1000:=by
 have k2:=Y.c6;have kK:=Y.es;intro Q a;unfold c9 at a;simp only[df,g0,e3,gD,or_false]at a;have o:∀aD:fT,aD.length<=6->(∀r∈aD,r.length<=40)->(fk aD).length<=1000:=λaD ab af=>by
  have:=vu [32] (b:=40) aD af;rw[B0]at this;have br:=IF (40+[32].length) ab;show(nH 32 aD).length<=_
  have:[32].length=1:=rfl;lia
 have c:∀aD:fT,aD.length<=6->(∀r∈aD,(59:Nat)∉r/\r.length<=40)->(59:Nat)∉fk aD/\(fk aD).length<=1000:=λaD ab af=>⟨Qi (by lia) λr hw=>(af r hw).1,o aD ab λr hw=>(af r hw).2⟩
 have b:∀w,fL w->(59:Nat)∉b1 w/\(b1 w).length<=40:=λw h=>⟨Qj h,by have:=(hC (fC h)).1;lia⟩
 have i:∀z,mH z->(59:Nat)∉z/\z.length<=40:=λz j=>⟨adv j,by have:=j.2.1;lia⟩
 have q:∀z:Int,0<=z->z<=40->(59:Nat)∉cX z/\(cX z).length<=40:=λz l ab=>⟨Qk l ab,by have:=(kA l ab).1.1;lia⟩
 rcases a with rfl |⟨N,s,rfl⟩|a |rfl |⟨r,hw,rfl⟩|rfl |rfl |rfl
 ·refine c _ (by show 2<=6;lia) λr hw=>?_
  simp only[df,gD,or_false]at hw;rcases hw with rfl |rfl
  ·decide
  ·exact i _ Y.cI
 ·have C:=HM Y N s
  refine c _ (by show 3<=6;lia) λr hw=>?_
  simp only[df,gD,or_false]at hw;rcases hw with rfl |rfl |rfl
  ·decide
  ·exact b _ C.w
  ·refine⟨λI=>?_,by rw[B7];have:=C.s;lia⟩
   obtain⟨Q,a,e⟩:=e3.mp I;have:=Qc (C.A Q a);split at e<;>lia
 ·have d:=Y.cP
  revert d a
  cases p.cP with
  |aQ=>exact λa=>nomatch a|hU w=>
   intro a d;rw[fv.mp a];refine c _ (by show 2<=6;lia) λr hw=>?_
   simp only[df,gD,or_false]at hw;rcases hw with rfl |rfl
   ·decide
   ·exact b _ d
  |gB X z w g=>
   rintro a ⟨ab,af,_,t,u,_⟩;rw[fv.mp a];refine c _ (by show 4<=6;lia) λr hw=>?_
   simp only[df,gD,or_false]at hw;rcases hw with rfl |rfl |rfl |rfl
   ·rcases ab with rfl |rfl<;>decide
   ·exact i _ af
   ·exact b _ t
   ·exact b _ u
 ·exact⟨Ql (by decide) Y.cg,by have:=B_ (r:=gN) (by decide) (show p.cg.length<=40 by have:=Y.ky;lia) Y.cg;lia⟩
 ·obtain⟨v,x,y,f⟩:=Y.dw r hw
  refine c _ (by show 6<=6;lia) λr hw=>?_
  simp only[df,gD,or_false]at hw;rcases hw with rfl |rfl |rfl |rfl |rfl |rfl
  ·decide
  ·exact b _ v
  ·decide
  ·exact b _ x
  ·unfold l6 at f
   simp only[df,gD,or_false]at f;rcases f with e |e |e<;>rw[e]<;>decide
  ·exact b _ y
 ·refine c _ (by show 2<=6;lia) λr hw=>?_
  simp only[df,gD,or_false]at hw;rcases hw with rfl |rfl
  ·decide
  ·exact q _ (by lia) (by lia)
 ·refine⟨λI=>?_,?_⟩
  ·rcases g0.mp I with I |I
   ·rcases g0.mp I with I |I
    ·exact Ql (by decide) Y.cD I
    ·revert I;decide
   ·exact Qk (by lia) (by lia) I
  ·have:=B_ (r:=fU) (by decide) (show p.cD.length<=40 by have:=Y.sl;lia) Y.cD
   have:=(kA (z:=p.es) (by lia) (by lia)).1.1
   rw[dq,dq];show _+4+_<=_;lia
 ·unfold i4
  split
  ·decide
  ·refine⟨λI=>?_,by rw[dq,ee];show 5+_<=_;lia⟩
   rcases g0.mp I with I |I
   ·revert I;decide
   ·rcases df.mp I with I |I
    ·cases I
    ·exact m I
theorem Qm {p:eI}{n:bo}(Y:hW p):(c9 p n).length<=18:=by
 have ab:=Y.iW;have af:=Y.l7;have br:(jL p.cP).length<=1:=by cases p.cP<;>simp[jL]
 unfold c9;simp only[ee,dq,ct,vJ];lia
def j3 (p:eI)(n:fB):List Nat:=gx [59,32] (c9 p n)
theorem adw (p:eI)(n:fB):c9 p n≠[]:=by unfold c9;simp
theorem adx {p:eI}{n:bo}(Y:hW p)(a:n.length<=900)(c:(59:Nat)∉n):(j3 p n).length<=100000:=by
 have S:=vu [59,32]  _ λQ d=>(HO Y a c Q d).2
 have b:=IF (1000+[59,32].length) (Qm (n:=n) Y);have:[59,32].length=2:=rfl;unfold j3;lia
theorem Qn {p:eI}{n:bo}(Y:hW p)(a:n.length<=900)(b:(59:Nat)∉n)(c:n=[]->p.ff=[])(f:n≠[]->tv.cj [.f n]=.i (ak ao p.ff)):Hq.cj [.f (j3 p n)]=.i (dN p):=by
 have bj:nR (j3 p n) [.f [59,32]]=.i (ak .f (c9 p n)):=HC (by decide +kernel) (by lia) (adw p n) (λQ g=>(HO Y a b Q g).1) (adx Y a b)
 have h:yb [.au (.dI "Clauses" []) [],.f (j3 p n)]=.i .a9 [cz (c9 p n),.f (j3 p n)]:=by
  refine OL (ah:=aP) (z:=2) (h:=0) (body:=BQ)  (e:=[E (cz (c9 p n)),E (.f (j3 p n))]) rfl ?_;unfold BQ;show aO.bb aP _ (.kv _ _ _::[]) [E (.au (.dI "Clauses" []) []),E (.f (j3 p n))]=_
  rw[aO.bb,aO.gm,o6 (y:=ak .f (c9 p n)) (by exists iP,tC,bj) i1 rfl (by decide) (by decide) (by decide),l5]
  rfl
 have i:pQ yb "Clauses" [.f (j3 p n)]=.i (cz (c9 p n)):=by
  unfold pQ;simp only[eR,rJ,Ox,h]
 have j:(cz (c9 p n)).ed=ae:=by show ai.k8 [ak .f (c9 p n)]=ae;rw[Gs,i1,Gu];rfl
 refine eB rfl rfl λaA l=>?_
 unfold Pw;show bT (aO.bb aP aA (.o2 [.cJ _] []::[]) [E (.f (j3 p n)),k]) _
 rw[abE,Ow (adm (y:=cz (c9 p n)) (by
  have:H.aZ aP [E (.f (j3 p n)),k] (.i9 yb "Clauses" [(.v 0)])=.i (cz (c9 p n)):=by exists i
  rw[this];exact hR _ j) (adu Y (jP a (by lia)) c f))]
 exact⟨_,_,rfl,.inl rfl⟩
theorem yk (a:ef)(D:Nat):rt.cj [dD a,.d (D:Int)]=.i (.d (a.getD D 0)):=by
 refine eB rfl rfl λaA c=>?_
 unfold OV;by_cases b:D<(a.length:Int)
 ·exists Oy,decide_eq_true b,VI.abI (vT D) b
  fail "q"
 ·exists Oy,decide_eq_false b
  rw[mL,yv (by lia)]
  fail "q"
def lA (a8 aB:Int)(w:cq):Prop:=a8<=w.1/\w.1<=w.2/\w.2<=aB
def cf (z Y r:Int):cq:=(1+z % Y,min Y (1+z % Y+z / 24 % r))
theorem vy (z:Int){Y r:Int}(ab:0<Y)(a:0<r):GP.cj [.d z,.d Y,.d r]=.i (ao (cf z Y r)):=by
 refine eB rfl rfl λaA b=>?_
 unfold OX
 exists b,VI.p6 ab,VI.p6 a
 fail "q"
theorem vz (z:Int){Y r:Int}(ab:0<Y)(a:0<r):lA 1 Y (cf z Y r)/\(cf z Y r).2-(cf z Y r).1<r:=by
 have b:0<=z % Y:=rT _ (by lia)
 have c:z % Y<Y:=qu _ (by lia)
 have d:0<=z / 24 % r:=rT _ (by lia)
 have k2:z / 24 % r<r:=qu _ (by lia)
 unfold lA cf;simp only;lia
theorem Qo {a8 aB:Int}{w:cq}(ab:1<=a8)(af:aB<=36)(Y:lA a8 aB w):fL w:=⟨by have:=Y.1;lia,Y.2.1,by have:=Y.2.2;lia⟩
theorem Qp {O:Int}(a:0<=O)(ab:O<26):dt (.f jJ) (.d O)=.i (.f [97+O.toNat]):=by
 show Mo.eS jJ.length (Mo.e8 _)=_
 obtain⟨z,rfl⟩:=vS a;rw[(show∀z:Nat,z<26->eb jJ _=E (97+z) by decide) z (by lia)];rfl
theorem Qq {z:Nat}(Y:z<26):97+z∈jJ:=(show∀z:Nat,z<26->97+z∈jJ by decide) z Y
theorem ady (s:fB):gx [] (s.map λQ=>[Q])=s:=by
 induction s with
 |nil=>rfl|cons Q s a=>cases s with
  |nil=>rfl|cons y s=>show[Q]++[]++gx [] ((y::s).map λQ=>[Q])=_;rw[a];rfl
theorem Qr {s:bo}(Y:s.length<=1000):kn [] [ak .f (s.map λQ=>[Q])]=.i (.f s):=by
 rw[tD (by decide) (by rwa[ct]) (λN a=>by obtain⟨Q,_,rfl⟩:=e3.mp a;exact IE rfl),ady]
theorem adz {j:Int}(a:0<=j)(Y:j<=100000):sT [ai.d j]=iQ ((fl j.toNat).map λO:Nat=>ai.d (O:Int)):=by
 unfold sT;dsimp only;rw[VI.Oz,tp,Mo.lN ⟨by lia,by lia⟩]
 unfold gp;rw[gr];exact congrArg _ (qi λO _=>by show ai.d (0+O)=_;rw[Int.zero_add])
def Qs (Q:Int)(D:Nat):Nat:=97+((Q / ((D:Int)+1)+(D:Int)*D) % 26).toNat
def cI (Q:Int):List Nat:=(fl (1+Q % 8).toNat).map (Qs Q)
theorem Qt (Q:Int):mH (cI Q):=by
 refine⟨by unfold cI;simp;lia,by unfold cI;simp;lia,λX a=>?_⟩
 obtain⟨D,_,rfl⟩:=e3.mp a;exact Qq (by lia)
theorem adA (Q:Int):GO.cj [.d Q]=.i (.f (cI Q)):=by
 have g:Q % 8<8:=qu _ (by lia)
 refine eB rfl rfl λaA a=>?_
 unfold OW;rw[e0 (y:=.f jJ) (by exists a;rfl) (a _)]
 have e:H.aZ aP [E (.d Q),E (.f jJ)] (.eH ["_law_k"] [("_law_letters",1),("_law_cell",0)] .bC [(.aT .cO (.z 1) (.aT .dU (.v 0) (.z 8)))] ⟨ax,[0]⟩ k (.aT .fj (.v 1) (.aT .dU (.aT .cO (.aT .ib (.v 2) (.aT .cO (.v 0) (.z 1))) (.aT .lX (.v 0) (.v 0))) (.z 26))))=.i (ak .f ((cI Q).map λX=>[X])):=by
  rw[jH (w:=λD:Nat=>[Qs Q D]) (C:=.f)   _ rfl (by exists abW;exact adz (by lia) (by lia)) (i2 _ _) (λD b=>?_) (by simp;lia)]
  ·unfold cI;rw[gr];rfl
  ·have b:=lD.mp b
   have aN:nO (.d (D:Int)) (.d (D:Int))=.i _:=Bf (by lia) (by lia)
   have az:w6 (.d Q) (.d ((D:Int)+1))=.i _:=abT (by lia) (by lia)
   have c:=Qp (O:=(Q / ((D:Int)+1)+(D:Int)*D) % 26) (by lia) (by lia)
   exists aN,az,c
   rfl
 show bT (aO.bb aP aA _ [E (.d Q),E (.f jJ)]) _
 exists a,iP,nt,e,Qr (s:=cI Q) (by have:=(Qt Q).2.1;lia)
 fail "q"
theorem adB:∀Q∈jJ,mX jJ [Q]=(Q:Int)-97/\97<=Q/\Q<=122:=by
 intro Q;rw[Vo]
 revert Q
 decide
theorem adC (s Q:fB):jV.w .find s [.f Q]=.i (.d (mX s Q)):=rfl
theorem adD {z:bo}(l:mH z)(Q:Int):∃h,GQ.cj [.f z,.d Q]=.i (.f h)/\mH h/\h≠z:=by
 obtain⟨y,A,e⟩:=l;have i:(0:Int)<(z.length:Int):=by lia
 have m:=rT Q (show(z.length:Int)≠0 by lia)
 have B:=qu Q i;obtain⟨n,o⟩:=vS m;have q:n<z.length:=by lia
 obtain⟨X,f⟩:∃X,X=z[n]:=⟨_,rfl⟩;have r:X∈jJ:=by rw[f];exact e _ (rH _)
 obtain⟨s,C,D⟩:=adB X r;have az:An (.d Q) (.d (z.length:Int))=.i (.d (n:Int)):=by rw[VI.p6 i,o]
 have aN:dt (.f z) (.d (n:Int))=.i (.f [X]):=by
  show Mo.eS z.length (Mo.e8 ((eb z (n:Int)).map λQ=>ai.f [Q]))=_
  rw[Mo.nI (by lia),Bd (by lia) (gd (by lia)),f];rfl
 obtain⟨t,j⟩:∃t,t=97+(((X:Int)-97+1+Q / 8 % 25) % 26).toNat:=⟨_,rfl⟩;have u:dt (.f jJ) (.d (((X:Int)-97+1+Q / 8 % 25) % 26))=.i (.f [t]):=by rw[Qp (by lia) (by lia),j]
 have v:t∈jJ:=by rw[j];exact Qq (by lia)
 have w:t≠X:=by lia
 have bj:la (.f z) k (E (n:Int))=.i (.f (z.take n)):=by
  show Mo.eS z.length (iQ (ai.f (eD z _ _)))=_
  rw[Mo.nI (by lia),sv (by lia),Int.toNat_natCast]
 have x:la (.f z) (E ((n:Int)+1)) k=.i (.f (z.drop (n+1))):=by
  show Mo.eS z.length (iQ (ai.f (eD z _ _)))=_
  rw[Mo.nI (by lia),uG (by lia),show((n:Int)+1).toNat=n+1 by lia]
 refine⟨z.take n++[t]++z.drop (n+1),eB rfl rfl λaA g=>?_,⟨by simp;lia,by simp;lia,λQ c=>?_⟩,λI=>?_⟩
 ·unfold OY
  rw[e0 (y:=.f jJ) (by exists g;rfl) (g _)]
  show bT (aO.bb aP aA _ [E (.f z),E (.d Q),E (.f jJ),k,k]) _
  exists g,yf (show z.length<=100000 by lia),az,iP,aN,adC,s,u,bj,x,lr (S:=z.take n) (b:=[t]) (by simp;lia),lr (S:=z.take n++[t]) (b:=z.drop (n+1)) (by simp;lia)
  fail "q"
 ·rcases g0.mp c with c |c
  ·rcases g0.mp c with c |c
   ·exact e Q (List.mem_of_mem_take c)
   ·rw[fv.mp c];exact v
  ·exact e Q (List.mem_of_mem_drop c)
 ·have aN:(z.take n++[t]++z.drop (n+1))[n]?=E t:=by
   rw[od,pe (by rw[lB];lia),lB,yI (by lia),yJ];rfl
  rw[I,gd q,<- f]at aN;exact w (jQ aN).symm
theorem adE (t:Int):∃r,(r=n5\/r=n6)/\dt (.au .aG [.f [109,97,116,101,115],.f [119,105,116,104,111,117,116]]) (.d (t % 2))=.i (.f r):=by
 rcases(show t % 2=0\/t % 2=1 by lia)with e |e
 ·exact⟨_,.inl rfl,by rw[e];rfl⟩
 exact⟨_,.inr rfl,by rw[e];rfl⟩
theorem adF {z:bo}(l:mH z)(Q:Int):∃h,GR.cj [.f z,.d Q]=.i (dX h)/\o8 z h/\∀w∈(iT h).take 1,lA 1 24 w:=by
 obtain⟨w,d⟩:∃w,w=cf (Q / 4) 24 6:=⟨_,rfl⟩;obtain⟨a,m⟩:=vz (Q / 4) (show(0:Int)<24 by lia) (show(0:Int)<6 by lia)
 have aw:=vy (Q / 4) (show(0:Int)<24 by lia) (show(0:Int)<6 by lia)
 rw[<- d]at a m aw;have c:0<36-(w.2-w.1):=by lia
 have u:=a.1;have v:=a.2.1;have x:=a.2.2;have y:=rT (Q / 9) (show 36-(w.2-w.1)≠0 by lia)
 have A:=qu (Q / 9) c;have f:=Qo (qv 1) (show(24:Int)<=36 by lia) a
 obtain⟨C,n,o,q⟩:=adD l (Q / 4);obtain⟨r,hw,s⟩:=adE Q;have i:∀{g:cq},lA 1 24 g->∀X∈[g],lA 1 24 X:=λY X t=>by rw[fv.mp t];exact Y
 by_cases e:Q % 4=1
 ·refine⟨.hU w,eB rfl rfl λaA b=>?_,f,i a⟩
  unfold Bs
  exists b,aw,fa,hT,jh,iR,VI.p6 c,decide_eq_true e
  fail "q"
 ·by_cases j:Q % 4 > 1
  ·refine⟨.gB r C w (1+Q / 9 % (36-(w.2-w.1)),1+Q / 9 % (36-(w.2-w.1))+(w.2-w.1)),eB rfl rfl λaA b=>?_,⟨hw,o,q,f,⟨by simp only;lia,by simp only;lia,by simp only;lia⟩,by simp only;lia⟩,i a⟩
   unfold Bs
   exists b,aw,fa,hT,jh,iR,VI.p6 c,decide_eq_false e,decide_eq_true j,s,n
   fail "q"
  ·refine⟨.aQ,eB rfl rfl λaA b=>?_,trivial,λw d=>by cases d⟩
   unfold Bs
   exists b,aw,fa,hT,jh,iR,VI.p6 c,decide_eq_false e,decide_eq_false j
   fail "q"
theorem adG (t:Int):∃r,r∈l6/\dt (.au .aG [.f [112,108,117,115],.f [108,101,115,115],.f [116,105,109,101,115]]) (.d (t % 3))=.i (.f r):=by
 rcases(show t % 3=0\/t % 3=1\/t % 3=2 by lia)with e |e |e
 ·exact⟨[112,108,117,115],by decide,by rw[e];rfl⟩
 ·exact⟨[108,101,115,115],by decide,by rw[e];rfl⟩
 exact⟨[116,105,109,101,115],by decide,by rw[e];rfl⟩
def HP (D:Int)(r:hS):Prop:=lA (25+3*D) (27+3*D) r.1/\(lA 1 24 r.2.1\/∃j:Int,0<=j/\j<D/\lA (25+3*j) (27+3*j) r.2.1)/\r.2.2.1∈l6/\lA 1 24 r.2.2.2
theorem adH (z:Int){D:Int}(m:0<=D)(br:D<=3):∃r:hS,GU.cj [.d z,.d D]=.i (cm r)/\HP D r:=by
 obtain⟨h,_⟩:=vz (z / 3) (show(0:Int)<24 by lia) (show(0:Int)<6 by lia)
 have aw:=vy (z / 3) (show(0:Int)<24 by lia) (show(0:Int)<6 by lia)
 obtain⟨c,_⟩:=vz (z / 5) (show(0:Int)<24 by lia) (show(0:Int)<3 by lia)
 have a:=vy (z / 5) (show(0:Int)<24 by lia) (show(0:Int)<3 by lia)
 generalize cf (z / 3) 24 6=w at h aw
 generalize cf (z / 5) 24 3=g at c a
 obtain⟨r,hw,d⟩:=adG (z / 4);have i:lA (25+3*D) (27+3*D) (25+3*D,25+3*D+z % 3):=⟨by simp only;lia,by simp only;lia,by simp only;lia⟩
 have e:nO (.d 3) (.d D)=.i (.d (3*D)):=Bf (by lia) (by lia)
 by_cases I:D > 0/\z / 2 % 3=1
 ·have j:=rT (z / 7) (show D≠0 by lia)
  have l:=qu (z / 7) I.1;refine⟨((25+3*D,25+3*D+z % 3),(25+3*(z / 7 % D),25+3*(z / 7 % D)+z / 11 % 3),r,g),eB rfl rfl λaA b=>?_,i,.inr ⟨z / 7 % D,j,l,by simp only;lia,by simp only;lia,by simp only;lia⟩,hw,c⟩
  unfold GS;have aN:nO (.d 3) (.d (z / 7 % D))=.i (.d (3*(z / 7 % D))):=Bf (by lia) (by lia)
  exists b,e,aN,aw,a,fa,hT,decide_eq_true I.1,decide_eq_true I.2,VI.p6 I.1,d
  fail "q"
 ·refine⟨((25+3*D,25+3*D+z % 3),w,r,g),eB rfl rfl λaA b=>?_,i,.inl h,hw,c⟩
  unfold GS;by_cases f:D > 0
  ·exists b,e,aw,a,fa,hT,decide_eq_true f,decide_eq_false (λt=>I ⟨f,t⟩:¬z / 2 % 3=1),tL,d
   fail "q"
  ·exists b,e,aw,a,fa,hT,decide_eq_false f,H3,d
   fail "q"
theorem Ca {z h:Nat}{body:cE}{a:bf}{y:ai}{e:VI.aX}(b:a.length=z)(c:ai.lg a=ae)(Y:aO.bb aP (ag a) body (a.map E++fV h k)=.i (.en y) e):cy aP z h body a=.i y a:=by
 unfold cy;rw[if_pos b,Y];show bY.i y _=_
 rw[xI c]
theorem adI (a:ef)(a8 aB:ea):la (dD a) a8 aB=.i (ak .d (eD a a8 aB)):=by
 show iQ _=_
 unfold eD ak;rw[ct,<- Iw,<- Iy,gr];rfl
theorem adJ {ay:Type}(s:List ay)(a8 aB:ea):(eD s a8 aB).length<=s.length:=by
 unfold eD;rw[lB,qm];lia
def Cb (r:cq):Prop:=1<=r.1/\r.1<=40/\1<=r.2/\r.2<=36
structure Cc (cV:mQ)(P:List gL)(bl:er)(a:n4)(q b:er):Prop where
 iW:P.length<=8
 c4:∀N∈P,lA 1 24 N.1/\rv cV N
 ky:bl.length<=6
 cg:∀w∈bl,lA 1 24 w
 l7:a.length<=4
 dw:∀(O:Nat) r,a[O]?=E r->HP O r
 sl:q.length<=4
 cD:∀w∈q,fL w
 ff:(b.map (·.2)).Nodup
 tF:∀r∈b,Cb r
theorem Cd {ay:Type}{P:ay->Prop}{s:List ay}{S:ay}(Y:∀X∈s,P X)(b:P S):∀X∈s++[S],P X:=λX a=>by
 rcases g0.mp a with a |a
 ·exact Y X a
 rwa[fv.mp a]
theorem adK {ay:Type}{P:Nat->ay->Prop}{s:List ay}{S:ay}(Y:∀(O:Nat) X,s[O]?=E X->P O X)(b:P s.length S):∀(O:Nat) X,(s++[S])[O]?=E X->P O X:=λO X a=>by
 by_cases aB:O<s.length
 ·rw[tM aB]at a;exact Y O X a
 ·have:O=s.length:=by have:=(hF.mp a).1;simp at this;lia
  simp_all
def gO (P:List gL)(bl:er)(a:n4)(q b:er):ai:=.au .aG [ak cU P,ak ao bl,ak cm a,ak ao q,ak ao b]
def qb (a:Int)(b:Int):Nat:=iS.getD ((a+b*b*(1+a % 7)) % 37).toNat 0
theorem Qu {O:Int}(b:0<=O)(ab:O<37):dt (.f iS) (.d O)=.i (.f [iS.getD O.toNat 0])/\iS.getD O.toNat 0∈iS:=by
 obtain⟨z,rfl⟩:=vS b;have a  := by show z<37;lia
 rw[mL,gd a];refine⟨?_,rH a⟩;show Mo.eS iS.length (Mo.e8 _)=_
 rw[Bd (by lia) (gd _)];rfl
abbrev eV (a:ef)(b:Int)(v:ai)(c d e f g:jA):VI.aX:=[E (dD a),E (.f iS),E (.d b),E v,c,d,e,f,g]
local macro_rules|`(tactic|fail "sk")=>`(tactic|(rw[hQ (by exists eV, ih, vU, decide_false)];show bT (aO.bb aP _ (_ :: _) _) _))
local macro_rules|`(tactic|fail "sl")=>`(tactic|(rw[hQ (by exists eV, ih, vU, decide_false)];show bT (aO.bb aP _ [] _) _))
local macro_rules|`(tactic|fail "tk")=>`(tactic|(rw[mG (by exists eV, ih, vU, decide_true)];show bT (aO.bb aP _ (_ :: _) _) _))
theorem adL {G:bY VI.aX eY}{q:eY->VI.aX->Prop}(Y:∀a:eY->VI.aX->Prop,(∀C e,q C e->a C e)->bT G a):bT G q:=Y q λ_ _ I=>I
theorem adM (m:ef)(ay:m.length<=63):∃cV:Int->Nat,(∀Q,cV Q∈iS)/\∃P bl h q a,xT.cj [dD m]=.i (gO P bl h q a)/\Cc cV P bl h q a:=by
 refine⟨qb (m.getD 3 0),λQ=>(Qu (by lia) (by lia)).2,?_⟩
 generalize ah:m.getD 3 0=j
 have aj:∀aA:Nat->Bool,(∀O,aA O=ax)->bT (aO.bb aP aA Bt ([dD m].map E++fV 8 k)) λC _=>∃P bl h q a,C=.en (gO P bl h q a)/\Cc (qb j) P bl h q a:=λaA s=>by
  unfold Bt;rw[e0 (y:=.f iS) (by exists s;rfl) (s _)]
  have M:=yk m 3;rw[ah]at M;show bT (aO.bb aP aA _ [E (dD m),E (.f iS),k,k,k,k,k,k,k]) _
  rw[e0 (y:=.d j) (by exists s,show rt.cj [dD m,.d 3]=_ from M) (s _)]
  show bT (aO.bb aP aA _ [E (dD m),E (.f iS),E (.d j),k,k,k,k,k,k]) _
  rw[e0 (y:=gO [] [] [] [] []) (by rw[lq];exact hR (y:=gO [] [] [] [] []) _ rfl) (s _)]
  show bT (aO.bb aP aA _ (eV m j (gO [] [] [] [] []) k k k k k)) _
  have aB:=adJ m (E 4) (E 67);refine rq (s:=eD m (E 4) (E 67)) (a:=λQ=>[.d Q]) (y:=ak .d (eD m (E 4) (E 67))) (λy e=>∃P bl h q a U R K v u,e=eV m j (gO P bl h q a) U R K v u/\a.length<=y.length/\Cc (qb j) P bl h q a) (by exists abF,adI) vn (i2 _ _) ⟨[],[],[],[],[],k,k,k,k,k,rfl,cM _,by decide,(λN s=>by cases s),by decide,(λN s=>by cases s),by decide,(λO r Y=>by simp at Y),by decide,(λN s=>by cases s),CB,λN s=>by cases s⟩ (λy Q G e al V=>?_) (λe V=>?_)
  ·obtain⟨P,bl,h,q,a,U,R,K,v,u,rfl,am,Y⟩:=V
   have aC:y.length<63:=by have:=congrArg ma al;simp at this;lia
   refine⟨eV m j (gO P bl h q a) (E (.d Q)) R K v u,(by exists s,eV),?_⟩
   rw[e0 (y:=.d (Q % 5)) (by exists eV) (s _)]
   show bT (aO.bb aP aA _ (eV m j (gO P bl h q a) (E (.d Q)) (E (.d (Q % 5))) K v u)) _
   rw[e0 (y:=.d (Q / 5)) (by exists eV) (s _)]
   show bT (aO.bb aP aA _ (eV m j (gO P bl h q a) (E (.d Q)) (E (.d (Q % 5))) (E (.d (Q / 5))) v u)) _
   refine adL λW ez=>?_
   have F:∀{P bl h q a} {v u:jA},a.length<=y.length+1->Cc (qb j) P bl h q a->bT (aO.bb aP aA [] (eV m j (gO P bl h q a) (E (.d Q)) (E (.d (Q % 5))) (E (.d (Q / 5))) v u)) W:=λab af=>by
    rw[nj];exact⟨_,_,rfl,ez _ _ (.inl ⟨.inl rfl,_,_,_,_,_,_,_,_,_,_,rfl,by rw[dq];exact ab,af⟩)⟩
   have J:∀{b cT:cE}{X:H},(H.aZ aP (eV m j (gO P bl h q a) (E (.d Q)) (E (.d (Q % 5))) (E (.d (Q / 5))) v u) X).aC fz=.i ae->bT (aO.bb aP aA (.dE X [.cont] b::cT) (eV m j (gO P bl h q a) (E (.d Q)) (E (.d (Q % 5))) (E (.d (Q / 5))) v u)) W:=λan=>by
    rw[mG an]
    exists s
    exact⟨_,_,rfl,ez _ _ (.inl ⟨.inr rfl,_,_,_,_,_,_,_,_,_,_,rfl,by rw[dq];lia,Y⟩)⟩
   rcases(show Q % 5=0\/Q % 5=1\/Q % 5=2\/Q % 5=3\/Q % 5=4 by lia)with A |A |A |A |A<;>rw[A]at F J ⊢
   ·have x:dt (gO P bl h q a).bO (.d 0)=.i (.aK (ak cU P)):=rfl
    have z:dt (.au .aG [.d 8,.d 6,.d 4,.d 4,.d 36]) (.d 0)=.i (.d 8):=rfl;by_cases I:(P.length:Int) ≥ 8
    ·exact J (by exists eV,x,z,decide_eq_true I)
    ·rw[hQ (by exists eV,x,z,decide_eq_false I)]
     show bT (aO.bb aP aA (_::_) _) _
     fail "tk"
     have aw:=vy (Q / 5) (show(0:Int)<24 by lia) (show(0:Int)<5 by lia)
     obtain⟨B,L⟩:=vz (Q / 5) (show(0:Int)<24 by lia) (show(0:Int)<5 by lia)
     generalize cf (Q / 5) 24 5=w at aw B L
     obtain⟨Z,aa,ap⟩:=B;rw[e0 (y:=ao w) (by exists eV,aw,hT) (s _)]
     show bT (aO.bb aP aA (_::_) (eV m j (gO P bl h q a) (E (.d Q)) (E (.d 0)) (E (.d (Q / 5))) (E (ao w)) u)) _
     have aq:Ax [.d w.1,.d (w.2+1)]=.i ((gp w.1 (w.2+1-w.1).toNat).map .d):=by
      show Mo.dW _ _=_
      rw[Mo.lN (by lia)]
     have ec:H.aZ aP (eV m j (gO P bl h q a) (E (.d Q)) (E (.d 0)) (E (.d (Q / 5))) (E (ao w)) u) (.eH ["_law_at"] [("_law_signs",1),("_law_seed",2)] .bR [(.O (.v 7) 0),(.aT .cO (.O (.v 7) 1) (.z 1))] ⟨ax,[0]⟩ k (.aT .fj (.v 1) (.aT .dU (.aT .cO (.v 2) (.aT .lX (.aT .lX (.v 0) (.v 0)) (.aT .cO (.z 1) (.aT .dU (.v 2) (.z 7))))) (.z 37))))=.i (ak .f (((gp w.1 (w.2+1-w.1).toNat).map (qb j)).map λX=>[X])):=by
      rw[jH (w:=λD:Int=>[qb j D]) (C:=.f) (T:=λO:Int=>[.d O]) (a:=(gp w.1 (w.2+1-w.1).toNat).map .d) (gp w.1 (w.2+1-w.1).toNat) rfl (by exists eV,fa,jh,iR,aq) (i2 _ _) (λD A=>?_) (by rw[oF];lia)]
      ·rw[gr];rfl
      ·have A:=K6.mp A
       have aN:nO (.d D) (.d D)=.i (.d (D*D)):=Bf (by lia) (by lia)
       have az:nO (.d (D*D)) (.d (1+j % 7))=.i (.d (D*D*(1+j % 7))):=abU (by lia) (by lia)
       have M:=(Qu (O:=(j+D*D*(1+j % 7)) % 37) (by lia) (by lia)).1
       exists eV,aN,az,M
       rfl
     have ar:((gp w.1 (w.2+1-w.1).toNat).map (qb j)).length<=1000:=by rw[ct,oF];lia
     rw[e0 (y:=.f ((gp w.1 (w.2+1-w.1).toNat).map (qb j))) (by exists iP,ec,nt,Qr ar) (s _)]
     generalize as:(gp w.1 (w.2+1-w.1).toNat).map (qb j)=n
     show bT (aO.bb aP aA (_::_) (eV m j (gO P bl h q a) (E (.d Q)) (E (.d 0)) (E (.d (Q / 5))) (E (ao w)) (E (.f n)))) _
     rw[kz (j1 (C:=.dY) (V:=(3,[0])) (Q:=ak cU P) (a:=[cU (w,n)]) rfl rfl rfl (iy (by exists eV,fa,hT;rfl)) (j0 (g:=cU) (by lia)))]
     show bT (aO.bb aP aA (_::_) (eV m j (gO (P++[(w,n)]) bl h q a) (E (.d Q)) (E (.d 0)) (E (.d (Q / 5))) (E (ao w)) (E (.f n)))) _
     fail "sk"
     fail "sk"
     fail "sk"
     fail "sl"
     exact F (by lia) {Y with iW:=by rw[dq];show _+1<=8;lia,c4:=Cd Y.c4 ⟨⟨Z,aa,ap⟩,⟨Z,aa,by show w.2<=36;lia⟩,as.symm⟩}
   ·have x:dt (gO P bl h q a).bO (.d 1)=.i (.aK (ak ao bl)):=rfl
    have z:dt (.au .aG [.d 8,.d 6,.d 4,.d 4,.d 36]) (.d 1)=.i (.d 6):=rfl;by_cases I:(bl.length:Int) ≥ 6
    ·exact J (by exists eV,x,z,decide_eq_true I)
    ·rw[hQ (by exists eV,x,z,decide_eq_false I)]
     show bT (aO.bb aP aA (_::_) _) _
     fail "sk"
     fail "tk"
     have aw:=vy (Q / 5) (show(0:Int)<24 by lia) (show(0:Int)<4 by lia)
     obtain⟨B,L⟩:=vz (Q / 5) (show(0:Int)<24 by lia) (show(0:Int)<4 by lia)
     generalize cf (Q / 5) 24 4=w at aw B L
     rw[kz (j1 (C:=.dY) (V:=(3,[1])) (Q:=ak ao bl) (a:=[ao w]) rfl rfl rfl (iy (by exists eV,aw,fa,hT)) (j0 (g:=ao) (by lia)))]
     show bT (aO.bb aP aA (_::_) (eV m j (gO P (bl++[w]) h q a) (E (.d Q)) (E (.d 1)) (E (.d (Q / 5))) v u)) _
     fail "sk"
     fail "sk"
     fail "sl"
     exact F (by lia) {Y with ky:=by rw[dq];show _+1<=6;lia,cg:=Cd Y.cg B}
   ·have x:dt (gO P bl h q a).bO (.d 2)=.i (.aK (ak cm h)):=rfl
    have z:dt (.au .aG [.d 8,.d 6,.d 4,.d 4,.d 36]) (.d 2)=.i (.d 4):=rfl;by_cases I:(h.length:Int) ≥ 4
    ·exact J (by exists eV,x,z,decide_eq_true I)
    ·rw[hQ (by exists eV,x,z,decide_eq_false I)]
     show bT (aO.bb aP aA (_::_) _) _
     fail "sk"
     fail "sk"
     fail "tk"
     obtain⟨r,aw,hw⟩:=adH (Q / 5) (D:=(h.length:Int)) (by lia) (by lia)
     have az:dt (gO P bl h q a).bO (.d 2)=.i (.aK (ak cm h)):=rfl;rw[kz (j1 (C:=.dY) (V:=(3,[2])) (Q:=ak cm h) (a:=[cm r]) rfl rfl rfl (iy (by exists eV,az,aw,tw,Bn)) (j0 (g:=cm) (by lia)))]
     show bT (aO.bb aP aA (_::_) (eV m j (gO P bl (h++[r]) q a) (E (.d Q)) (E (.d 2)) (E (.d (Q / 5))) v u)) _
     fail "sk"
     fail "sl"
     exact F (by lia) {Y with l7:=by rw[dq];show _+1<=4;lia,dw:=adK Y.dw hw}
   ·have x:dt (gO P bl h q a).bO (.d 3)=.i (.aK (ak ao q)):=rfl
    have z:dt (.au .aG [.d 8,.d 6,.d 4,.d 4,.d 36]) (.d 3)=.i (.d 4):=rfl;by_cases I:(q.length:Int) ≥ 4
    ·exact J (by exists eV,x,z,decide_eq_true I)
    ·rw[hQ (by exists eV,x,z,decide_eq_false I)]
     show bT (aO.bb aP aA (_::_) _) _
     fail "sk"
     fail "sk"
     fail "sk"
     fail "tk"
     have aw:=vy (Q / 5) (show(0:Int)<36 by lia) (show(0:Int)<8 by lia)
     obtain⟨B,L⟩:=vz (Q / 5) (show(0:Int)<36 by lia) (show(0:Int)<8 by lia)
     generalize cf (Q / 5) 36 8=w at aw B L
     rw[kz (j1 (C:=.dY) (V:=(3,[3])) (Q:=ak ao q) (a:=[ao w]) rfl rfl rfl (iy (by exists eV,aw,fa,hT)) (j0 (g:=ao) (by lia)))]
     show bT (aO.bb aP aA (_::_) (eV m j (gO P bl h (q++[w]) a) (E (.d Q)) (E (.d 3)) (E (.d (Q / 5))) v u)) _
     fail "sl"
     exact F (by lia) {Y with sl:=by rw[dq];show _+1<=4;lia,cD:=Cd Y.cD (Qo (qv 1) (qv 36) B)}
   ·have x:dt (gO P bl h q a).bO (.d 4)=.i (.aK (ak ao a)):=rfl
    have z:dt (.au .aG [.d 8,.d 6,.d 4,.d 4,.d 36]) (.d 4)=.i (.d 36):=rfl;by_cases I:(a.length:Int) ≥ 36
    ·exact J (by exists eV,x,z,decide_eq_true I)
    ·rw[hQ (by exists eV,x,z,decide_eq_false I)]
     show bT (aO.bb aP aA (_::_) _) _
     fail "sk"
     fail "sk"
     fail "sk"
     fail "sk"
     have aD:a.length<63:=by lia
     have ec:H.aZ aP (eV m j (gO P bl h q a) (E (.d Q)) (E (.d 4)) (E (.d (Q / 5))) v u) (.eH ["_law_wire"] [] .dy [(.O (.v 3) 4)] ⟨ax,[0]⟩ k (.O (.v 0) 1))=.i (ak .d (a.map (·.2))):=by
      rw[jH (w:=λr:cq=>r.2) (C:=.d) (T:=λr:cq=>[ao r]) (a:=a.map ao) a rfl (by exists eV,x) (i2 _ _) (λr hw=>by exists fa,iR) (by lia)]
     by_cases t:1+Q / 5 / 40 % 36∈a.map (·.2)
     ·rw[hQ (by exists eV,ih,vU,decide_true,ec,OP,decide_eq_true t,tL)]
      exact F (by lia) Y
     ·rw[mG (by exists eV,ih,vU,decide_true,ec,OP,decide_eq_false t,vE)]
      show bT (aO.bb aP aA (_::_) _) _
      rw[kz (j1 (C:=.dY) (V:=(3,[4])) (Q:=ak ao a) (a:=[ao (1+Q / 5 % 40,1+Q / 5 / 40 % 36)]) rfl rfl rfl (iy (by exists eV;rfl)) (j0 (g:=ao) (by lia)))]
      show bT (aO.bb aP aA [] (eV m j (gO P bl h q (a++[(1+Q / 5 % 40,1+Q / 5 / 40 % 36)])) (E (.d Q)) (E (.d 4)) (E (.d (Q / 5))) v u)) _
      refine F (by rw[dq];show _+1<=_;lia) {Y with ff:=?_,tF:=Cd Y.tF ⟨by simp only;lia,by simp only;lia,by simp only;lia,by simp only;lia⟩}
      rw[iA,yz];exact⟨Y.ff,qo.mpr ⟨gD,CB⟩,λS ac b au e=>t (by have:=fv.mp au;rw[e,this]at ac;exact ac)⟩
  ·obtain⟨P,bl,h,q,a,U,R,K,v,u,rfl,am,Y⟩:=V
   exists s
   exact⟨_,_,rfl,P,bl,h,q,a,rfl,Y⟩
 have av:xT=cy aP 1 8 Bt:=rfl;obtain⟨C,e,ab,P,bl,h,q,a,rfl,af⟩:=aj (ag [dD m]) (xH rfl);exact⟨P,bl,h,q,a,by rw[av];exact xJ (Ca rfl rfl ab),af⟩
def mK (r:cq):cq:=(r.2,r.1)
def o9 (a:er):List cq:=(kk pR (a.map mK)).map mK
theorem Qv:∀s:er,u4 (s.map ao)=E s
 |[]=>rfl|r::s=>by
  rw[eR];unfold u4;rw[Qv s];rfl
theorem adN {s:er}(Y:s.length<=36):Ft [ak ao s]=.i (ak ao (kk pR s)):=by
 show(match u4 _ with |some a=>Fs a |none=>.aQ)=_
 rw[Qv];show Mo.dW _ _=_
 rw[Mo.lN (by lia)];rfl
theorem adO (a:er):(o9 a).Perm a:=by
 have Y:=(z5 pR (a.map mK)).map mK;rw[gr]at Y;exact Y.trans (by rw[show(mK∘mK)=id from rfl,vM])
theorem Qw {ay:Type}[DecidableEq ay]:∀{m aS:List ay},m.Nodup->(∀X∈m,X∈aS)->m.length<=aS.length
 |[],_,_,_=>jl _|X::m,aS,a,b=>by
  rw[qo]at a;have Y:=Qw  (aS:=aS.erase X) a.2 λt d=>(List.mem_erase_of_ne λe=>a.1 (by simp_all)).mpr (b t (fM _ d))
  have c:=b X ek;rw[List.length_erase_of_mem c]at Y;have:=List.length_pos_of_mem c;rw[ee];lia
theorem Qx {a:er}(b:(a.map (·.2)).Nodup)(Y:∀r∈a,Cb r):a.length<=36:=by
 have:=Qw (aS:=gp 1 36) b λX c=>by
  obtain⟨r,hw,rfl⟩:=e3.mp c;have:=Y r hw;exact K6.mpr ⟨this.2.2.1,by have:=this.2.2.2;lia⟩
 rwa[ct]at this
theorem adP {a:er}(f:(a.map (·.2)).Nodup)(Y:∀r∈a,Cb r):rA (o9 a):=by
 have d:=adO a;refine⟨by rw[d.length_eq];exact Qx f Y,λr hw=>Y r (d.mem_iff.mp hw),?_⟩
 unfold o9;rw[tP];have z:((kk pR (a.map mK)).map (·.1)).Nodup:=by
  rwa[((z5 pR _).map _).nodup_iff,gr]
 refine((Ll (Ln qT qT) _).and (tP.mp z)).imp λ{S b} ⟨c,g⟩=>?_
 show S.1<b.1
 unfold sF at c;rw[if_neg λe=>g e.symm]at c
 have:=of_decide_eq_false (c);lia
def eP (w:cq):cq:=(37-w.2,37-w.1)
def jM (N:gL):gL:=(eP N.1,N.2.reverse)
def jk (r:hS):hS:=(eP r.1,eP r.2.1,r.2.2.1,eP r.2.2.2)
def tG:ji->ji
 |.aQ=>.aQ|.hU w=>.hU (eP w)|.gB r z w g=>.gB r z (eP w) g
theorem yl (w:cq):GV.cj [ao w]=.i (ao (eP w)):=by
 refine eB rfl rfl λaA a=>?_
 unfold OZ
 exists a,jh,iR
 fail "q"
def kU (A:Bool)(w:cq):Prop:=w.1<=w.2/\(if A then 13<=w.1/\w.2<=36 else 1<=w.1/\w.2<=24)
def gE (A:Bool)(D:Int)(w:cq):Prop:=w.1<=w.2/\(if A then 10-3*D<=w.1/\w.2<=12-3*D else 25+3*D<=w.1/\w.2<=27+3*D)
def Ce (A:Bool)(D:Int)(r:hS):Prop:=gE A D r.1/\(kU A r.2.1\/∃j:Int,0<=j/\j<D/\gE A j r.2.1)/\r.2.2.1∈l6/\kU A r.2.2.2
theorem vA {w:cq}(Y:lA 1 24 w):kU ax w:=⟨Y.2.1,Y.1,Y.2.2⟩
theorem Qy {D:Int}{w:cq}(Y:lA (25+3*D) (27+3*D) w):gE ax D w:=⟨Y.2.1,Y.1,Y.2.2⟩
theorem adQ {D:Int}{r:hS}(Y:HP D r):Ce ax D r:=⟨Qy Y.1,Y.2.1.imp vA λ⟨j,S,b,Q⟩=>⟨j,S,b,Qy Q⟩,Y.2.2.1,vA Y.2.2.2⟩
theorem HQ {A:Bool}{w:cq}(Y:kU A w):fL w:=by
 obtain⟨ab,af⟩:=Y;cases A<;>simp at af<;>exact⟨by lia,ab,by lia⟩
theorem Qz {A:Bool}{D:Int}{w:cq}(Y:gE A D w)(a:0<=D)(b:D<=3):fL w:=by
 obtain⟨ab,af⟩:=Y;cases A<;>simp at af<;>exact⟨by lia,ab,by lia⟩
theorem vB {w:cq}(Y:kU ax w):kU ae (eP w):=by
 unfold kU at Y ⊢;unfold eP;lia
theorem QA {D:Int}{w:cq}(Y:gE ax D w):gE ae D (eP w):=by
 unfold gE at Y ⊢;unfold eP;lia
theorem Cf {w:cq}(Y:fL w):fL (eP w):=by
 unfold fL eP at *;lia
theorem adR {D:Int}{r:hS}(Y:Ce ax D r):Ce ae D (jk r):=⟨QA Y.1,Y.2.1.imp vB λ⟨j,S,b,Q⟩=>⟨j,S,b,QA Q⟩,Y.2.2.1,vB Y.2.2.2⟩
theorem adS (S:Int)(z:Nat)(g:mQ):((gp S z).map g).reverse=(gp (37-(S+z-1)) z).map λQ=>g (37-Q):=by
 apply Cy;intro O;by_cases Y:O<z
 ·rw[List.getElem?_reverse (by rwa[ct,oF]),ct,oF]
  unfold gp;rw[gr,gr,gC,gC,Cw (by lia),Cw Y]
  show E (g (S+(z-1-O:Nat)))=E (g (37-(37-(S+z-1)+O)))
  congr 2;lia
 rw[yv (by rw[Cv,ct,oF];lia),yv (by rw[ct,oF];lia)]
theorem adT {cV:mQ}{N:gL}(Y:rv cV N):rv (λQ=>cV (37-Q)) (jM N):=by
 obtain⟨ab,af⟩:=Y;refine⟨Cf ab,?_⟩;obtain⟨a,b,c⟩:=ab;show N.2.reverse=(gp (37-N.1.2) (37-N.1.1+1-(37-N.1.2)).toNat).map _
 rw[af,adS,show(37-N.1.1+1-(37-N.1.2)).toNat=(N.1.2+1-N.1.1).toNat by lia]
 congr 2;lia
theorem adU {y:bo}{h:ji}(Y:o8 y h):o8 y (tG h):=by
 cases h with
 |aQ=>trivial|hU w=>exact Cf Y|gB r z w g=>
  obtain⟨ab,af,br,a,b,c⟩:=Y;exact⟨ab,af,br,Cf a,b,by show 37-w.1-(37-w.2)=g.2-g.1;lia⟩
theorem adV {h:ji}(Y:∀w∈(iT h).take 1,kU ax w):∀w∈(iT (tG h)).take 1,kU ae w:=by
 cases h with
 |aQ=>exact λw b=>by cases b
 |hU w=>exact λX a=>by rw[fv.mp a];exact vB (Y w (fv.mpr rfl))
 |gB r z w g=>exact λX a=>by rw[fv.mp a];exact vB (Y w (fv.mpr rfl))
theorem adW {A:Bool}{D:Int}{S w:cq}(Y:gE A D S)(d:0<=D)(e:D<=3)(a:kU A w):tx S w=ae:=by
 obtain⟨f,b⟩:=Y;obtain⟨g,c⟩:=a;unfold tx;cases A<;>simp at b c ⊢<;>lia
theorem QB {A:Bool}{D j:Int}{S w:cq}(Y:gE A D S)(a:gE A j w)(b:j≠D):tx S w=ae:=by
 obtain⟨c,d⟩:=Y;obtain⟨e,f⟩:=a;unfold tx;grind
theorem QC {ay:Type}{m:List ay}{V:Int×ay}(Y:V∈lQ m):∃O:Nat,V.1=(O:Int)/\m[O]?=E V.2:=by
 obtain⟨O,aB⟩:=tO Y;rw[Ed]at aB;cases a:m[O]? with
 |none=>simp_all|some X=>rw[a]at aB;cases aB;exact⟨O,rfl,a⟩
structure Cg (A:Bool)(cV:mQ)(P:List gL)(bl:er)(a:n4)(q b:er):Prop where
 iW:P.length<=8
 c4:∀N∈P,kU A N.1/\rv cV N
 ky:bl.length<=6
 cg:∀w∈bl,kU A w
 l7:a.length<=4
 dw:∀(O:Nat) r,a[O]?=E r->Ce A O r
 sl:q.length<=4
 cD:∀w∈q,fL w
 ff:(b.map (·.2)).Nodup
 tF:∀r∈b,Cb r
theorem adX {A:Bool}{cV:mQ}{P:List gL}{bl:er}{f:n4}{q m:er}{z:bo}{h:ji}{d g:Int}(s:∀Q,cV Q∈iS)(Y:Cg A cV P bl f q m)(t:mH z)(u:o8 z h)(a:∀w∈(iT h).take 1,kU A w)(v:0<=d/\d<=3/\d<=bl.length)(x:1<=g/\g<=12):hW ⟨z,P,h,bl,f,d,q,g,o9 m⟩:=by
 have i:=adP Y.ff Y.tF;have n:∀{O:Nat}{r:hS},f[O]?=E r->(O:Int)<=3:=λ{O r} e=>by have:=(hF.mp e).1;have:=Y.l7;lia
 refine⟨t,Y.iW,⟨cV,s,λN l=>(Y.c4 N l).2⟩,u,Y.ky,λw a=>HQ (Y.cg w a),Y.l7,λr hw=>?_,v,Y.sl,Y.cD,x,i.s,⟨i.G,i.A⟩,λV y w a=>?_⟩
 ·obtain⟨O,aB⟩:=tO hw
  obtain⟨c,B,C,F⟩:=Y.dw O r aB;have:=n aB;exact⟨Qz c (by lia) this,B.elim HQ λ⟨j,S,b,Q⟩=>Qz Q S (by lia),HQ F,C⟩
 ·obtain⟨D,e,o⟩:=QC y
  obtain⟨c,_⟩:=Y.dw D _ o;have I:=n o;rw[e]at a;have G:∀{w},kU A w->tx V.2.1 w=ae:=λY=>adW c (by lia) I Y
  unfold lH at a;rcases g0.mp a with a |a
  ·rcases g0.mp a with a |a
   ·rcases g0.mp a with a |J
    ·obtain⟨N,l,rfl⟩:=e3.mp a;exact G (Y.c4 N l).1
    ·exact G (‹∀w∈(iT h).take 1,kU A w› w J)
   ·exact G (Y.cg w a)
  ·obtain⟨cL,K,a⟩:=CA.mp a
   obtain⟨O,L,aB⟩:=QC K;obtain⟨M,c7,_,R⟩:=Y.dw O _ aB;unfold nM at a;rcases g0.mp a with a |a
   ·split at a
    ·cases a
    ·rename_i T
     rw[fv.mp a];exact QB c M (by rw[<- L];exact T)
   ·split at a
    ·rename_i U
     rcases df.mp a with rfl |a
     ·rcases c7 with c7 |⟨j,W,X,c7⟩
      ·exact G c7
      ·exact QB c c7 (by lia)
     ·rw[fv.mp a];exact G R
    ·cases a
def et (p:eI):ai:=.au .aG [.f p.dF,.aK (ak cU p.c4),dX p.cP,.aK (ak ao p.cg),.aK (ak cm p.dw),.d p.c6,.aK (ak ao p.cD),.d p.es,.aK (ak ao p.ff)]
theorem HR (p:eI):(et p).ed=ax:=by
 unfold et;rw[ai.ed];rfl
theorem QD:∀s:n4,hM ⟨ae,[11,12,13,14]⟩ (s.map cm)=E (s.map λr:hS=>[ao r.1,ao r.2.1,.f r.2.2.1,ao r.2.2.2])
 |[]=>rfl|r::s=>by rw[eR,hM,QD s];rfl
abbrev bt (a:ef)(b:Int)(z:fB)(h:ji)(c:Int)(d e f g:ai)(i:er)(n:VI.aX):VI.aX:=E (dD a)::E (.d b)::E (.f z)::E (dX h)::E (.d c)::E d::E e::E f::E g::E (.aK (ak ao i))::n
theorem QE {m:ef}{aA:i7}(y:∀O,aA O=ax){n b:Int}{z:bo}{h:ji}{P:List gL}{bl:er}{s:n4}{c e i j:ai}{q a:er}{t u v w x o15:jA}(D:c.bO=.aK (ak cU P))(A:e.bO=.aK (ak ao bl))(F:i.bO=.aK (ak cm s))(G:j.bO=.aK (ak ao q))(K:bl.length<=6)(I:a.length<=36):bT (aO.bb aP aA (nr.drop 6) (bt m n z h b c e i j a [t,u,v,w,x,o15,k,k])) λC _=>C=.en (et ⟨z,P,h,bl,s,b % (min 3 (bl.length:Int)+1),q,1+b / 4 % 12,o9 a⟩)\/False:=by
 unfold nr;simp only[pf,mN];have J:0<min 3 (bl.length:Int)+1:=by lia
 have aN:H.aZ aP (bt m n z h b c e i j a [t,u,v,w,x,o15,k,k]) (.eH ["_law_wire"] [] .dy [(.v 9)] ⟨ax,[0]⟩ k (.a_ [(.O (.v 0) 1),(.O (.v 0) 0)]))=.i (ak ao (a.map mK)):=by
  rw[jH (w:=mK) (C:=ao) (T:=λr:cq=>[ao r]) (a:=a.map ao) a rfl (by exists bt,n0) (i2 _ _) (λr hw=>by exists fa,iR,jh;rfl) (by lia)]
 have az:H.aZ aP (bt m n z h b c e i j a [t,u,v,w,x,o15,k,k]) (.eH ["_law_there", "_law_here"] [] .dy [(.dK .sZ [(.eH ["_law_wire"] [] .dy [(.v 9)] ⟨ax,[0]⟩ k (.a_ [(.O (.v 0) 1),(.O (.v 0) 0)]))])] ⟨ae,[0,1]⟩ k (.a_ [(.v 1),(.v 0)]))=.i (ak ao (o9 a)):=by
  rw[jH (w:=mK) (C:=ao)  (a:=(kk pR (a.map mK)).map ao) (kk pR (a.map mK)) rfl (by exists aN,adN (s:=a.map mK) (by rw[ct];exact I)) (xN (g:=λr:cq=>.d r.1) (Y:=λr:cq=>.d r.2) _ _ _) (λr hw=>by exists fa;rfl) (by rw[(z5 _ _).length_eq,ct];lia)]
  rfl
 rw[e0 (y:=ak ao (o9 a)) (by rw[lq,az];exact hR _ i1) (y _)]
 rw[e0 (y:=.d (b % (min 3 (bl.length:Int)+1))) (by exists bt,A,VI.p6 J) (y _)]
 have B:=HR ⟨z,P,h,bl,s,b % (min 3 (bl.length:Int)+1),q,1+b / 4 % 12,o9 a⟩;unfold et at B ⊢
 exists bt,(tA _),D,A,F,G,vl _ B
 exact⟨_,_,rfl,.inl rfl⟩
theorem adY (b:ef)(L:b.length<=63):∃p,Bu.cj [dD b]=.i (et p)/\hW p:=by
 obtain⟨cV,ac,P,bl,a,q,j,au,Y⟩:=adM b L;have ah:=yk b 0;have aj:=yk b 1;have al:=yk b 2
 generalize b.getD 0 0=x0 at ah
 generalize b.getD 1 0=x1 at aj
 generalize b.getD 2 0=x2 at al
 have I:=adA (x0 / 2);have M:=Qt (x0 / 2)
 generalize cI (x0 / 2)=z at I M
 obtain⟨h,am,an,t⟩:=adF M x1;have ap:=Qx Y.ff Y.tF;have aq:(dX h).bO=dX h:=tA _;have av:(dX h).ed=ae:=BZ _;have J:Cg ax cV P bl a q j:=⟨Y.iW,λN i=>⟨vA (Y.c4 N i).1,(Y.c4 N i).2⟩,Y.ky,λw t=>vA (Y.cg w t),Y.l7,λO r e=>adQ (Y.dw O r e),Y.sl,Y.cD,Y.ff,Y.tF⟩
 have R:∀{A:Bool}{cV:mQ}{P:List gL}{bl:er}{a:n4}{q:er}{h:ji},(∀Q,cV Q∈iS)->Cg A cV P bl a q j->o8 z h->(∀w∈(iT h).take 1,kU A w)->hW ⟨z,P,h,bl,a,x2 % (min 3 (bl.length:Int)+1),q,1+x2 / 4 % 12,o9 j⟩:=λ{A cV P bl a q h} ab af br aw=>by
  have ay:0<=x2 % (min 3 (bl.length:Int)+1):=rT _ (by lia)
  have k2:x2 % (min 3 (bl.length:Int)+1)<min 3 (bl.length:Int)+1:=qu _ (by lia)
  exact adX ab af M br aw ⟨ay,by lia,by lia⟩ ⟨by lia,by lia⟩
 have aB:∃p,hW p/\∀aA:Nat->Bool,(∀O,aA O=ax)->bT (aO.bb aP aA nr ([dD b].map E++fV 17 k)) λC _=>C=.en (et p)\/False:=by
  have bC:∀aA:Nat->Bool,(∀O,aA O=ax)->aO.bb aP aA nr ([dD b].map E++fV 17 k)=aO.bb aP aA (nr.drop 5) (bt b x0 z h x2 (.aK (ak cU P)) (.aK (ak ao bl)) (.aK (ak cm a)) (.aK (ak ao q)) j [k,k,k,k,k,k,k,k]):=λaA i=>by
   unfold nr;show aO.bb aP aA _ [E (dD b),k,k,k,k,k,k,k,k,k,k,k,k,k,k,k,k,k]=_
   rw[e0 (y:=.d x0) (by exists i,show rt.cj [dD b,.d 0]=_ from ah) (i _)]
   show aO.bb aP aA _ [E (dD b),E (.d x0),k,k,k,k,k,k,k,k,k,k,k,k,k,k,k,k]=_
   rw[e0 (y:=.f z) (by exists i,I) (i _)]
   show aO.bb aP aA _ [E (dD b),E (.d x0),E (.f z),k,k,k,k,k,k,k,k,k,k,k,k,k,k,k]=_
   rw[e0 (y:=dX h) (by exists i,show rt.cj [dD b,.d 1]=_ from aj,am,av) (i _)]
   show aO.bb aP aA _ [E (dD b),E (.d x0),E (.f z),E (dX h),k,k,k,k,k,k,k,k,k,k,k,k,k,k]=_
   rw[e0 (y:=.d x2) (by exists i,show rt.cj [dD b,.d 2]=_ from al) (i _)]
   show aO.bb aP aA _ [E (dD b),E (.d x0),E (.f z),E (dX h),E (.d x2),k,k,k,k,k,k,k,k,k,k,k,k,k]=_
   rw[PW (aN:=bt b x0 z h x2 (.aK (ak cU P)) (.aK (ak ao bl)) (.aK (ak cm a)) (.aK (ak ao q)) j [k,k,k,k,k,k,k,k]) (by
    have aW:H.aZ aP [E (dD b),E (.d x0),E (.f z),E (dX h),E (.d x2),k,k,k,k,k,k,k,k,k,k,k,k,k] (.b7 xT "_law_drawn" [(.v 0)])=.i (gO P bl a q j):=by exists au
    rw[aO.gm];show A3 aA _ (e6 (H.aZ aP _ _) _ [0])=_
    rw[aW,hR (y:=gO P bl a q j) _ (by show ai.k8 [_,_,_,_,_]=ae;simp only[Gs,i1,Gu,vE])]
    show(match i0 aA _ [5,6,7,8,9] [ak cU P,ak ao bl,ak cm a,ak ao q,ak ao j]with |some aC=>bY.i eY.de aC |none=>.aQ)=_
    rw[show i0 aA [E (dD b),E (.d x0),E (.f z),E (dX h),E (.d x2),k,k,k,k,k,k,k,k,k,k,k,k,k] [5,6,7,8,9] [ak cU P,ak ao bl,ak cm a,ak ao q,ak ao j]=E (bt b x0 z h x2 (.aK (ak cU P)) (.aK (ak ao bl)) (.aK (ak cm a)) (.aK (ak ao q)) j [k,k,k,k,k,k,k,k]) by exists i,bt])]
   rfl
  by_cases ar:x0 % 2=1
  ·have aD:Cg ae (λQ=>cV (37-Q)) (P.map jM) (bl.map eP) (a.map jk) (q.map eP) j:=⟨by rw[ct];exact Y.iW,λN i=>by
     obtain⟨V,K,rfl⟩:=e3.mp i;exact⟨vB (J.c4 V K).1,adT (J.c4 V K).2⟩,by rw[ct];exact Y.ky,λw t=>by
     obtain⟨V,K,rfl⟩:=e3.mp t;exact vB (J.cg V K),by rw[ct];exact Y.l7,λO r e=>by
     rw[gC]at e;cases S:a[O]? with
     |none=>rw[S]at e;cases e|some X=>rw[S]at e;cases e;exact adR (J.dw O X S),by rw[ct];exact Y.sl,λw t=>by
     obtain⟨V,K,rfl⟩:=e3.mp t;exact Cf (Y.cD V K),Y.ff,Y.tF⟩
   refine⟨_,R (λQ=>ac _) aD (adU an) (adV λw U=>vA (t w U)),λaA i=>?_⟩
   rw[bC aA i];unfold nr;simp only[pf,mN];rw[mG (by exists bt,ih,decide_eq_true ar)]
   show bT (aO.bb aP aA (_::_) _) _
   have as:H.aZ aP (bt b x0 z h x2 (.aK (ak cU P)) (.aK (ak ao bl)) (.aK (ak cm a)) (.aK (ak ao q)) j [k,k,k,k,k,k,k,k]) (.eH ["_law_field_here", "_law_text"] [] .dy [(.v 5)] ⟨ae,[0,1]⟩ k (.a_ [(p7 [(.v 0)]),(.m8 .pS (.v 1))]))=.i (ak cU (P.map jM)):=by
    rw[jH (w:=jM) (C:=cU) (T:=λN:gL=>[ao N.1,.f N.2]) (a:=P.map cU) P rfl (by exists bt,n0) (xN (g:=λN:gL=>ao N.1) (Y:=λN:gL=>.f N.2) _ _ _) (λN i=>?_) (by have:=Y.iW;lia)]
    obtain⟨⟨aJ,aK,aM⟩,aE⟩:=(J.c4 N i).2;have L:N.2.length<=36:=by rw[aE,ct,oF];lia
    have e:nS.w .pS N.2=.i (.f N.2.reverse):=by show Mo.eS _ _=_;rw[Mo.nI (by lia)]
    have az:m6 (.f N.2)=.i N.2:=rfl
    exists yl,fa,PX,az,e
    rfl
   rw[e0 (y:=ak cU (P.map jM)) (by rw[lq,as];exact hR _ i1) (i _)]
   have Z:∀(x:VI.aX) (O:Nat) (s:er),e9 x O=.i (.aK (ak ao s))->s.length<=36->H.aZ aP x (.eH ["_law_field_here"] [] .dy [(.v O)] ⟨ax,[0]⟩ k (p7 [(.v 0)]))=.i (ak ao (s.map eP)):=λx O s aF L=>by
    rw[jH (w:=eP) (C:=ao) (T:=λr:cq=>[ao r]) (a:=s.map ao) s rfl (by exists aF) (i2 _ _) (λr hw=>by exists fa,yl) (by lia)]
   have aG:=Y.ky;have aR:=Y.sl;have aS:=Y.l7;show bT (aO.bb aP aA (_::_) (bt b x0 z h x2 (ak cU (P.map jM)) (.aK (ak ao bl)) (.aK (ak cm a)) (.aK (ak ao q)) j [k,k,k,k,k,k,k,k])) _
   rw[e0 (y:=ak ao (bl.map eP)) (by rw[lq,Z _ 6 bl rfl (by lia)];exact hR _ i1) (i _)]
   show bT (aO.bb aP aA (_::_) (bt b x0 z h x2 (ak cU (P.map jM)) (ak ao (bl.map eP)) (.aK (ak cm a)) (.aK (ak ao q)) j [k,k,k,k,k,k,k,k])) _
   rw[e0 (y:=ak ao (q.map eP)) (by rw[lq,Z _ 8 q rfl (by lia)];exact hR _ i1) (i _)]
   show bT (aO.bb aP aA (_::_) (bt b x0 z h x2 (ak cU (P.map jM)) (ak ao (bl.map eP)) (.aK (ak cm a)) (ak ao (q.map eP)) j [k,k,k,k,k,k,k,k])) _
   rw[e0 (y:=ak cm []) (by rw[lq];exact hR (y:=ak cm []) _ i1) (i _)]
   show bT (aO.bb aP aA (_::_) (bt b x0 z h x2 (ak cU (P.map jM)) (ak ao (bl.map eP)) (.aK (ak cm a)) (ak ao (q.map eP)) j [E (ak cm []),k,k,k,k,k,k,k])) _
   refine rq (s:=a) (a:=λr:hS=>[ao r.1,ao r.2.1,.f r.2.2.1,ao r.2.2.2]) (y:=.aK (ak cm a)) (λy e=>∃u v B F,e=bt b x0 z h x2 (ak cU (P.map jM)) (ak ao (bl.map eP)) (.aK (ak cm a)) (ak ao (q.map eP)) j [E (ak cm (y.map jk)),u,v,B,F,k,k,k]) (by exists bt,n0) (by exists xK,vn) (QD a) ⟨_,_,_,_,rfl⟩ (λy r G e aH aa=>?_) (λe aa=>?_)
   ·obtain⟨u,v,B,F,rfl⟩:=aa
    have aT:y.length<4:=by have:=congrArg ma aH;simp at this;lia
    refine⟨bt b x0 z h x2 (ak cU (P.map jM)) (ak ao (bl.map eP)) (.aK (ak cm a)) (ak ao (q.map eP)) j [E (ak cm (y.map jk)),E (ao r.1),E (ao r.2.1),E (.f r.2.2.1),E (ao r.2.2.2),k,k,k],(by exists i,bt),?_⟩
    rw[kz (j1 (C:=.dY) (V:=(10,[])) (Q:=ak cm (y.map jk)) (a:=[cm (jk r)]) rfl rfl rfl (iy (by exists bt,yl,fa,hT;rfl)) (j0 (g:=cm) (by rw[ct];lia))),nj]
    exact⟨_,_,rfl,.inl ⟨.inl rfl,_,_,_,_,by rw[iA];rfl⟩⟩
   ·obtain⟨u,v,B,F,rfl⟩:=aa
    show bT (aO.bb aP aA (_::_) _) _
    rw[kx (y:=.aK (ak cm (a.map jk))) (e:=bt b x0 z h x2 (ak cU (P.map jM)) (ak ao (bl.map eP)) (.aK (ak cm a)) (ak ao (q.map eP)) j [E (.aK (ak cm (a.map jk))),u,v,B,F,k,k,k]) (by exists bt) (i _) (by show 7<18;lia)]
    show bT (aO.bb aP aA (_::_) (bt b x0 z h x2 (ak cU (P.map jM)) (ak ao (bl.map eP)) (.aK (ak cm (a.map jk))) (ak ao (q.map eP)) j [E (.aK (ak cm (a.map jk))),u,v,B,F,k,k,k])) _
    have hH:=λo15=>QE (m:=b) i (n:=x0) (b:=x2) (z:=z) (h:=tG h) (P:=P.map jM) (bl:=bl.map eP) (s:=a.map jk) (c:=ak cU (P.map jM)) (e:=ak ao (bl.map eP)) (i:=.aK (ak cm (a.map jk))) (j:=ak ao (q.map eP)) (q:=q.map eP) (t:=E (.aK (ak cm (a.map jk)))) (u:=u) (v:=v) (w:=B) (x:=F) (o15:=o15) rfl rfl rfl rfl (by rw[ct];exact aG) ap
    have I:∀{G:bY VI.aX eY}{o15},G=aO.bb aP aA (nr.drop 6) (bt b x0 z (tG h) x2 (ak cU (P.map jM)) (ak ao (bl.map eP)) (.aK (ak cm (a.map jk))) (ak ao (q.map eP)) j [E (.aK (ak cm (a.map jk))),u,v,B,F,o15,k,k])->bT G λC _=>C=.en (et ⟨z,P.map jM,tG h,bl.map eP,a.map jk,x2 % (min 3 ((bl.map eP).length:Int)+1),q.map eP,1+x2 / 4 % 12,o9 j⟩)\/False:=λ{G o15} e=>by rw[e];exact hH o15
    unfold nr at I;simp only[pf,mN]at I;clear hH bC Z as am R;cases h with
    |aQ=>
     rw[hQ (by exists bt;rfl)]
     exact I (o15:=k) rfl
    |hU w=>
     rw[mG (by exists bt;rfl)]
     show bT (aO.bb aP aA (_::_) _) _
     rw[e0 (y:=.d 1) (by exists bt;rfl) (i _)]
     show bT (aO.bb aP aA (_::_) (bt b x0 z (.hU w) x2 (ak cU (P.map jM)) (ak ao (bl.map eP)) (.aK (ak cm (a.map jk))) (ak ao (q.map eP)) j [E (.aK (ak cm (a.map jk))),u,v,B,F,E (.d 1),k,k])) _
     have aN:dt (dX (.hU w)) (.d 1)=.i (ao w):=rfl;rw[e0 (y:=dX (tG (.hU w))) (by exists bt,aq,aN,fa,yl;rfl) (i _)]
     exact I (o15:=E (.d 1)) rfl
    |gB r D w g=>
     rw[mG (by exists bt;rfl)]
     show bT (aO.bb aP aA (_::_) _) _
     rw[e0 (y:=.d 2) (by exists bt;rfl) (i _)]
     show bT (aO.bb aP aA (_::_) (bt b x0 z (.gB r D w g) x2 (ak cU (P.map jM)) (ak ao (bl.map eP)) (.aK (ak cm (a.map jk))) (ak ao (q.map eP)) j [E (.aK (ak cm (a.map jk))),u,v,B,F,E (.d 2),k,k])) _
     have aN:dt (dX (.gB r D w g)) (.d 2)=.i (ao w):=rfl;rw[e0 (y:=dX (tG (.gB r D w g))) (by exists bt,aq,aN,fa,yl;rfl) (i _)]
     exact I (o15:=E (.d 2)) rfl
  ·refine⟨_,R ac J an λw U=>vA (t w U),λaA i=>?_⟩
   rw[bC aA i];have:=QE (m:=b) i (n:=x0) (b:=x2) (z:=z) (h:=h) (P:=P) (bl:=bl) (s:=a) (c:=.aK (ak cU P)) (e:=.aK (ak ao bl)) (i:=.aK (ak cm a)) (j:=.aK (ak ao q)) (q:=q) (t:=k) (u:=k) (v:=k) (w:=k) (x:=k) (o15:=k) rfl rfl rfl rfl Y.ky ap;refine cast (congrArg (λG=>bT G _) ?_) this
   unfold nr;simp only[pf,mN];rw[hQ (by exists bt,ih,decide_eq_false ar)]
   rfl
 obtain⟨p,aI,D⟩:=aB;refine⟨p,?_,aI⟩;have t:Bu=cy aP 1 17 nr:=rfl;obtain⟨C,e,ab,rfl |af⟩:=D (ag [dD b]) (xH rfl)
 ·rw[t];exact xJ (Ca rfl rfl ab)
 ·exact af.elim
def l_ (G:hX):cq:=(G.1.1+G.2,G.1.2+G.2)
def gP (G:hX):ai:=.au .aG [ao G.1,ao (l_ G)]
def hE (bp:lu):ai:=.au .aG (bp.map gP)
theorem Ci (bp:lu):(hE bp).bO=.aK (hE bp):=rfl
theorem QF (G:hX):(ai.aK (gP G)).bO=.aK (gP G):=rfl
theorem adZ (X:cq):l_ (X,0)=X:=by unfold l_;simp_all
theorem QG (X:cq):gP (X,0)=.au .aG [ao X,ao X]:=by unfold gP;rw[adZ]
theorem QH {bp:lu}(G:hX)(Y:bp.length<100000):q9 [hE bp,gP G]=.i .a9 [hE (bp++[G]),.eO]:=by
 show(if(bp.map gP).length<cw then _ else _)=_
 rw[ct,if_pos (by have:=lK (z:=bp.length+1) (by lia);lia)];unfold hE;rw[iA];rfl
theorem ad0 (bp:lu):qZ [hE bp]=.i (bp.map gP):=rfl
theorem QI:∀s:lu,hM ⟨ae,[4,5]⟩ (s.map gP)=E (s.map λG=>[ao G.1,ao (l_ G)])
 |[]=>rfl|r::s=>by rw[eR,hM,QI s];rfl
theorem ad1 (q:lu)(V:hX)(Y:q.length<100000):dt (hE (q++[V])) (.d (-1))=.i (.aK (gP V)):=by
 have x1:h8 ((q++[V]).map gP).length (-1)=E q.length:=by
  unfold h8;rw[if_neg (by lia),if_pos (by simp;lia),ct,dq,yu]
  congr 1;lia
 show Mo.e8 _=_
 unfold eb;rw[x1];show Mo.e8 ((((q++[V]).map gP)[q.length]?).map _)=_
 rw[iA,pe (by simp),ct,yJ];rfl
theorem ad2 (q:lu)(V:hX):f3 ae (hE (q++[V])) (.au .aG [])=.i (.aM ae):=by
 refine tr (Q:=ax) ?_;show(if((q++[V]).map gP).length=0 then _ else E ax)=_
 rw[if_neg (by simp)]
theorem QJ (S:cq)(X t:Int):f3 ax (ao S) (.au .a_ [.d X,.d t])=.i (.aM (decide (S=(X,t)))):=by
 have:f3 ax (ao S) (.au .a_ [.d X,.d t])=.i (.aM (decide (S.1=X) && decide (S.2=t))):=by
  rw[tr (Q:=decide (S.1=X) && decide (S.2=t)) ?_]
  ·rfl
  show(((fI 11 (.d _) (.d X)).bind λN=>((fI 11 (.d _) (.d t)).bind λV=>(E ae).map λI=>V && I).map λI=>N && I).map λb=>b && ae)=_
  rw[vp 11,vp 11];simp_all
 rw[this];congr 2;rw[<- Bool.decide_and];exact decide_eq_decide.mpr ⟨λY=>C1 Y.1 Y.2,λY=>by rw[Y];trivial⟩
theorem ad3 (r:cq)(z:Nat):f5 (r,z+1)=f5 (r,z)++[(r.1+z+1,r.2+z+1)]:=by
 unfold f5 B5;rw[List.range_succ];grind
theorem HS (X:cq):f5 (X,0)=[X]:=by
 show[(X.1+(0:Nat),X.2+(0:Nat))]=_;simp_all
theorem ad4 (G:hX):G.1∈f5 G:=e3.mpr ⟨0,lD.mpr (by lia),by unfold B5;simp_all⟩
theorem ad5 (G:hX):l_ G∈f5 G:=e3.mpr ⟨G.2,lD.mpr (by lia),rfl⟩
theorem QK {bp:lu}{a:er}(C:rA a)(Y:bp.flatMap f5=a):∀G∈bp,j2 G:=λG d=>by
 have c:∀r∈f5 G,r∈a:=λr hw=>by rw[<- Y];exact CA.mpr ⟨G,d,hw⟩
 have S:=C.G _ (c _ (ad4 G));have b:=C.G _ (c _ (ad5 G));exact⟨S.1,b.2.1,S.2.2.1,b.2.2.2⟩
theorem HU (bp:lu):bp.length<=(bp.flatMap f5).length:=by
 induction bp with
 |nil=>exact cM 0|cons G bp a=>rw[ql,dq,ee];unfold f5 at a ⊢;grind
theorem ad6 {Q:ai}{m:bf}{S:ai}{n:VI.aX}:dS.aZ aP (E Q::E (.au .aG (m++[S]))::n) (.A (.v 1) (.cB (.z 1)))=.i (1,[m.length]):=by
 have x1:h8 (m++[S]).length (-1)=E m.length:=by
  unfold h8;rw[if_neg (by lia),if_pos (by simp;lia),dq,yu]
  congr 1;lia
 show(iQ _).aC _=_
 rw[tp,abY,abS];show(iQ _).aC _=_
 show Mo.e8 ((s9 _ _).map _)=_
 have:s9 (.au .aG (m++[S])) (.d (-1))=E m.length:=by
  show(h8 _ _).bind _=_
  rw[x1];show(if _ then _ else _)=_;rw[if_pos (by simp)]
 rw[this];rfl
theorem ad7 {Q:ai}{m:bf}{S:ai}{n:VI.aX}:d3 (E Q::E (.au .aG (m++[S]))::n) (1,[m.length])=E S:=by
 show(ai.au _ _).at [m.length]=_
 rw[ai.at,(show(m++[S])[m.length]?=E S by simp)];rfl
theorem ad8 {Q:ai}{m:bf}{S b:ai}{n:VI.aX}:eZ (E Q::E (.au .aG (m++[S]))::n) (1,[m.length]) b=E Q::E (.au .aG (m++[b]))::n:=by
 show E Q::E _::n=_
 rw[ai.gn,(show(m++[S])[m.length]?=E S by simp)]
 show E Q::E (ai.au _ _)::n=_
 rw[ai.gn,H_ _ _ (cM _),yJ,vH]
theorem QL (q:lu)(G:hX):hE (q++[G])=.au .aG (q.map gP++[gP G]):=by unfold hE;rw[iA];rfl
theorem ad9 {b:er}(C:rA b):∃aF,Bw.cj [.aK (ak ao b)]=.i (.f (jj aF))/\aF.flatMap f5=b:=by
 have A:∀aA:Nat->Bool,(∀O,aA O=ax)->bT (aO.bb aP aA Bv ([.aK (ak ao b)].map E++fV 5 k)) λv _=>∃aF,v=.en (.f (jj aF))/\aF.flatMap f5=b:=λaA f=>by
  unfold Bv;rw[e0 (y:=hE []) (by rw[lq];exact hR (y:=hE []) _ rfl) (f _)]
  show bT (aO.bb aP aA _ [E (.aK (ak ao b)),E (hE []),k,k,k,k]) _
  have M:=C.s;refine rq (s:=b) (a:=λr=>[ao r]) (y:=.aK (ak ao b)) (λy e=>∃bp i,e=[E (.aK (ak ao b)),E (hE bp),i,k,k,k]/\bp.flatMap f5=y) (by exists f,n0) (by exists f) (i2 _ _) ⟨[],k,rfl,rfl⟩ (λy X G e m j=>?_) (λe j=>?_)
  ·obtain⟨bp,i,rfl,h⟩:=j
   have B:y.length<36:=by have:=congrArg ma m;simp at this;lia
   have n:=HU bp;rw[h]at n;refine⟨[E (.aK (ak ao b)),E (hE bp),E (ao X),k,k,k],(by exists f),?_⟩
   rcases List.eq_nil_or_concat bp with rfl |⟨q,V,rfl⟩
   ·have aN:f3 ae (hE []) (.au .aG [])=.i (.aM ax):=rfl
    rw[hQ (by exists Ci,Be,aN)]
    show bT (aO.bb aP aA (_::_) _) _
    rw[kz (j1 (C:=.dY) (V:=(1,[])) (Q:=hE []) (a:=[gP (X,0)]) rfl rfl rfl (iy (by rw[QG];exists fa,hT)) (QH (bp:=[]) (X,0) (by decide)))]
    show bT (aO.bb aP aA [] _) _
    rw[nj];exact⟨_,_,rfl,.inl ⟨.inl rfl,[(X,0)],_,rfl,by rw[<- h];show f5 (X,0)++[]=_;rw[HS];rfl⟩⟩
   ·rw[List.concat_eq_append]at *
    have P:q.length<100:=by rw[dq]at n;lia
    have aN:f3 ae (hE (q++[V])) (.au .aG [])=.i (.aM ae):=ad2 q V;have az:dt (hE (q++[V])) (.d (-1))=.i (.aK (gP V)):=ad1 q V (by lia)
    have s:dt (gP V) (.d 1)=.i (ao (l_ V)):=rfl;by_cases Q:X=((l_ V).1+1,(l_ V).2+1)
    ·rw[mG (by exists Ci,QF,Be,aN,az,s,jh,iR,fa,QJ,decide_eq_true Q,vE)]
     show bT (aO.bb aP aA (_::_) _) _
     have D:gP (V.1,V.2+1)=.au .aG [ao V.1,ao X]:=by
      unfold gP l_;rw[Q];unfold l_;simp only[Int.natCast_add,Int.add_assoc];rfl
     have u:rd aP (.A (.v 1) (.cB (.z 1))) (.z 1) (.v 2) [E (.aK (ak ao b)),E (.au .aG (q.map gP++[gP V])),E (ao X),k,k,k]=.i .de (eZ [E (.aK (ak ao b)),E (.au .aG (q.map gP++[gP V])),E (ao X),k,k,k] (1,[(q.map gP).length]) (gP (V.1,V.2+1))):=by
      rw[D];refine acS (G:=.a9) (dO:=.eO) (pI:=.d 1) (V:=(1,[(q.map gP).length])) (y:=ao X) (S:=.d 1) (Q:=gP V) (cR:=.au .aG [ao V.1,ao X]) (by exists fa,hT) ad6 (by exists f) ad7 ?_
      rfl
     rw[QL,PW (by rw[aO.gm];exact u),ad8,<- QL]
     show bT (aO.bb aP aA [] _) _
     rw[nj];exact⟨_,_,rfl,.inl ⟨.inl rfl,q++[(V.1,V.2+1)],_,rfl,by
      rw[<- h,qj,qj,od];congr 1;show f5 (V.1,V.2+1)++[]=f5 V++[]++[X]
      rw[ad3,lC,lC,Q];rfl⟩⟩
    ·rw[hQ (by exists Ci,QF,Be,aN,az,s,jh,iR,fa,QJ,decide_eq_false Q,tL)]
     show bT (aO.bb aP aA (_::_) _) _
     rw[kz (j1 (C:=.dY) (V:=(1,[])) (Q:=hE (q++[V])) (a:=[gP (X,0)]) rfl rfl rfl (iy (by rw[QG];exists fa,hT)) (QH (bp:=q++[V]) (X,0) (by lia)))]
     show bT (aO.bb aP aA [] _) _
     rw[nj];exact⟨_,_,rfl,.inl ⟨.inl rfl,q++[V]++[(X,0)],_,rfl,by rw[qj,h];show y++(f5 (X,0)++[])=_;rw[HS];rfl⟩⟩
  ·obtain⟨bp,i,rfl,h⟩:=j
   have z:=QK C h;have n:=HU bp;rw[h]at n;rw[e0 (y:=ak .f []) (by rw[lq];exact hR (y:=ak .f []) _ rfl) (f _)]
   show bT (aO.bb aP aA _ [E (.aK (ak ao b)),E (hE bp),i,E (ak .f []),k,k]) _
   refine Bg (aN:=[E (.aK (ak ao b)),E (.aK (hE bp)),i,E (ak .f []),k,k]) (s:=bp) (d:=λG=>[ao G.1,ao (l_ G)]) (y:=.aK (hE bp)) (λy e=>∃w x,e=[E (.aK (ak ao b)),E (.aK (hE bp)),i,E (ak .f (y.map iz)),w,x]) (by exists f,Ci;rw[vl _ (show(ai.aK (hE bp)).ed=ax by rw[ai.ed];rfl)];rfl) (by exists xK,ad0) (QI bp) ⟨k,k,rfl⟩ (λy X G e m j=>?_) (λe j=>?_)
   ·obtain⟨w,x,rfl⟩:=j
    have B:y.length<36:=by have:=congrArg ma m;simp at this;lia
    have t:=z X (by rw[m];simp)
    have aN:=rz t.Y;have az:=rz t.yi;have S:=(hC t.Y).1;have T:=(hC t.yi).1;have s:vr.cj [(ai.au .a_ [.d X.1.1,.d (l_ X).1]).bO]=.i (.f (b1 (lx X))):=aN;have u:vr.cj [(ai.au .a_ [.d X.1.2,.d (l_ X).2]).bO]=.i (.f (b1 (l9 X))):=az;have F:hu (.f (b1 (lx X))) (.f [62])=.i (.f (b1 (lx X)++[62])):=lr (by simp;lia)
    have I:hu (.f (b1 (lx X)++[62])) (.f (b1 (l9 X)))=.i (.f (iz X)):=by rw[lr (by simp;lia)];unfold iz;simp
    refine⟨[E (.aK (ak ao b)),E (.aK (hE bp)),i,E (ak .f (y.map iz)),E (ao X.1),E (ao (l_ X))],(by exists f),?_⟩
    rw[kz (j1 (C:=.dY) (V:=(3,[])) (Q:=ak .f (y.map iz)) (a:=[.f (iz X)]) rfl rfl rfl (iy (by exists fa,jh,iR,s,u,F,I)) (j0 (g:=.f) (by rw[ct];lia))),nj]
    exact⟨_,_,rfl,.inl ⟨.inl rfl,_,_,by rw[iA];rfl⟩⟩
   ·obtain⟨w,x,rfl⟩:=j
    have J:kn [44,32] [.aK (ak .f (bp.map iz))]=.i (.f (jj bp)):=(show _=kn [44,32] [ak .f (bp.map iz)]from rfl).trans <|tD (by decide) (by rw[ct];lia) (λN f=>by obtain⟨G,K,rfl⟩:=e3.mp f;have:=B6 (z G K);lia)
    exists f,iP,nt,J
    exact⟨_,_,rfl,bp,rfl,h⟩
 have L:Bw=cy aP 1 5 Bv:=rfl;obtain⟨v,e,ab,aF,rfl,af⟩:=A (ag [.aK (ak ao b)]) (xH rfl);exact⟨aF,by rw[L];exact xJ (Ca rfl rfl ab),af⟩
theorem ad_ {ay:Type}(s:List ay){D:Int}(a:0<=D)(ab:D<=s.length):(eD s (E D) k++eD s k (E D)).Perm s:=by
 rw[uG a,sv a];exact List.perm_append_comm.trans (by rw[Ia])
def hj (r:cq):List Nat:=cX r.1++[62]++cX r.2
theorem aea (r:cq):hj r=iz (r,0):=by
 unfold hj iz b1 lx l9;grind
theorem QM:∀V:er,(V.flatMap λr=>f5 (r,0))=V
 |[]=>rfl|r::V=>by rw[ql,QM V,HS];rfl
theorem aeb {c:er}(C:rA c)(Q:Int):∃aF,Bx.cj [.aK (ak ao c),.d Q]=.i (.f (jj aF))/\(∀G∈aF,j2 G)/\(aF.flatMap f5).Perm c:=by
 have P:=C.s;have w:∀r∈c,j2 (r,0):=λr hw=>by
  obtain⟨x,B,y,F⟩:=C.G r hw;exact⟨x,by show r.1+((0:Nat):Int)<=40;lia,y,by show r.2+((0:Nat):Int)<=36;lia⟩
 have J:∀aA:Nat->Bool,(∀O,aA O=ax)->bT (aO.bb aP aA ts ([.aK (ak ao c),.d Q].map E++fV 2 k)) λv _=>∃aF,v=.en (.f (jj aF))/\(∀G∈aF,j2 G)/\(aF.flatMap f5).Perm c:=λaA i=>by
  unfold ts;show bT (aO.bb aP aA _ [E (.aK (ak ao c)),E (.d Q),k,k]) _
  have ec:H.aZ aP [E (.aK (ak ao c)),E (.d Q),k,k] (.eH ["_law_here", "_law_there"] [] .dy [(.v 0)] ⟨ae,[0,1]⟩ k (.aT .cO (.aT .cO (.dK .f [(.v 0)]) (.D (.f [62]))) (.dK .f [(.v 1)])))=.i (ak .f (c.map hj)):=by
   rw[jH (w:=hj) (C:=.f) (T:=λr:cq=>[.d r.1,.d r.2]) (a:=c.map ao) c rfl (by exists n0) (xN (g:=λr:cq=>.d r.1) (Y:=λr:cq=>.d r.2) _ _ _) (λr hw=>?_) (by lia)]
   obtain⟨x,B,y,F⟩:=C.G r hw;have ez:=kA (z:=r.1) (by lia) (by lia)
   have dC:=kA (z:=r.2) (by lia) (by lia)
   have R:=ez.1.1;have S:=dC.1.1
   exists ez.2.1,dC.2.1,lr (S:=cX r.1) (b:=[62]) (by simp;lia),lr (S:=cX r.1++[62]) (b:=cX r.2) (by simp;lia)
   rfl
  rw[e0 (y:=ak .f (c.map hj)) (by rw[lq,ec];exact hR _ i1) (i _)]
  show bT (aO.bb aP aA _ [E (.aK (ak ao c)),E (.d Q),E (ak .f (c.map hj)),k]) _
  have z:(0:Int)<(c.map hj).length+1:=by lia
  have j:=rT (Q / 3) (show((c.map hj).length:Int)+1≠0 by lia)
  have A:=qu (Q / 3) z;rw[e0 (y:=.d (Q / 3 % ((c.map hj).length+1))) (by exists VI.p6 z) (i _)]
  show bT (aO.bb aP aA _ [E (.aK (ak ao c)),E (.d Q),E (ak .f (c.map hj)),E (.d (Q / 3 % ((c.map hj).length+1)))]) _
  generalize U:Q / 3 % ((c.map hj).length+1)=D at j A
  rw[ct]at A;have t:eD (c.map hj) (E D) k++eD (c.map hj) k (E D)=(eD c (E D) k++eD c k (E D)).map hj:=by
   rw[iA,uG j,sv j,uG j,sv j,Iw,Iy]
  have l:=ad_ c j (by lia)
  generalize eD c (E D) k++eD c k (E D)=V at t l
  have W:(eD (c.map hj) (E D) k).length+(eD (c.map hj) k (E D)).length<=1000:=by
   have:=congrArg ma t;rw[dq,ct,l.length_eq]at this;lia
  rw[e0 (y:=ak .f (V.map hj)) (by
   have K:hu (ak .f (eD (c.map hj) (E D) k)) (ak .f (eD (c.map hj) k (E D)))=.i (ak .f (V.map hj)):=by
    rw[<- t];exact n1 (by lia)
   exists K) (i _)]
  show bT (aO.bb aP aA (_::_) [E (.aK (ak ao c)),E (.d Q),E (ak .f (V.map hj)),E (.d D)]) _
  have m:∀cL:er,cL.Perm c->bT (aO.bb aP aA (ts.drop 4) [E (.aK (ak ao c)),E (.d Q),E (ak .f (cL.map hj)),E (.d D)]) λv _=>∃aF,v=.en (.f (jj aF))/\(∀G∈aF,j2 G)/\(aF.flatMap f5).Perm c:=λcL q=>by
   unfold ts;simp only[pf,mN];by_cases I:Q % 3=0
   ·obtain⟨aF,e,s⟩:=ad9 C
    rw[mG (by exists ih,decide_eq_true I)]
    show bT (aO.bb aP aA (_::_) _) _
    exists n0,e
    exact⟨_,_,rfl,aF,rfl,QK C s,by rw[s]⟩
   ·rw[hQ (by exists ih,decide_eq_false I)]
    show bT (aO.bb aP aA (_::_) _) _
    have L:cL.map hj=(cL.map λr=>((r,0):hX)).map iz:=by rw[gr];exact qi λr _=>aea r
    have M:kn [44,32] [.aK (ak .f (cL.map hj))]=.i (.f (jj (cL.map λr=>(r,0)))):=(show _=kn [44,32] [ak .f (cL.map hj)]from rfl).trans <|by
     rw[L];exact tD (by decide) (by rw[ct,ct,q.length_eq];lia) (λN i=>by
      obtain⟨G,u,rfl⟩:=e3.mp i;obtain⟨r,hw,rfl⟩:=e3.mp u;have:=B6 (w r (q.mem_iff.mp hw));lia)
    exists iP,nt,M
    refine⟨_,_,rfl,_,rfl,λG u=>?_,?_⟩
    ·obtain⟨r,hw,rfl⟩:=e3.mp u
     exact w r (q.mem_iff.mp hw)
    ·rw[List.flatMap_map]
     rw[QM];exact q
  unfold ts at m;simp only[pf,mN]at m;by_cases I:Q / 50 % 2=1
  ·rw[mG (by exists ih,decide_eq_true I)]
   show bT (aO.bb aP aA (_::_) _) _
   rw[e0 (y:=ak .f (V.reverse.map hj)) (by exists i;rw[Il]) (i _)]
   exact m V.reverse (V.reverse_perm.trans l)
  ·rw[hQ (by exists ih,decide_eq_false I)]
   exact m V l
 have s:Bx=cy aP 2 2 ts:=rfl;obtain⟨v,e,ab,aF,rfl,af,br⟩:=J (ag [.aK (ak ao c),.d Q]) (xH rfl);exact⟨aF,by rw[s];exact xJ (Ca rfl rfl ab),af,br⟩
section
variable {p:eI}
theorem Cj:dt (et p) (.d 0)=.i (.f p.dF):=rfl
theorem QN:dt (et p) (.d 1)=.i (.aK (ak cU p.c4)):=rfl
theorem HV:dt (et p) (.d 2)=.i (dX p.cP):=by
 show iQ _=_
 rw[tA]
theorem HW:dt (et p) (.d 3)=.i (.aK (ak ao p.cg)):=rfl
theorem QO:dt (et p) (.d 4)=.i (.aK (ak cm p.dw)):=rfl
theorem QP:dt (et p) (.d 5)=.i (.d p.c6):=rfl
theorem HX:dt (et p) (.d 6)=.i (.aK (ak ao p.cD)):=rfl
theorem QQ:dt (et p) (.d 7)=.i (.d p.es):=rfl
theorem HY:dt (et p) (.d 8)=.i (.aK (ak ao p.ff)):=rfl
theorem nu:(ai.aK (et p)).bO=.aK (et p):=rfl
end
theorem QR (Q:Nat):∀(s N:fB),N∈eX Q s->N.length<=s.length
 |[],N,Y=>by rw[fv.mp Y];exact cM _
 |y::G,N,Y=>by
  have a:=QR Q G;rw[eX]at Y;rw[ee];by_cases e:y=Q
  ·rw[if_pos e]at Y
   grind
  ·rw[if_neg e]at Y
   cases I:eX Q G with
   |nil=>exact absurd I (D2 Q G)|cons V b=>
    rw[I]at Y a;grind
theorem QS (Q:Nat):∀s:bo,(eX Q s).length<=s.length+1
 |[]=>cM _|y::G=>by
  have a:=QS Q G;rw[eX,ee];by_cases e:y=Q
  ·simp_all
  ·rw[if_neg e]
   cases I:eX Q G with
   |nil=>exact absurd I (D2 Q G)|cons V b=>rw[I]at a;grind
abbrev Ck:=bo ⊕ cq
def vC:Ck->ai
 |.inl r=>.f r|.inr w=>ao w
def qc:Ck->bo
 |.inl r=>r|.inr w=>b1 w
def qd:ji->List Ck
 |.aQ=>[]|.hU w=>[.inl kT,.inr w]|.gB r z w g=>[.inl r,.inl z,.inr w,.inr g]
theorem ym (N:Ck):(vC N).bO=vC N:=by cases N<;>rfl
theorem tH {aD:fT}(ab:aD.length<=100)(Y:∀r∈aD,r.length<=1000):kn [32] [ak .f aD]=.i (.f (fk aD)):=by
 rw[tD (by decide) (by lia) Y,B0]
theorem QT {aD:fT}(ab:aD.length<=100)(Y:∀r∈aD,r.length<=1000):kn [32] [.aK (ak .f aD)]=.i (.f (fk aD)):=tH ab Y
abbrev e2 (p:eI)(n:fB)(a:fT)(s:VI.aX):VI.aX:=E (.aK (et p))::E (.f n)::E (ak .f a)::s
theorem QU:∀s:n4,hM ⟨ae,[8,9,10,11]⟩ (s.map cm)=E (s.map λr:hS=>[ao r.1,ao r.2.1,.f r.2.2.1,ao r.2.2.2])
 |[]=>rfl|r::s=>by rw[eR,hM,QU s];rfl
theorem QV {e:VI.aX}{D:Int}{p:eI}{av:er}(Y:∀w∈av,fL w)(g:av.length<=100)(a:dt (et p) (.d D)=.i (.aK (ak ao av)))(b:e9 e 0=.i (.aK (et p))):H.aZ aP e (.eF .jd (.D (.f [44,32])) [(.eH ["_law_field_here"] [] .dy [(.O (.v 0) D)] ⟨ax,[0]⟩ k (n3 [(.v 0)]))])=.i (.f (e_ av)):=by
 have ec:H.aZ aP e (.eH ["_law_field_here"] [] .dy [(.O (.v 0) D)] ⟨ax,[0]⟩ k (n3 [(.v 0)]))=.i (ak .f (av.map b1)):=by
  rw[jH (w:=b1) (C:=.f)  (a:=av.map ao) av rfl (by exists b,a) (i2 _ _) (λr hw=>by exists rz (fC (Y r hw))) (by lia)]
 exists iP,nt,ec,tD (a:=[44,32]) (aF:=av.map b1) (by decide) (by rw[ct];lia) (λN c=>by obtain⟨G,d,rfl⟩:=e3.mp c;have:=(hC (fC (Y G d))).1;lia)
 rfl
theorem QW {av:er}(Y:∀w∈av,fL w)(c:av.length<=100):(e_ av).length<=1000:=by
 have:=vu [44,32]  _ (λN a=>by obtain⟨G,b,rfl⟩:=e3.mp a;exact(hC (fC (Y G b))).1)
 rw[ct,show 5+[44,32].length=7 from rfl]at this
 unfold e_;lia
theorem HZ (S b:fB)(z:Nat):eD [S,b] k (E (1+(z:Int)))=if z=0 then[S]else[S,b]:=by
 rw[sv (by lia)]
 cases z with
 |zero=>rfl|succ z=>rw[show(1+((z+1:Nat):Int)).toNat=z+2 by lia];simp
theorem aec {p:eI}{n:bo}(Y:hW p)(aH:n.length<=1000):GW.cj [.aK (et p),.f n]=.i (ak .f (c9 p n)):=by
 have a7:=Y.iW;have a8:=Y.l7;have a9:=Y.ky;have a_:=Y.sl;have aI:=Y.cI;have ba:=Y.c6;have bb:=Y.es;have aj:=kA (z:=p.c6) (by lia) (by lia)
 have al:=kA (z:=p.es) (by lia) (by lia)
 have bc:=aj.1.1;have bd:=al.1.1;have aJ:=QW Y.cg (by lia)
 have aK:=QW Y.cD (by lia)
 refine eB rfl rfl λaA f=>?_
 unfold ru;show bT (aO.bb aP aA _ [E (.aK (et p)),E (.f n),k,k,k,k,k,k,k,k,k,k,k]) _
 rw[e0 (y:=ak .f [fk [kB,p.dF]]) (by
  have aN:hu (.f [116,97,107,101,32]) (.f p.dF)=.i (.f (fk [kB,p.dF])):=by rw[lr (by have:=aI.2.1;simp;lia)];rfl
  exists nu,Cj,aN
  rfl) (f _)]
 show bT (aO.bb aP aA _ (e2 p n [fk [kB,p.dF]] [k,k,k,k,k,k,k,k,k,k])) _
 refine rq (s:=p.c4) (a:=λN:gL=>[ao N.1,.f N.2]) (y:=.aK (ak cU p.c4)) (λy e=>∃i j,e=e2 p n (fk [kB,p.dF]::y.map i3) [i,j,k,k,k,k,k,k,k,k]) (by exists e2,nu,QN,n0) (by exists xK,vn;rfl) (xN (g:=λN:gL=>ao N.1) (Y:=λN:gL=>.f N.2) _ _ _) ⟨k,k,rfl⟩ (λy N G e K s=>?_) (λe s=>?_)
 ·obtain⟨i,j,rfl⟩:=s
  have am:y.length<8:=by have:=congrArg ma K;simp at this;lia
  have C:=HM Y N (by rw[K];simp)
  have aM:=(hC (fC C.w)).1;have aR:=C.s;refine⟨e2 p n (fk [kB,p.dF]::y.map i3) [E (ao N.1),E (.f N.2),k,k,k,k,k,k,k,k],(by exists f,e2),?_⟩
  obtain⟨u,aN,Z⟩:∃u,hu (.f [112,105,99,107,32]) (.f (b1 N.1))=.i (.f u)/\u=[112,105,99,107,32]++b1 N.1:=⟨_,lr (by simp;lia),rfl⟩
  obtain⟨v,az,an⟩:∃v,hu (.f u) (.f [32])=.i (.f v)/\v=u++[32]:=⟨_,lr (by rw[Z];simp;lia),rfl⟩
  have aS:hu (.f v) (.f (lz N.2))=.i (.f (i3 N)):=by
   rw[lr (by rw[B7,an,Z];simp;lia),an,Z]
   show _=iQ (ai.f (ly++32::(b1 N.1++32::lz N.2)))
   simp[ly]
  have aT:nR N.2 [.f [32]]=.i (ak .f (eX 32 N.2)):=B1 (by lia)
  have aU:kn [95] [ak .f (eX 32 N.2)]=.i (.f (lz N.2)):=by
   rw[tD (by decide) (by have:=QS 32 N.2;lia) (λV aV=>by have:=QR 32 N.2 V aV;lia),B0,HF];rfl
  rw[kz (j1 (C:=.dY) (V:=(2,[])) (Q:=ak .f (fk [kB,p.dF]::y.map i3)) (a:=[.f (i3 N)]) rfl rfl rfl (iy (by exists e2,fa,rz (fC C.w),aN,az,iP,tC,nt,aT,aU,aS)) (j0 (g:=.f) (by rw[ee,ct];lia))),nj]
  exact⟨_,_,rfl,.inl ⟨.inl rfl,_,_,by rw[iA];rfl⟩⟩
 obtain⟨i,j,rfl⟩:=s;show bT (aO.bb aP aA (_::_) _) _
 obtain⟨x,aa⟩:∃x,x=fk [kB,p.dF]::p.c4.map i3:=⟨_,rfl⟩;have be:x.length<=9:=by rw[aa,ee,ct];lia
 rw[<- aa]
 suffices dz:∀J m,bT (aO.bb aP aA (ru.drop 3) (e2 p n (x++jL p.cP) [i,j,J,m,k,k,k,k,k,k])) λC _=>C=.en (ak .f (c9 p n))\/C=.de/\ak .f (c9 p n)=.a9 by
  unfold ru at dz;simp only[pf,mN]at dz;have L:=Y.cP;have aW:∀{h:ji},p.cP=h->h≠.aQ->(∀N∈qd h,(qc N).length<=20/\∀w,N=.inr w->fL w)->jL h=[fk ((qd h).map qc)]->(∃X,(dX h)=.au .a_ X)->bT (aO.bb aP aA (ru.drop 2) (e2 p n x [i,j,k,k,k,k,k,k,k,k])) λC _=>C=.en (ak .f (c9 p n))\/C=.de/\ak .f (c9 p n)=.a9:=λ{h} B aX ap aY T=>by
   unfold ru;simp only[pf,mN];have aZ:qZ [dX h]=.i ((qd h).map vC):=by cases h<;>first |exact absurd rfl aX |rfl
   have a0:(qd h).length<=4:=by cases h<;>simp[qd]
   rw[mG (by exists e2,nu,HV,B;obtain⟨X,T⟩:=T;rw[T];rfl)]
   show bT (aO.bb aP aA (_::_) _) _
   rw[e0 (y:=ak .f []) (by rw[lq];exact hR (y:=ak .f []) _ rfl) (f _)]
   show bT (aO.bb aP aA (_::_) (e2 p n x [i,j,E (ak .f []),k,k,k,k,k,k,k])) _
   refine rq (s:=qd h) (a:=λN=>[vC N]) (y:=dX h) (λy e=>∃m,e=e2 p n x [i,j,E (ak .f (y.map qc)),m,k,k,k,k,k,k]) (by exists e2,nu,HV,B,BZ) (by exists aZ) (i2 _ _) ⟨k,rfl⟩ (λy N G e K s=>?_) (λe s=>?_)
   ·obtain⟨m,rfl⟩:=s
    have am:y.length<4:=by have:=congrArg ma K;simp at this;lia
    refine⟨e2 p n x [i,j,E (ak .f (y.map qc)),E (vC N),k,k,k,k,k,k],(by exists f,e2;rw[ym]),?_⟩
    cases N with
    |inl r=>
     rw[hQ (by exists e2,ym;rfl)]
     show bT (aO.bb aP aA (_::_) _) _
     rw[kz (j1 (C:=.dY) (V:=(5,[])) (Q:=ak .f (y.map qc)) (a:=[.f r]) rfl rfl rfl (iy (by exists e2,ym;rfl)) (j0 (g:=.f) (by rw[ct];lia)))]
     show bT (aO.bb aP aA [] _) _
     rw[nj];exact⟨_,_,rfl,.inl ⟨.inl rfl,_,by rw[iA];rfl⟩⟩
    |inr w=>
     have of:=(ap (.inr w) (by rw[K];simp)).2 w rfl
     have a1:vr.cj [vC (.inr w)]=.i (.f (b1 w)):=rz (fC of);rw[mG (by exists e2,ym;rfl)]
     show bT (aO.bb aP aA (_::_) _) _
     rw[kz (j1 (C:=.dY) (V:=(5,[])) (Q:=ak .f (y.map qc)) (a:=[.f (b1 w)]) rfl rfl rfl (iy (by exists e2,ym,a1)) (j0 (g:=.f) (by rw[ct];lia)))]
     show bT (aO.bb aP aA [] _) _
     rw[nj];exact⟨_,_,rfl,.inl ⟨.inl rfl,_,by rw[iA];rfl⟩⟩
   ·obtain⟨m,rfl⟩:=s
    show bT (aO.bb aP aA (_::_) _) _
    have ac:=QT (aD:=(qd h).map qc) (by rw[ct];lia) (λr hw=>by obtain⟨N,f,rfl⟩:=e3.mp hw;have:=(ap N f).1;lia)
    rw[kz (j1 (C:=.dY) (V:=(2,[])) (Q:=ak .f x) (a:=[.f (fk ((qd h).map qc))]) rfl rfl rfl (iy (by exists e2,iP,nt,ac)) (j0 (g:=.f) (by lia)))]
    have:=dz (E (ak .f ((qd h).map qc))) m;rw[B,aY]at this;exact this
  cases B:p.cP with
  |aQ=>
   rw[hQ (by exists e2,nu,HV,B;rfl)]
   rw[B]at dz;show bT (aO.bb aP aA (_::_) _) _
   exact(by simpa [jL]using dz k k)
  |hU w=>
   rw[B]at L;have L:fL w:=L;refine aW B (by simp) (λN f=>?_) rfl ⟨_,rfl⟩
   rcases df.mp f with rfl |f
   ·exact⟨by decide,λw e=>by cases e⟩
   ·rw[fv.mp f]
    exact⟨by have:=(hC (fC L)).1;show(b1 w).length<=20;lia,λw e=>by cases e;exact L⟩
  |gB r z w g=>
   rw[B]at L;obtain⟨ab,af,br,aq,ar,bf⟩:=L;refine aW B (by simp) (λN f=>?_) rfl ⟨_,rfl⟩
   rcases df.mp f with rfl |f
   ·exact⟨by rcases ab with rfl |rfl<;>decide,λw e=>by cases e⟩
   ·rcases df.mp f with rfl |f
    ·exact⟨by have:=af.2.1;show z.length<=20;lia,λw e=>by cases e⟩
    ·rcases df.mp f with rfl |f
     ·exact⟨by have:=(hC (fC aq)).1;show(b1 w).length<=20;lia,λw e=>by cases e;exact aq⟩
     ·rw[fv.mp f]
      exact⟨by have:=(hC (fC ar)).1;show(b1 g).length<=20;lia,λw e=>by cases e;exact ar⟩
 intro J m;unfold ru;simp only[pf,mN];have a0:(jL p.cP).length<=1:=by cases p.cP<;>simp[jL]
 obtain⟨D,ag⟩:∃S,S=x++jL p.cP:=⟨_,rfl⟩;have bg:D.length<=10:=by rw[ag,dq];lia
 rw[<- ag];have a2:=QV (e:=e2 p n D [i,j,J,m,k,k,k,k,k,k]) (D:=3) (p:=p) (av:=p.cg) Y.cg (by lia) rfl rfl
 rw[e0 (y:=.f (e_ p.cg)) (by rw[lq,a2];exact hR _ (Gr _)) (f _)]
 show bT (aO.bb aP aA (_::_) (e2 p n D [i,j,J,m,E (.f (e_ p.cg)),k,k,k,k,k])) _
 have as:kn [32] [ak .f (eD [gN,e_ p.cg] k (E (1+(p.cg.length:Int))))]=.i (.f (dg gN p.cg)):=by
  rw[HZ];unfold dg;by_cases I:p.cg=[]
  ·rw[if_pos (show p.cg.length=0 by rw[I];rfl),if_pos I,tH (by decide) (λr hw=>by rw[fv.mp hw];decide)];rfl
  ·rw[if_neg (show¬p.cg.length=0 from λt=>I (H6 t)),if_neg I,tH (by show 2<=100;lia) (λr hw=>by
    rcases df.mp hw with rfl |hw
    ·decide
    ·rw[fv.mp hw];exact aJ)];rfl
 have au:la (.au .aG [.f gN,.f (e_ p.cg)]) k (E (1+(p.cg.length:Int)))=.i (ak .f (eD [gN,e_ p.cg] k (E (1+(p.cg.length:Int))))):=GC (g:=.f) (s:=[gN,e_ p.cg]) _ _;rw[kz (j1 (C:=.dY) (V:=(2,[])) (Q:=ak .f D) (a:=[.f (dg gN p.cg)]) rfl rfl rfl (iy (by unfold gN at as au ⊢;exists e2,nu,HW,iP,nt,au,as)) (j0 (g:=.f) (by lia)))]
 show bT (aO.bb aP aA (_::_) (e2 p n (D++[dg gN p.cg]) [i,j,J,m,E (.f (e_ p.cg)),k,k,k,k,k])) _
 refine rq (s:=p.dw) (a:=λr:hS=>[ao r.1,ao r.2.1,.f r.2.2.1,ao r.2.2.2]) (y:=.aK (ak cm p.dw)) (λy e=>∃J M O P R,e=e2 p n (D++[dg gN p.cg]++y.map hD) [i,j,J,m,E (.f (e_ p.cg)),M,O,P,R,k]) (by exists e2,nu,QO,n0) (by exists xK,vn) (QU p.dw) ⟨_,k,k,k,k,by rw[rJ,lC]⟩ (λy r G e K s=>?_) (λe s=>?_)
 ·obtain⟨J,M,O,P,R,rfl⟩:=s
  have am:y.length<4:=by have:=congrArg ma K;simp at this;lia
  obtain⟨av,aw,ay,U⟩:=Y.dw r (by rw[K];simp)
  have aM:=(hC (fC av)).1;have aR:=(hC (fC aw)).1;have bh:=(hC (fC ay)).1;have bi:r.2.2.1.length<=5:=by
   revert U
   generalize r.2.2.1=u
   intro U;unfold l6 at U;simp only[df,gD,or_false]at U;rcases U with e |e |e<;>rw[e]<;>decide
  refine⟨e2 p n (D++[dg gN p.cg]++y.map hD) [i,j,J,m,E (.f (e_ p.cg)),E (ao r.1),E (ao r.2.1),E (.f r.2.2.1),E (ao r.2.2.2),k],(by exists f,e2),?_⟩
  have ac:=QT (aD:=[mJ,b1 r.1,[61],b1 r.2.1,r.2.2.1,b1 r.2.2.2]) (by show 6<=100;lia) (λX T=>by
   simp only[df,gD,or_false]at T;rcases T with rfl |rfl |rfl |rfl |rfl |rfl
   ·decide
   ·lia
   ·decide
   ·lia
   ·lia
   ·lia)
  rw[e0 (y:=ak .f [mJ,b1 r.1,[61],b1 r.2.1,r.2.2.1,b1 r.2.2.2]) (by exists e2,fa,rz (fC av),rz (fC aw),rz (fC ay);rfl) (f _)]
  show bT (aO.bb aP aA (_::_) (e2 p n (D++[dg gN p.cg]++y.map hD) [i,j,E (ak .f [mJ,b1 r.1,[61],b1 r.2.1,r.2.2.1,b1 r.2.2.2]),m,E (.f (e_ p.cg)),E (ao r.1),E (ao r.2.1),E (.f r.2.2.1),E (ao r.2.2.2),k])) _
  rw[kz (j1 (C:=.dY) (V:=(2,[])) (Q:=ak .f (D++[dg gN p.cg]++y.map hD)) (a:=[.f (hD r)]) rfl rfl rfl (iy (by exists e2,iP,nt,ac;rfl)) (j0 (g:=.f) (by simp;lia))),nj]
  exact⟨_,_,rfl,.inl ⟨.inl rfl,_,_,_,_,_,by rw[iA,<- od];rfl⟩⟩
 obtain⟨W,M,O,P,R,rfl⟩:=s;show bT (aO.bb aP aA (_::_) _) _
 obtain⟨F,ah⟩:∃S,S=D++[dg gN p.cg]++p.dw.map hD:=⟨_,rfl⟩;have bj:F.length<=15:=by rw[ah];simp;lia
 rw[<- ah];have a3:hu (.f [98,114,101,97,107,32]) (.f (cX p.c6))=.i (.f (fk [jK,cX p.c6])):=by rw[lr (by simp;lia)];rfl
 rw[kz (j1 (C:=.dY) (V:=(2,[])) (Q:=ak .f F) (a:=[.f (fk [jK,cX p.c6])]) rfl rfl rfl (iy (by exists e2,nu,QP,aj.2.1,a3)) (j0 (g:=.f) (by lia)))]
 show bT (aO.bb aP aA (_::_) (e2 p n (F++[fk [jK,cX p.c6]]) [i,j,W,m,E (.f (e_ p.cg)),M,O,P,R,k])) _
 have a4:=QV (e:=e2 p n (F++[fk [jK,cX p.c6]]) [i,j,W,m,E (.f (e_ p.cg)),M,O,P,R,k]) (D:=6) (p:=p) (av:=p.cD) Y.cD (by lia) rfl rfl
 rw[e0 (y:=.f (e_ p.cD)) (by rw[lq,a4];exact hR _ (Gr _)) (f _)]
 show bT (aO.bb aP aA (_::_) (e2 p n (F++[fk [jK,cX p.c6]]) [i,j,W,m,E (.f (e_ p.cg)),M,O,P,R,E (.f (e_ p.cD))])) _
 have aB:la (.au .aG [.f fU,.f (e_ p.cD)]) k (E (1+(p.cD.length:Int)))=.i (ak .f (eD [fU,e_ p.cD] k (E (1+(p.cD.length:Int))))):=GC (g:=.f) (s:=[fU,e_ p.cD]) _ _;have bk:(eD [fU,e_ p.cD] k (E (1+(p.cD.length:Int)))).length<=2:=by rw[HZ];split<;>simp
 have aC:hu (ak .f (eD [fU,e_ p.cD] k (E (1+(p.cD.length:Int))))) (.au .aG [.f [105,110],.f (cX p.es)])=.i (ak .f (eD [fU,e_ p.cD] k (E (1+(p.cD.length:Int)))++[[105,110],cX p.es])):=n1 (g:=.f) (b:=[[105,110],cX p.es]) (by show _+2<=_;lia)
 have aD:kn [32] [ak .f (eD [fU,e_ p.cD] k (E (1+(p.cD.length:Int)))++[[105,110],cX p.es])]=.i (.f (dg fU p.cD++ei++cX p.es)):=by
  rw[HZ];unfold dg;by_cases I:p.cD=[]
  ·rw[if_pos (show p.cD.length=0 by rw[I];rfl),if_pos I,tH (by show 3<=100;lia) (λr hw=>by
    simp only[df,g0,gD,or_false]at hw;rcases hw with rfl |rfl |rfl
    ·decide
    ·decide
    ·lia)];rfl
  ·rw[if_neg (show¬p.cD.length=0 from λt=>I (H6 t)),if_neg I,tH (by show 4<=100;lia) (λr hw=>by
    simp only[df,g0,gD,or_false]at hw;rcases hw with(rfl |rfl)|rfl |rfl
    ·decide
    ·exact aK
    ·decide
    ·lia)]
   show iQ (ai.f (fU++32::(e_ p.cD++32::([105,110]++32::cX p.es))))=_
   simp[ei]
 rw[kz (j1 (C:=.dY) (V:=(2,[])) (Q:=ak .f (F++[fk [jK,cX p.c6]])) (a:=[.f (dg fU p.cD++ei++cX p.es)]) rfl rfl rfl (iy (by unfold fU at aD aB aC ⊢;exists e2,nu,HX,QQ,al.2.1,iP,nt,aB,aC,aD)) (j0 (g:=.f) (by simp;lia)))]
 show bT (aO.bb aP aA (_::_) (e2 p n (F++[fk [jK,cX p.c6]]++[dg fU p.cD++ei++cX p.es]) [i,j,W,m,E (.f (e_ p.cg)),M,O,P,R,E (.f (e_ p.cD))])) _
 have ec:eD [n] k (E (n.length:Int))=if n=[]then[]else[n]:=by
  rw[sv (by lia)]
  cases n with
  |nil=>rfl|cons Q n=>rw[if_neg (by simp)];simp
 have a5:la (.au .aG [.f n]) k (E (n.length:Int))=.i (ak .f (eD [n] k (E (n.length:Int)))):=GC (g:=.f) (s:=[n]) _ _;have aE:hu (.au .aG [.f oa]) (ak .f (eD [n] k (E (n.length:Int))))=.i (ak .f (oa::eD [n] k (E (n.length:Int)))):=n1 (g:=.f) (S:=[oa]) (by rw[ec];split<;>simp)
 have aF:kn [32] [ak .f (oa::eD [n] k (E (n.length:Int)))]=.i (.f (i4 n)):=by
  rw[ec];unfold i4;split
  ·rw[tH (by decide) (λr hw=>by rw[fv.mp hw];decide)];rfl
  ·rw[tH (by show 2<=100;lia) (λr hw=>by
    rcases df.mp hw with rfl |hw
    ·decide
    ·rw[fv.mp hw];exact aH)];rfl
 have aG:hu (ak .f (F++[fk [jK,cX p.c6]]++[dg fU p.cD++ei++cX p.es])) (.au .aG [.f (i4 n)])=.i (ak .f (F++[fk [jK,cX p.c6]]++[dg fU p.cD++ei++cX p.es]++[i4 n])):=n1 (g:=.f) (b:=[i4 n]) (by simp;lia)
 have a6:F++[fk [jK,cX p.c6]]++[dg fU p.cD++ei++cX p.es]++[i4 n]=c9 p n:=by
  rw[ah,ag,aa];unfold c9;simp
 rw[a6]at aG;unfold oa at aE aF
 exists e2,iP,nt,yf (show n.length<=100000 by lia),a5,aE,aF,n0,OC,aG
 fail "q"
def H0 (y:ai):Prop:=(∃X,y=.au .a_ X)/\y.bO=y
theorem QX (O:Int):Hs.cj [.d O]=.i (.aM ae):=rfl
theorem aed (p:eI){D:Int}(Y:D∈[1,3,4,6,8]):∃s,dt (et p) (.d D)=.i (.aK (.au .aG s))/\(ai.aK (.au .aG s)).ed=ax/\∀y∈s,H0 y:=by
 have g:∀{ay:Type}(g:ay->ai) (s:List ay),(∀X,H0 _)->∀y∈s.map g,H0 y:=λg s Y y a=>by
  obtain⟨X,_,rfl⟩:=e3.mp a;exact Y X
 simp only[df,gD,or_false]at Y;rcases Y with rfl |rfl |rfl |rfl |rfl
 ·exact⟨_,QN,xM,g cU _ λX=>⟨⟨_,rfl⟩,rfl⟩⟩
 ·exact⟨_,HW,xM,g ao _ λX=>⟨⟨_,rfl⟩,rfl⟩⟩
 ·exact⟨_,QO,xM,g cm _ λX=>⟨⟨_,rfl⟩,rfl⟩⟩
 ·exact⟨_,HX,xM,g ao _ λX=>⟨⟨_,rfl⟩,rfl⟩⟩
 exact⟨_,HY,xM,g ao _ λX=>⟨⟨_,rfl⟩,rfl⟩⟩
theorem QY {p:eI}{b:ai}(Y:hW p)(v:(ai.aK b).bO=.aK b)(c:f3 ax (et p) b=.i (.aM ae)):Ht.cj [.aK (dN p),.aK b]=.i (.aM ae):=by
 have ab:=Y.ky;have af:=Y.sl;have br:=Y.aM;have q:(dX p.cP).bO=dX p.cP:=tA _;refine eB rfl rfl λaA j=>?_
 unfold Px;show bT (aO.bb aP aA _ [E (.aK (dN p)),E (.aK b),k,k,k,k]) _
 have ez:(ai.au .aG [.f p.dF,.aK (ak cU p.c4),dX p.cP,.aK (ak ao p.cg),.aK (ak cm p.dw),.d p.c6]).ed=ax:=by rw[ai.ed];rfl
 rw[kx (y:=.au .aG [.f p.dF,.aK (ak cU p.c4),dX p.cP,.aK (ak ao p.cg),.aK (ak cm p.dw),.d p.c6]) (e:=[E (.aK (dN p)),E (.aK b),k,k,k,k]) (by exists hV,OD,acj,vt,ack,yd,ye,PC,q;rw[vl _ ez];rfl) (j _) (by show 2<6;lia)]
 show bT (aO.bb aP aA _ [E (.aK (dN p)),E (.aK b),E (.au .aG [.f p.dF,.aK (ak cU p.c4),dX p.cP,.aK (ak ao p.cg),.aK (ak cm p.dw),.d p.c6]),k,k,k]) _
 have dC:(et p).ed=ax:=HR p;have w:hu (.aK (.au .aG [.f p.dF,.aK (ak cU p.c4),dX p.cP,.aK (ak ao p.cg),.aK (ak cm p.dw),.d p.c6])) (.au .aG [.aK (ak ao p.cD),.d p.es,.aK (ak ao p.ff)])=.i (et p):=by
  show Mo.eS (6+3) (iQ (ai.au .aG (([.f p.dF,.aK (ak cU p.c4),dX p.cP,.aK (ak ao p.cg),.aK (ak cm p.dw),.d p.c6]++[.aK (ak ao p.cD),.d p.es,.aK (ak ao p.ff)]:List ai).map ai.bO)))=_
  rw[Mo.nI (by decide)]
  show iQ (ai.au .aG [.f p.dF,.aK (ak cU p.c4),(dX p.cP).bO,.aK (ak ao p.cg),.aK (ak cm p.dw),.d p.c6,.aK (ak ao p.cD),.d p.es,.aK (ak ao p.ff)])=_
  rw[q];rfl
 have x:(ai.au .aG [.f p.dF,.aK (ak cU p.c4),dX p.cP,.aK (ak ao p.cg),.aK (ak cm p.dw),.d p.c6]).bO=.aK (.au .aG [.f p.dF,.aK (ak cU p.c4),dX p.cP,.aK (ak ao p.cg),.aK (ak cm p.dw),.d p.c6]):=rfl;rw[kx (y:=et p) (e:=[E (.aK (dN p)),E (.aK b),E (.aK (.au .aG [.f p.dF,.aK (ak cU p.c4),dX p.cP,.aK (ak ao p.cg),.aK (ak cm p.dw),.d p.c6])),k,k,k]) (by exists hV,OD,Hv,PD,PE,x,w;rw[vl _ dC];rfl) (j _) (by show 2<6;lia)]
 show bT (aO.bb aP aA _ [E (.aK (dN p)),E (.aK b),E (et p),k,k,k]) _
 have h:(et p).bO=.aK (et p):=rfl;refine rq (s:=[1,3,4,6,8]) (a:=λD:Int=>[.d D]) (y:=ak .d [1,3,4,6,8]) (λy e=>∃i m f,e=[E (.aK (dN p)),E (.aK b),E i,m,f,k]/\i.bO=.aK (et p)) (by exists j;rfl) vn (i2 _ _) ⟨et p,k,k,rfl,rfl⟩ (λy D G e n c=>?_) (λe c=>?_)
 ·obtain⟨i,m,f,rfl,h⟩:=c
  obtain⟨s,aN,z,A⟩:=aed p (D:=D) (by rw[n];simp)
  refine⟨[E (.aK (dN p)),E (.aK b),E i,E (.d D),f,k],(by exists j),?_⟩
  have az:q1 "list" (.aK (.au .aG s))=.i (.aM ae):=rfl;rw[hQ (by exists h,aN,az)]
  show bT (aO.bb aP aA (_::_) _) _
  refine Bg (aN:=[E (.aK (dN p)),E (.aK b),E (.aK (et p)),E (.d D),f,k]) (s:=s) (d:=λy=>[y]) (y:=.aK (.au .aG s)) (λy e=>∃f,e=[E (.aK (dN p)),E (.aK b),E (.aK (et p)),E (.d D),f,k]) (by exists h,aN;rw[vl _ z];exists h) (by exists xK;rfl) (OQ s 4) ⟨_,rfl⟩ (λy X G e n c=>?_) (λe c=>?_)
  ·obtain⟨f,rfl⟩:=c
   obtain⟨⟨t,rfl⟩,u⟩:=A X (by rw[n];simp)
   refine⟨[E (.aK (dN p)),E (.aK b),E (.aK (et p)),E (.d D),E (.au .a_ t),k],(by exists j,u),?_⟩
   have B:q1 "tuple" (.au .a_ t)=.i (.aM ae):=rfl;rw[hQ (by exists u,B)]
   show bT (aO.bb aP aA [] _) _
   rw[nj];exact⟨_,_,rfl,.inl ⟨.inl rfl,_,rfl⟩⟩
  ·obtain⟨f,rfl⟩:=c
   exists j
   exact⟨_,_,rfl,.inl ⟨.inl rfl,_,_,_,rfl,rfl⟩⟩
 obtain⟨i,m,f,rfl,h⟩:=c;show bT (aO.bb aP aA (_::_) _) _
 have C:q1 "str" (.f p.dF)=.i (.aM ae):=rfl;rw[hQ (by exists h,Cj,QP,QQ,C,QX,H4)]
 show bT (aO.bb aP aA (_::_) _) _
 have aw:H.aZ aP [E (.aK (dN p)),E (.aK b),E i,m,f,k] (.aT .cO (.aT .cO (.O (.v 2) 3) (.O (.v 2) 6)) (.O (.v 2) 8))=.i (ak ao (p.cg++p.cD++p.ff)):=by
  exists h,HW,HX,HY,OC,abO,n1 (g:=ao) (S:=p.cg) (b:=p.cD) (by lia),n1 (g:=ao) (S:=p.cg++p.cD) (b:=p.ff) (by rw[dq];lia)
 refine rq (s:=p.cg++p.cD++p.ff) (a:=λr:cq=>[ao r]) (y:=ak ao (p.cg++p.cD++p.ff)) (λy e=>∃o,e=[E (.aK (dN p)),E (.aK b),E i,m,f,o]) (by rw[aw];exact hR _ i1) vn (i2 _ _) ⟨k,rfl⟩ (λy r G e n c=>?_) (λe c=>?_)
 ·obtain⟨o,rfl⟩:=c
  refine⟨[E (.aK (dN p)),E (.aK b),E i,m,f,E (ao r)],(by exists j),?_⟩
  rw[hQ (by exists fa,jh,iR,QX,H4)]
  show bT (aO.bb aP aA [] _) _
  rw[nj];exact⟨_,_,rfl,.inl ⟨.inl rfl,_,rfl⟩⟩
 ·obtain⟨o,rfl⟩:=c
  exists h,v,Be,abR,c
  fail "q"
theorem vD (z:Nat)(s:fB):VI.fI z (.f s) (.f s)=E ae:=by rw[OU];simp
theorem Cm (z:Nat)(O:Int):VI.fI z (.d O) (.d O)=E ae:=by rw[vp];simp
theorem aee (N:gL):VI.fI 10 (cU N) (cU N)=E ae:=xQ λy a=>by
 simp only[df,gD,or_false]at a;rcases a with rfl |rfl
 ·exact n8 _ _
 exact vD _ _
theorem aef (N:hS):VI.fI 10 (cm N) (cm N)=E ae:=xQ λy a=>by
 simp only[df,gD,or_false]at a;rcases a with rfl |rfl |rfl |rfl
 ·exact n8 _ _
 ·exact n8 _ _
 ·exact vD _ _
 exact n8 _ _
theorem yn {ay:Type}{g:ay->ai}(Y:∀X,VI.fI 10 (g X) (g X)=E ae)(s:List ay):VI.fI 11 (.aK (ak g s)) (.aK (ak g s))=E ae:=Bq λy a=>by obtain⟨X,_,rfl⟩:=e3.mp a;exact Y X
theorem aeg (h:ji):VI.fI 11 (dX h) (dX h)=E ae:=by
 cases h with
 |aQ=>rfl| hU w=>
   refine xQ λy a=>?_
   simp only[df,gD,or_false]at a;rcases a with rfl |rfl
   ·rfl
   exact n8 _ _
 | gB r z w g=>
   refine xQ λy a=>?_
   simp only[df,gD,or_false]at a;rcases a with rfl |rfl |rfl |rfl
   ·exact vD _ _
   ·exact vD _ _
   ·exact n8 _ _
   exact n8 _ _
theorem aeh (p:eI):VI.fI 12 (et p) (et p)=E ae:=by
 refine Bq λy a=>?_
 simp only[df,gD,or_false]at a;rcases a with rfl |rfl |rfl |rfl |rfl |rfl |rfl |rfl |rfl
 ·exact vD _ _
 ·exact yn aee _
 ·exact aeg _
 ·exact yn (n8 _) _
 ·exact yn aef _
 ·exact Cm _ _
 ·exact yn (n8 _) _
 ·exact Cm _ _
 exact yn (n8 _) _
theorem aei (p:eI):f3 ax (et p) (et p)=.i (.aM ae):=(tr  (aeh p)).trans rfl
theorem aej {aF:lu}{a:er}(C:rA a)(Y:∀G∈aF,j2 G)(b:(aF.flatMap f5).Perm a):(jj aF).length<=900/\(59:Nat)∉jj aF/\(jj aF=[]->a=[])/\(jj aF≠[]->tv.cj [.f (jj aF)]=.i (ak ao a)):=by
 have c:=HU aF;have f:=C.s;rw[b.length_eq]at c;refine⟨by have:=P7 Y;lia,HN (by decide) (λr hw=>by obtain⟨G,d,rfl⟩:=e3.mp hw;exact P6 (Y G d) (by lia) (by lia) (by lia)),λe=>?_,λe=>ac7 (λI=>e (by rw[I];rfl)) Y C b⟩
 by_cases I:aF=[]
 ·rw[I]at b;exact b.symm.eq_nil
 exact absurd e (P8 I)
def tI (z:fB):eI:=⟨z,[],.aQ,[],[],0,[],1,[]⟩
def Cn (z:fB):ai:=.au .aG [.f z,.au .aG [],.a9,.au .aG [],.au .aG [],.d 0,.au .aG [],.d 1,.au .aG []]
theorem qe {w:w3}{S b:ai}{aI a:bf}(Y:w S b=E ae)(af:kN w aI a=E ae):kN w (S::aI) (b::a)=E ae:=by
 rw[kN,Y,af];rfl
theorem aek (z:fB):f3 ax (et (tI z)) (Cn z)=.i (.aM ae):=by
 have e:∀D,VI.fI (D+1) (.au _ []) _=E ae:=λD=>Bq λy a=>by cases a
 have az:∀{ay:Type}(g:ay->ai),VI.fI 11 (.aK (ak g [])) _=E ae:=λg=>e 10
 have b:VI.fI 12 (et (tI z)) (Cn z)=E ae:=by
  show(if 9=9 then kN _ [.f z,.aK _,.a9,.aK (ak ao []),.aK _,.d 0,.aK (ak ao []),.d 1,.aK (ak ao [])] _ else E ax)=_
  exact qe (vD _ _) (qe (az _) (qe rfl (qe (az _) (qe (az _) (qe (Cm _ _) (qe (az _) (qe (Cm _ _) (qe (az _) rfl))))))))
 exact(tr  b).trans rfl
theorem ael {z:bo}(Y:mH z):hW (tI z):=by
 refine⟨Y,jl 8,⟨λ_=>32,λ_=>(by decide:32∈iS),(λN b=>nomatch b)⟩,trivial,jl 6,(λw a=>nomatch a),jl 4,(λr hw=>nomatch hw),⟨qv 0,?_,qv 0⟩,jl 4,(λw a=>nomatch a),⟨qv 1,?_⟩,jl 36,⟨(λr hw=>nomatch hw),Jq⟩,(λV c=>nomatch c)⟩
 ·show 0<=3;lia
 show 1<=12;lia
theorem aem (z:fB):j3 (tI z) []=kB++32::z++GL:=by
 show kB++32::z++[59,32]++(gN++[59,32]++(jK++32::[48]++[59,32]++(fU++ei++[49]++[59,32]++oa)))=_
 simp[kB,gN,jK,fU,ei,oa]
theorem aen:∀a:ef,a.length<=63->z2 a->Py.cj [dD a]=.i (.aM ae):=λa r _=>by
 obtain⟨p,s,c⟩:=adY a r;have h:rA p.ff:=⟨c.aM,c.ff.1,c.ff.2⟩;have u:rt.cj [dD a,.d 3]=.i (.d (a.getD 3 0)):=yk a 3;obtain⟨aF,i,v,w⟩:=aeb h (a.getD 3 0);obtain⟨dP,cv,j,l⟩:=aej h v w
 generalize jj aF=n at i dP cv j l
 have ec:=aec c (n:=n) (by lia)
 have x:kn [59,32] [ak .f (c9 p n)]=.i (.f (j3 p n)):=tD (by decide) (by have:=Qm (n:=n) c;lia) (λN f=>by have:=(HO c dP cv N f).2;lia)
 have m:=Qn c dP cv j l;have o:=QY c (b:=et p) rfl (aei p);have q:=ael c.cI;have y:=Qn q (n:=[]) (by decide) (by decide) (λ_=>rfl) (λI=>absurd rfl I)
 have z:=QY q (b:=Cn p.dF) rfl (aek p.dF);have aN:hu (.f [116,97,107,101,32]) (.f p.dF)=.i (.f (kB++32::p.dF)):=by rw[lr (by have:=c.cI.2.1;simp;lia)];rfl
 have az:hu (.f (kB++32::p.dF)) (.f GL)=.i (.f (j3 (tI p.dF) [])):=by rw[lr (by have:=c.cI.2.1;simp[kB];lia),aem]
 have ez:=HR p;refine eB rfl rfl λaA f=>?_
 unfold Hu;show bT (aO.bb aP aA _ [E (dD a),k,k,k,k]) _
 rw[kx (y:=et p) (e:=[E (dD a),k,k,k,k]) (by exists s;rw[vl _ ez];exists f) (f _) (by show 1<5;lia)]
 show bT (aO.bb aP aA _ [E (dD a),E (et p),k,k,k]) _
 have g:(et p).bO=.aK (et p):=rfl;rw[e0 (y:=.f (j3 p n)) (by exists g,nu,HY,n0,u,i,ec,iP,nt,x) (f _)]
 show bT (aO.bb aP aA _ [E (dD a),E (et p),E (.f (j3 p n)),k,k]) _
 rw[e0 (y:=dN p) (by exists m,HL) (f _)]
 show bT (aO.bb aP aA _ [E (dD a),E (et p),E (.f (j3 p n)),E (dN p),k]) _
 rw[hQ (by exists g,Hw,hV,nu,o)]
 show bT (aO.bb aP aA (_::_) _) _
 rw[e0 (y:=dN (tI p.dF)) (by exists g,Cj,aN,az,y,HL) (f _)]
 show bT (aO.bb aP aA (_::_) [E (dD a),E (et p),E (.f (j3 p n)),E (dN p),E (dN (tI p.dF))]) _
 have A:(ai.au .aG [.f p.dF,.au .aG [],.a9,.au .aG [],.au .aG [],.d 0,.au .aG [],.d 1,.au .aG []]).bO=.aK (Cn p.dF):=rfl;rw[hQ (by exists g,Cj,Hw,hV,A,z)]
 show bT (aO.bb aP aA (_::_) _) _
 exists g,Hw,hV,nu,o,m
 fail "q"
def dd (O:Nat):d4:=PySem.Challenge.pw_cardshop_k45_askings_read.main.body.getD O (.Pass ⟨0,0,0,0⟩)
abbrev QZ:d4:=ug (dd 64) 1
abbrev Q0:d4:=ug (dd 64) 2
abbrev Q1:d4:=ug (dd 64) 3
abbrev Q2:d4:=ug (dd 64) 4
abbrev Q3:d4:=ug (dd 40) 0
abbrev Q4:d4:=ug (dd 64) 0
def ml:o4:={f6:=["all", "bool", "enumerate", "int", "isinstance", "len", "list", "min", "range", "sorted", "str", "tuple", "zip"],ow:=["board", "breaks", "deck", "figures", "middle", "order", "picks", "sums", "waiting", "works"],vf:=[("BODY_WIDTH",(.d 36)),("CARD_WIDTH",(.d 40)),("FIGURES",(eN GN)),("LONGEST_NAME",(.d 8)),("MOST_BREAKS",(.d 3)),("MOST_FIGURES",(.d 12)),("MOST_KEYS",(.d 6)),("MOST_PICKS",(.d 8)),("MOST_SUMS",(.d 4)),("MOST_WORKS",(.d 4)),("SIGNS",(eN Br)),("SMALL_LETTERS",(eN xR))]}
structure H2 (J:bD):Prop where
 ec:Gp ml aP J
 aeo:dn J "_law_cell_at" (dd 74)
 aep:dn J "_law_name" (dd 76)
 aeq:dn J "_law_span" (dd 78)
 aer:dn J "_law_other" (dd 77)
 aes:dn J "_law_middle" (dd 79)
 aet:dn J "_law_work" (dd 80)
 aeu:dn J "_law_drawn" (dd 81)
 aev:dn J "_law_turned" (dd 82)
 aew:dn J "_law_parts" (dd 83)
 aex:dn J "_law_field" (dd 84)
 aey:dn J "_law_clauses" (dd 86)
 aez:dn J "_law_board" (dd 85)
 aeA:dn J "_law_loose" (dd 87)
 aeB:dn J "number_by" (dd 15)
 aeC:dn J "read_whole" (dd 16)
 aeD:dn J "is_whole" (dd 14)
 aeE:dn J "is_field" (dd 21)
 aeF:dn J "field_of" (dd 22)
 aeG:dn J "read_field" (dd 26)
 aeH:dn J "read_blanks" (dd 11)
 aeI:dn J "read_picks" (dd 67)
 aeJ:dn J "read_middle" (dd 68)
 aeK:dn J "read_listed" (dd 66)
 aeL:dn J "read_works" (dd 69)
 aeM:dn J "read_number" (dd 65)
 aeN:dn J "read_span" (dd 60)
 aeO:dn J "read_piece" (dd 61)
 aeP:dn J "is_column" (dd 18)
 aeQ:dn J "make_board" (dd 19)
 aeR:dn J "read_board" (dd 62)
 aeS:dn J "read_print" (dd 70)
 aeT:dn J "own_list" (dd 41)
 aeU:dn J "ask_for" (dd 48)
 aeV:dn J "check_lengths" (dd 50)
 aeW:dn J "mates_by" (dd 42)
 aeX:dn J "check_middle_word" (dd 51)
 aeY:dn J "names_of" (dd 43)
 aeZ:dn J "is_name" (dd 46)
 ae0:dn J "check_names" (dd 52)
 ae1:dn J "middle_fields" (dd 44)
 ae2:dn J "fields_due" (dd 53)
 ae3:dn J "width_of" (dd 23)
 ae4:dn J "are_signs" (dd 10)
 ae5:dn J "picked_signs" (dd 28)
 ae6:dn J "columns_of" (dd 24)
 ae7:dn J "pick_passes" (dd 45)
 ae8:dn J "check_picks" (dd 54)
 ae9:dn J "check_middle_widths" (dd 55)
 ae_:dn J "is_board" (dd 47)
 afa:dn J "check_counting" (dd 56)
 afb:dn J "fields_kept" (dd 58)
 afc:dn J "are_apart" (dd 25)
 afd:dn J "check_works" (dd 57)
 afe:dn J "check_asking" (dd 49)
 aff:dn J "asking_of" (dd 71)
 afg:dn J "read_asking" (dd 72)
 afh:dn J "_law_whole" (dd 75)
 afi:dn J "_law_are" (dd 88)
 afj:dn J "law" (dd 89)
 afk:oJ J "Clauses" "is_next" "Clauses.is_next" QZ
 afl:oJ J "Clauses" "take" "Clauses.take" Q0
 afm:oJ J "Clauses" "take_words" "Clauses.take_words" Q1
 afn:oJ J "Clauses" "check_end" "Clauses.check_end" Q2
 afo:w0 J "Asking" "__init__" "Asking.__init__" Q3 [.a9,(.d 0),.a9,(.d 6),.a9]
 afp:oJ J "Clauses" "__init__" "Clauses.__init__" Q4
 afq:pL J
structure bT (J:bD)(a7:eu):Prop extends H2 J where
 h:k7 J a7
theorem afr {J:bD}(e:H2 J):aP.dR J:=⟨by decide,λV Y=>abw (e.ec.n V Y),Gl,Gl⟩
theorem afs {P:cW}{r:cF}{J:bD}{a7:eu}{bg:Heap}(e:bT J a7):wY P r J a7 bg fe 11 "law" "law" (dd 89) ["_law_script"] (fJ J Py):=by
 have Q:Oq P r bg ml aP J a7:=⟨e.h,afr e.toH2,e.ec.ml e.h⟩;have i:=dT 0 Q (w:=rt) rfl e.aeo trivial;have O:=dT 0 Q (w:=GO) rfl e.aep trivial;have g:=dT 0 Q (w:=GP) rfl e.aeq trivial;have R:=dT 0 Q (w:=GQ) rfl e.aer trivial;have S:=dT 1 Q (w:=GR) rfl e.aes ⟨bP g,bP R,trivial⟩;have U:=dT 1 Q (w:=GU) rfl e.aet ⟨bP g,bP g,trivial⟩;have V:=dT 2 Q (w:=xT) rfl e.aeu ⟨bP i,bP g,bP g,bP U,bP g,trivial⟩;have d:=dT 0 Q (w:=GV) rfl e.aev trivial;have W:=dT 3 Q (w:=Bu) rfl e.aew ⟨bP i,bP O,bP S,bP i,bP i,bP V,bP d,bP d,bP d,bP d,bP d,bP d,bP d,trivial⟩;have b:=dT 0 Q (w:=vr) rfl e.aex trivial;have X:Gn P r J a7 bg 2 "_law_clauses" ["_law_parts_here", "_law_board_here"] GW:=LL e.h e.aey (rp (aU:=(dd 86)) (bw:=["_law_parts_here", "_law_board_here", "_law_clauses_here", "_law_field_here", "_law_text", "_law_some", "_law_part", "_law_keys", "_law_to", "_law_one", "_law_word", "_law_other_here", "_law_sums"]) (body:=ru) (z:=2) (h:=11) Q.fu Q.n ⟨bP b,bP b,bP b,bP b,bP b,bP b,bP b,trivial⟩ (by decide +kernel) ⟨rfl,rfl,rfl,by decide +kernel,rfl,by decide +kernel,by decide +kernel,rfl⟩ (λ_ _ F=>g7.wV rfl F λ_ _ _ _ _ _ _ _=>rfl) rfl rfl)
 have Y:=dT 1 Q (w:=Bw) rfl e.aez ⟨bP b,bP b,trivial⟩;have Z:=dT 2 Q (w:=Bx) rfl e.aeA ⟨bP Y,trivial⟩;have j:pK P r J a7 bg fe 1 (da J "Clauses") "is_next" ["self", "word"] (fJ J o7):=Ah (e.ec.Q _ (by decide)) e.afk (rp (aU:=QZ) (bw:=["self", "word"]) (body:=GX) (z:=2) (h:=0) Q.fu Q.n trivial (by decide +kernel) ⟨rfl,rfl,rfl,by decide +kernel,rfl,by decide +kernel,by decide +kernel,rfl⟩ (λ_ _ F=>g7.wV rfl F λ_ _ _ _ _ _ _ _=>rfl) rfl rfl)
 have o:pK P r J a7 bg fe 2 (da J "Clauses") "take" ["self", "word"] (fJ J p8):=Ah (e.ec.Q _ (by decide)) e.afl (rp (aU:=Q0) (bw:=["self", "word"]) (body:=GY) (z:=2) (h:=0) Q.fu Q.n ⟨kQ j,trivial⟩ (by decide +kernel) ⟨rfl,rfl,rfl,by decide +kernel,rfl,by decide +kernel,by decide +kernel,rfl⟩ (λ_ _ F=>g7.wV rfl F λ_ _ _ _ _ _ _ _=>rfl) rfl rfl)
 have h:pK P r J a7 bg fe 3 (da J "Clauses") "take_words" ["self", "word", "many"] (fJ J kS):=Ah (e.ec.Q _ (by decide)) e.afm (rp (aU:=Q1) (bw:=["self", "word", "many", "words"]) (body:=By) (z:=3) (h:=1) Q.fu Q.n ⟨kQ o,trivial⟩ (by decide +kernel) ⟨rfl,rfl,rfl,by decide +kernel,rfl,by decide +kernel,by decide +kernel,rfl⟩ (λ_ _ F=>g7.LJ rfl F λ_ _ _ _ _ _ _ _ _=>rfl) rfl rfl)
 have aa:=dT 0 Q (w:=O1) rfl e.aeB trivial;have u:=dT 1 Q (w:=xU) rfl e.aeC ⟨bP aa,trivial⟩;have l:=dT 0 Q (w:=G0) rfl e.aeD trivial;have D:=dT 1 Q (w:=Bz) rfl e.aeE ⟨bP l,bP l,trivial⟩;have ab:=dT 2 Q (w:=G1) rfl e.aeF ⟨bP D,trivial⟩;have c:=dT 3 Q (w:=vs) rfl e.aeG ⟨bP u,bP ab,trivial⟩;have ac:=dT 0 Q (w:=G2) rfl e.aeH ⟨e.afq,trivial⟩;have af:=dT 4 Q (w:=BA) rfl e.aeI ⟨kQ j,kQ h,bP c,bP ac,trivial⟩;have ag:=dT 4 Q (w:=BB) rfl e.aeJ ⟨kQ j,kQ h,bP c,bP c,kQ j,bP c,kQ h,trivial⟩;have G:=dT 4 Q (w:=xY) rfl e.aeK ⟨bP c,trivial⟩;have ah:=dT 4 Q (w:=BC) rfl e.aeL ⟨kQ j,kQ h,bP c,bP c,bP c,trivial⟩;have I:=dT 2 Q (w:=BD) rfl e.aeM ⟨bP u,trivial⟩;have K:=dT 2 Q (w:=BE) rfl e.aeN ⟨bP u,trivial⟩;have aj:=dT 3 Q (w:=BF) rfl e.aeO ⟨bP K,bP K,trivial⟩;have L:=dT 1 Q (w:=BG) rfl e.aeP ⟨bP l,trivial⟩;have M:=dT 2 Q (w:=x9) rfl e.aeQ ⟨bP L,bP L,trivial⟩;have ak:=dT 4 Q (w:=tv) rfl e.aeR ⟨bP aj,bP M,trivial⟩;have al:=dT 5 Q (w:=G4) rfl e.aeS ⟨bP ak,trivial⟩;have am:pK P r J a7 bg fe 1 (da J "Clauses") "check_end" ["self"] (fJ J x_):=Ah (e.ec.Q _ (by decide)) e.afn (rp (aU:=Q2) (bw:=["self"]) (body:=G5) (z:=1) (h:=0) Q.fu Q.n trivial (by decide +kernel) ⟨rfl,rfl,rfl,by decide +kernel,rfl,by decide +kernel,by decide +kernel,rfl⟩ (λ_ _ F=>g7.Ez rfl F λ_ _ _ _ _ _ _=>rfl) rfl rfl)
 have v:=dT 0 Q (w:=G6) rfl e.aeT trivial;have a:=dT 0 Q (w:=G8) rfl e.aeU trivial;have an:=dT 1 Q (w:=G9) rfl e.aeV ⟨bP a,bP a,bP a,bP a,trivial⟩;have q:=dT 0 Q (w:=Pe) rfl e.aeW trivial;have ao:=dT 1 Q (w:=G_) rfl e.aeX ⟨bP a,bP q,bP a,bP q,trivial⟩;have ap:=dT 1 Q (w:=BI) rfl e.aeY ⟨bP q,trivial⟩;have aq:=dT 0 Q (w:=Ha) rfl e.aeZ trivial;have ar:=dT 2 Q (w:=BJ) rfl e.ae0 ⟨bP ap,bP a,bP aq,bP a,trivial⟩;have x:=dT 1 Q (w:=Hb) rfl e.ae1 ⟨bP q,trivial⟩;have as:=dT 2 Q (w:=Hd) rfl e.ae2 ⟨bP x,trivial⟩;have y:=dT 0 Q (w:=He) rfl e.ae3 trivial;have au:=dT 0 Q (w:=BK) rfl e.ae4 trivial;have av:=dT 0 Q (w:=BL) rfl e.ae5 trivial;have aw:=dT 0 Q (w:=Hg) rfl e.ae6 trivial;have ay:=dT 1 Q (w:=Hh) rfl e.ae7 ⟨bP aw,trivial⟩;have az:=dT 2 Q (w:=Hi) rfl e.ae8 ⟨bP a,bP y,bP a,bP au,bP a,bP av,bP ay,trivial⟩;have aA:=dT 2 Q (w:=Hj) rfl e.ae9 ⟨bP x,bP a,bP y,bP y,trivial⟩;have aB:=dT 3 Q (w:=Hk) rfl e.ae_ ⟨bP M,trivial⟩;have aC:=dT 4 Q (w:=Hl) rfl e.afa ⟨bP a,bP l,bP a,bP a,bP l,bP a,bP aB,trivial⟩;have aD:=dT 2 Q (w:=Hm) rfl e.afb ⟨bP x,trivial⟩;have aE:=dT 0 Q (w:=Hn) rfl e.afc trivial;have aF:=dT 3 Q (w:=Ho) rfl e.afd ⟨bP a,bP aD,bP a,bP aE,trivial⟩;have aG:=dT 5 Q (w:=Hp) rfl e.afe ⟨bP an,bP ao,bP ar,bP as,bP a,bP D,bP az,bP aA,bP aC,bP aF,trivial⟩;have aH:sI P r J a7 bg fe 7 "Asking" (da J "Asking") ["self", "deck", "picks", "middle", "order", "works", "breaks", "sums", "figures", "board"] (fJ J BN):=aby (X3 5 e.h (e.ec.Q _ (by decide)) e.afo (λT w bG aR z aS aT aU F aI aJ=>abz rfl F aI aJ λaV aW aX aY aZ a0 a1 a2 a3 a4 a5 a6 a8 a9 a_ ba bb bc bd be bf A ⟨C,aK,aM⟩=>BindsTo.of_defaults rfl aK aM rfl rfl) (abx (D:=6) (aF:=["self", "deck", "picks", "middle", "order", "works", "breaks", "sums", "figures", "board"]) (aU:=Q3) (bw:=["self", "deck", "picks", "middle", "order", "works", "breaks", "sums", "figures", "board"]) (body:=ya) (z:=10) (h:=0) Q.fu Q.n ⟨bP v,bP v,bP v,bP aG,trivial⟩ (by decide +kernel) ⟨rfl,rfl,rfl,by decide +kernel,rfl,by decide +kernel,by decide +kernel,rfl⟩ rfl rfl))
 have aN:=dT 8 Q (w:=BP) rfl e.aff ⟨kQ h,bP af,bP ag,bP G,kQ o,bP ah,bP I,kQ h,kQ o,bP G,bP I,bP al,kQ o,kQ am,Oo aH,trivial⟩;have aQ:sI P r J a7 bg fe 1 "Clauses" (da J "Clauses") ["self", "text"] (fJ J yb):=XB e.h (e.ec.Q _ (by decide)) e.afp (rp (aU:=Q4) (bw:=["self", "text"]) (body:=BQ) (z:=2) (h:=0) Q.fu Q.n trivial (by decide +kernel) ⟨rfl,rfl,rfl,by decide +kernel,rfl,by decide +kernel,by decide +kernel,rfl⟩ (λ_ _ F=>g7.wV rfl F λ_ _ _ _ _ _ _ _=>rfl) rfl rfl)
 have B:=dT 9 Q (w:=Hq) rfl e.afg ⟨bP aN,Oo aQ,trivial⟩;have s:=dT 0 Q (w:=Hs) rfl e.afh trivial;have t:=dT 1 Q (w:=Ht) rfl e.afi ⟨bP s,bP s,bP s,bP s,trivial⟩;exact rp (aU:=(dd 89)) (bw:=["_law_script", "_law_parts_here", "_law_text", "_law_asking", "_law_bare"]) (body:=Hu) (z:=1) (h:=4) Q.fu Q.n ⟨bP W,bP X,bP Z,bP i,bP B,bP t,bP B,bP t,bP t,bP B,bP t,trivial⟩ (by decide +kernel) ⟨rfl,rfl,rfl,by decide +kernel,rfl,by decide +kernel,by decide +kernel,rfl⟩ (λ_ _ F=>g7.Ez rfl F λ_ _ _ _ _ _ _=>rfl) rfl rfl
theorem aft {s:CM}{r:cF}{J:bD}{Y:Heap}{a7:eu}{g6:aV}(H:J.In Y)(ah:Y.Ns fb a7)(a:a7 "law"=E (.ref g6))(D:H2 J):
  ∃bG:hk,(∀(A:aY) (v:aR),BindsTo A bG ⟨[v],[]⟩ [("_law_script",v)])/\∀bg:Heap,J.In bg->bg.Ns fb a7->gI s.prog r J a7 bg fe 11 g6 bG ["_law_script"] (wZ J):=by
 have e:bT J a7:=⟨D,_,H,ah⟩;refine XC e.h e.afj a (λ_ _ _ _ _ _ _ _=>rfl) λbg w bG F=>?_
 exact abC (afs (P:=s.prog) (r:=r) (bg:=bg) e w bG F).1 aen
theorem afu {s:CM}{V:cW}{b:cx}{d:eu->Heap->Prop}{a:cF->Heap->Prop}{y:DefRec}{J:Params->bD}(e:s.most=E 63)(f:y.params.defaults=[])(g:∀N,L2.zy V (J N)=ae)
  (h:∀(r:cF) (Y:Heap),a r Y->(J r.params).In Y)
  (F:∀(r:cF) (a7:eu) (g6:aV) (Y:Heap),(J r.params).In Y->Y.Ns fb a7->a7 y.name=E (.ref g6) ->
   ∃bG:hk,(∀(A:aY) (u:aR),BindsTo A bG ⟨[u],[]⟩ [("_law_script",u)])/\∀bg:Heap,(J r.params).In bg->bg.Ns fb a7->gI s.prog r (J r.params) a7 bg fe 11 g6 bG ["_law_script"] (wZ (J r.params))):
  W.WalkO V b d a s.row.toRowW y [] (λw c=>Cq w c):=
 L2.WR (z:=63) (D:=11) (X:="_law_script") (dk:=λ_=>fe) (cf:=λr=>wZ (J r.params)) e (by decide) f ⟨rfl,by decide,by decide⟩ rfl g h F (λ_ _ S i j l _ m=>⟨S,i,rfl,m,j,l,λ_=>rfl⟩) λ_ _ _ _ _ I=>I
end K45
open PySem PySem.W PyProof.Rows
set_option maxRecDepth 100000 in
set_option maxHeartbeats 0 in
theorem PySem.Challenge.cw_cardshop_k45_askings_read_holds : PySem.Challenge.rw_cardshop_k45_askings_read.Holds := by
 w_on;o_law;k_head;(case hw=>w_witness2)
 k_fill
 refine K45.afu (s:=PySem.Challenge.rw_cardshop_k45_askings_read) rfl rfl ?L (λr Y a=>W.kIn_of a) ?F
 case L=>intro N;kernel_rfl!
 case F=>
  intro r a7 g6 Y b ah c;refine K45.aft b ah c ?_;constructor
  case' ec=>constructor<;>repeat' first |exact VI.Gl |refine VI.abv ?_ ?_
  all_goals first |(refine' L2.pL.h9 ?x0 ?x1;(case x0=>kernel_rfl);(case x1=>kernel_rfl))|(refine' L2.eY.h9 ?x0 ?x1 ?x2 ?x3 ?x4 ?x5 ?x6 ?x7 ?x8;(case x0=>k_is);(case x1=>k_is);(case x2=>rfl);(case x3=>k_is);(case x4=>rfl);(case x5=>rfl);(case x6=>rfl);(case x7=>rfl);(case x8=>rfl))|(refine' L2.w0.h9 ?x0 ?x1 ?x2 ?x3 ?x4 ?x5 ?x6 ?x7;(case x0=>k_is);(case x1=>k_is);(case x2=>k_is);(case x3=>k_is);(case x4=>k_is);(case x5=>k_is);(case x6=>k_is);(case x7=>(show _=_;kernel_rfl!)))|(refine' L2.dn.h9 ?x0 ?x1 ?x2 ?x3;(case x0=>k_is);(case x1=>k_is);(case x2=>k_is);(case x3=>k_is))|(refine' L2.oJ.h9 ?x0 ?x1 ?x2 ?x3 ?x4 ?x5;(case x0=>k_is);(case x1=>k_is);(case x2=>k_is);(case x3=>k_is);(case x4=>k_is);(case x5=>k_is))|(refine' L2.EH.h9 ?x0 ?x1 ?x2 ?x3 ?x4 ?x5 ?x6;(case x0=>k_is);(case x1=>k_is);(case x2=>k_is);(case x3=>k_is);(case x4=>k_is);(case x5=>k_is);(case x6=>k_is))|(refine' L2.iJ.h9 ?x0 ?x1 ?x2 ?x3 ?x4 ?x5 ?x6;(case x0=>k_is);(case x1=>k_is);(case x2=>k_is);(case x3=>k_is);(case x4=>k_is);(case x5=>k_is);(case x6=>k_is))|(refine' L2.uQ.h9 ?x0 ?x1;(case x0=>k_is);(case x1=>k_is))|(delta L2.EB;k_is)|(refine' L2.wX.h9 ?x0 ?x1;(case x0=>k_is);(case x1=>first |exact⟨_,rfl⟩|rfl))|(refine' L2.sJ.h9 ?x0;(case x0=>k_is))|(refine' L2.EE.h9 ?x0 ?x1 ?x2;(case x0=>k_is);(case x1=>k_is);(case x2=>(show _=_;kernel_rfl!)))|(refine' L2.ED.h9 ?x0 ?x1;(case x0=>k_is);(case x1=>(show _=_;kernel_rfl!)))|(refine' L2.w1.h9 ?x0 ?x1 ?x2 ?x3;(case x0=>k_is);(case x1=>k_is);(case x2=>(show _=_;kernel_rfl!));(case x3=>decide))
#print axioms PySem.Challenge.cw_cardshop_k45_askings_read_holds
