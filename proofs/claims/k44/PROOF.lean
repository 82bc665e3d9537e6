import PyProof.Rows.All
import Wide.All
import OpenK.AllK
import Wide.FinOn
import Lean
import PyProof.EqAt
import PyProof.EqKinds
import PyProof.TupleCall
import PyProof.StrLawsRepr
import PyProof.NeKinds
import KE.KTryMore
import PyProof.Rows.TupIter
import PyProof.InstStoreFacts
import PyProof.ExcInit
import KE.KEqDict
import KE.KDictOf
import KE.KPairComp
import PySem.Challenge.RW_cardshop_k44_askings_written
set_option Elab.async false
set_option compiler.extract_closed false
set_option linter.all false
set_option maxRecDepth 100000
set_option maxHeartbeats 4000000
structure PySem.W.Fast:Prop where(tw1408148868932769274 tw17012326480400406915 tw13090098836595348957 tw16560307376468151220 tw6587063065385115299 tw27339818182383358 tw15680937219890936161 tw17544492425509607195 tw3219478928774206052 tw16268820905030738879 tw5702609635785644188 tw18409614597153834381 tw7707540627956842145 tw2886814202283780691 tw10908913603437523453 tw13246973307819919852 tw759576896215026211 tw12254299291241427771 tw18282319064626762016 tw2556472311866461003 tw7502597764653633480 tw1511677930469776134 tw8860241667847271636 tw4221265103123752014 tw3387606895636188900 tw5112347292005249699 tw14298531448577154634 tw11020650962025179681 tw3792917144813065519 tw17235455037800396893 tw2117579656178323890 tw1338377514702260484 tw3148319499899519800 tw14936360625079083842 tw1726588868321493525 tw7726313450585505731 tw17182430434789105194 tw16470042275247217467 tw16663320982626488275 tw7223765618740637504 tw5551847405288411964 tw6162488473866189824 tw13823164278979384360 tw10086028445003171335 tw16034546995397082708 tw6062801600834383170 tw2658636478515694214 tw9589977163994366010 tw2239328998263965518 tw13637508395686873468 tw7597155200583072874 tw17540886998929696965 tw6694747496422595104 tw15338159262995922415 tw10807021254761548145 tw6080733284785566968 tw4233564559071046523 tw6291950254477925617 tw12234684423076208956 tw844207393377543386
 tw15851248743166990289 tw8557553971305656146 tw4609563424967077051 tw192648173332739905 tw6216239007972822313 tw4060331823894618131 tw10365449563924673498 tw14402469304075433063 tw17950967093122851849 tw5508445600779508349 tw17715735585482204086 tw10856054091442707123 tw11696464705512834819 tw9646927660220347316 tw14661438341933772879 tw11991278686572648534 tw8035166310170886312 tw12266095239184141477 tw12101138550576684636 tw8970843153369109984 tw7865801379049530580 tw3430736232455687043 tw15840045167440642798 tw8507525408636031434 tw2060133818794490246 tw1465687519861943523 tw18442930515011266766 tw7974841317313669104 tw7541702767211034983 tw2378265888182930591 tw8125914659996133621 tw9660249890785481320 tw9895808093685417843 tw6278229435121067704 tw6397838050808775257 tw11048243900669715979 tw11865772779618699712 tw5187472810761424145 tw1010758897071435024 tw683512395880617059 tw5235277157779425424 tw13986486563215639318 tw3915807594028720920 tw500342593153694999 tw11913467907589984728 tw389456050640901441 tw16548332020413533667 tw2382914061181363237 tw7322842542470603925 tw9559552153350933536 tw12296479760679299314 tw18071613813531066258 tw16056868958436491189 tw12722518120213169406 tw15412406644021792213 tw3231062318078152391 tw6941837426299720800 tw6012729145118913441 tw7871485285704626267 tw9248282471981853362
 tw18397433999808873025 tw4242312410830263455 tw6184258268279258318 tw17049090922351609056 tw2478931003498582675 tw4152087057359238286 tw17078042584932666253 tw8795797493924132740 tw1250619101991224636 tw17273051405559226401 tw11818034827519215711 tw2626589810963633114 tw18412707322971460575 tw433773624240757247 tw13895445777223411024 tw4807492412354422621 tw7875609234789063175 tw7427787236952667445 tw3378573105974759969 tw7362461016766702946 tw8476874813931946247 tw9942521069733702717 tw510358766652674565 tw7594567247097786895 tw5470508712128668802 tw8092023771654998133 tw17394502726451555136 tw2064336271071281324 tw327898822583326022 tw13217251348313697139 tw4415674618677221840 tw5207111259438910655 tw7710123802743590128 tw3965994472780623977 tw875919360808107374 tw5404968178144737197 tw214455421461532766 tw2509682960228569677 tw5117001323714622043 tw6618436678974021807 tw5868301854593889639 tw17471214230805220075 tw8006916509825332532 tw13109581960005284438 tw149886654275243950 tw2326311073578419948 tw14634833165861220982 tw7368254452833597606 tw3731938414777469601 tw17943047965393104324 tw4615679495372629695 tw9815003378109530678 tw13891482643296376282 tw13494070249683684371 tw18162979118590002249 tw12835165198424587073 tw6203925470314554667 tw3104411600833152506 tw10061793182404482323 tw2156909619665981395
 tw5395921444372485073 tw11484459275999857819 tw15693923396122971976 tw10702227619667899020 tw10098439253516730876 tw12390005272675674050 tw15721463345617847564 tw14071649427782476949 tw11798613732761170775 tw8378806688479808310 tw2032143534097422963 tw937043433861387244 tw3047377296037849531 tw17066551024943593142 tw11956563831063090827 tw4092108460029744604 tw13596938635103213105 tw15866773461764983872 tw3170517749998882465 tw4404284239239628056 tw15823376832409140902 tw4902761126207466040 tw2544589101133224239 tw12766811683143545674 tw4266341647972265111 tw12382720600161177833 tw6840879186506164046 tw16785266534557455943 tw12910932466609702948 tw16980326846444147101 tw16243546424675706072 tw17422285498398558197 tw2098103173266609071 tw17017378623438101995 tw7735089450932134194 tw2345547099019355806 tw16451072186632007344 tw9877642178674424427 tw2358828103166301015 tw3469533895265135810 tw8330589388791642976 tw4189695614021698571 tw5496859715736199894 tw675694634936451841 tw3746538372952171196 tw13265410200291635891 tw12276599908748351515 tw8415283327324036898 tw5630997683145830500 tw8204222893534234245 tw15725643557568479641 tw5467345423470483784 tw9318557615524034552 tw15794029331290918514 tw5725096653917356828 tw16877999613432809011 tw446793100869602040 tw10508620331262512523 tw9367374568561774332 tw14319903526471533038
 tw7623421338680183703 tw15295849909462096099 tw17216953281913759536 tw14885724106333416558 tw8867930302878254430 tw13996779872719829798 tw16891064946897492634 tw12752115452617388421 tw8920360614679167671 tw9986412402530858019 tw10497637709180767633 tw14504522076965251385 tw13485126405146442575 tw16550427732069990067 tw9725009274030868727 tw2447342245381903100 tw6874577226437013825 tw3393580389718323014 tw7782106305258560108 tw13929375176992020208 tw6543312589955666961 tw15443776606920315767 tw10725278252263277881 tw8852983307636119135 tw7201645611611280417:True)
set_option genSizeOf false
set_option genSizeOfSpec false
set_option bootstrap.genMatcherCode false
noncomputable section
set_option hygiene false in
local macro_rules
 |`(tactic|cases $x:ident $a:inductionAlts)=>do ("Option List aS Bool aq Sum Mo b8 iF Nat Or ih fN rK r H lM".splitOn " ").foldrM (λs r=>do let i:=Lean.mkIdent (s++".casesOn").toName;`(tactic|first|induction $x:ident using $i:ident $a:inductionAlts|$(⟨r⟩):tactic)) (<-`(tactic|cases ($x) $a:inductionAlts)).raw
 |`(tactic|cases $x:ident)=>do (("Option List aS Bool aq Sum Mo b8 iF Nat Or ih fN rK r H lM".splitOn " ").foldrM (λs (r:Lean.TSyntax `tactic)=>do let i:=Lean.mkIdent (s++".casesOn").toName;`(tactic|first|induction $x:ident using $i:ident|$r:tactic)) (<-`(tactic|cases ($x)))>>=λr=>`(tactic|first|(injection $x;done)|(have h:_=_:=$x;clear h;subst $x)|$r:tactic))
 |`(tactic|cases $h:ident : $e:term $a:inductionAlts)=>`(tactic|(generalize $h : $e = xx_;cases xx_ $a:inductionAlts))
 |`(tactic|cases $t:term)=>if t.raw.isOfKind ``Lean.Parser.Term.paren then Lean.Macro.throwUnsupported else `(tactic|first|(have hh_:_=_:=$t;injection hh_;done)|cases ($t))
 |`(tactic|lia)=>`(tactic|first|decide|with_reducible(first|assumption|exact Nat.zero_le _|exact Nat.le_refl _|exact Nat.le_of_lt (by assumption)|exact Nat.lt_of_lt_of_le (by assumption) (by decide)|exact Nat.le_trans (by assumption) (by decide)|exact Int.lt_of_lt_of_le (by assumption) (by decide)|exact Int.le_trans (by assumption) (by decide)|exact Nat.lt_of_lt_of_le (by assumption) (by assumption)|exact Nat.le_trans (by assumption) (by assumption))|lia (splits:=9))
set_option hygiene false in
local macro_rules|`(tactic|fail "0")=>`(tactic|first |assumption |exact a5.tk ‹_› |exact Du _ |(refine iq ?_ ‹_›;exact a5.tk ‹_›)|exact iq (a5.tk ‹_›) (Dv _ _))|`(tactic|fail "1")=>`(tactic|first |exact .inl rfl |exact .inr rfl |assumption)|`(tactic|fail "2")=>`(tactic|first |exact nobehind _ (by decide) (by decide)|rfl)
open PySem renaming Value→bq,wpAny_bind→bR,Shared→bz,Addr→ba,sizeLine→cA,wpAny_pure→dQ,wpAny→bT,Expr→bV,Program→dk,mainGlobals→ft,compareOp→e0,starEach→eH,World→cN,Around→dM,wpAny_truthy_bool→lI,strIterType→ir,wpAny_mono→kx,FuncData→i4,assignEach→j8,Stmt→er,mem_of_lookup→sa,binaryOp→ky,bootBuiltins→oO,wpAny_field→nZ,backTo→iu,wpAny_Call_Name_kw→uv,NameKind→n0,wpAny_setField_rec→uw,IsPair→iP,wpAny_passesOwn→sb,keywordEach→pT,backToKw→pU,Within→zc,Builtin→sd,Ctx→Sx,call→Dw,Obj→l8,Fin→Jh
open List renaming length_map→cE,length_append→dm,mem_cons_self→eI,mem_cons→dn,length_cons→ew,getElem?_eq_getElem→gx,size_toArray→fa,mem_singleton→fy,mem_cons_of_mem→f5,getElem?_eq_some_iff→ia,exists_cons_of_length_eq_add_one→kz,map_cons→eW,getElem?_map→gS,not_mem_nil→gJ,mem_map→fk,replicate→gy,mem_append→hu,getElem?_set_ne→j9,mem_append_right→kA,map_append→iQ,map_map→gT,getD_eq_getElem?_getD→nv,range→fW,zip_cons_cons→kB,isEmpty_iff→j_,getElem?_append_right→pV,length_take→l9,length_singleton→oP,append_nil→l_,all_cons→k9,mem_range→ma,all_eq_true→nx,length_eq_zero_iff→qV,append_assoc→n1,drop_eq_getElem_cons→se,length_eq_one_iff→qW,flatMap_append→pW,mem_of_getElem?→qX,getElem?_append_left→ux,length→mb,getElem?_set_self→uy,length_range→qY,drop_zero→oQ,map_congr_left→sf,drop_succ_cons→sg,length_drop→qZ,getElem?_of_mem→uz,getElem?_set→zd,flatMap_cons→sh,length_zip→q1,nodup_cons→q2,find?_cons→q3,getElem_mem→si,of_mem_zip→sj,length_set→wy,pairwise_map→uA,getElem?_take_of_lt→ze,filterMap_cons→wz,find?_cons_of_neg→zf,set_cons_zero→wA,getElem?_eq_none→zg,mem_append_left→zh,drop_length→wB,map_nil→sm,nil_append→wC,length_nil→wD,filterMap_map→zi,set_cons_succ→zj,lookup→so,set_set→uB,nodup_append→zk,map_id'→uC,take_succ_eq_append_getElem→Ji,eq_nil_or_concat→Dx,concat_eq_append→Dy,any_eq_true→zl,take_length→zm,cons_append→zo,flatMap_nil→zp,eq_nil_of_length_eq_zero→Jj,forIn_cons→zq,getElem_of_mem→Dz,replicate_succ→DA,getElem?_range→DB,toArray→wF,pairwise_cons→DC,mem_of_find?_eq_some→Jk,getElem?_zip_eq_some→Jl,ext_getElem?→DD,map_id→wG,any_cons→zr,map_snd_zip→DE,mem_flatMap→DF,range_succ_eq_map→Jm,mem_iff_getElem?→Jn,set_append_right→Jo,nodup_nil→DG,drop_left→DH,length_reverse→Jp,mem_map_of_mem→Jq,take_nil→DI,mem_filterMap→Jr,foldl→zt,getElem_range→Js,getElem?_drop→Jt,flatten_cons→Ju,foldl_append→Jv,zipIdx_cons→Jw,lookup_cons→Jx,mem_filter→Jy,foldl_cons→Jz,zipIdx_nil→JA,idxOf_cons→JB,find?_some→JC,range_succ→JD,forIn_nil→JE,drop_drop→JF,drop_nil→JG,set_comm→JH,all_map→JI
open Bool renaming and_eq_true→cJ,and_eq_true_iff→lJ,false_ne_true→pX,or_eq_true→pY,and_false→uD,and_true→uE,or_self→zu,true_and→DJ,false_and→JJ,true→ag,false→aA
open PySem.Heap renaming get?_push_of_some→eQ,get?_push_size→gK,lt_size→e1,ExtBut→n2,size_push→q4,SameBut→sq,get?_update_other→JK,get?_push_cases→JL,get?_push_ne→JM
open Nat renaming lt_of_lt_of_le→iq,le_refl→cZ,ne_of_lt→gz,le_add_right→Dv,le_trans→ka,succ_pos→Du,zero_le→mc,le_succ→oR,lt_irrefl→sr,lt_succ_of_lt→wH,ne_of_gt→su,lt_succ_self→wI,min_self→sv,le_of_eq→uF,min_eq_left→zv,le_of_lt→wJ,min_eq_right→DK,add_sub_cancel_left→JN,sub_self→zw,le_of_ble_eq_true→JO,mul_le_mul_right→JP,sub_zero→DL,lt_or_ge→DM,min_le_right→JQ,le_of_not_lt→JR,mul_comm→JS,le_total→JT,lt_trans→JU
open Option renaming bind_eq_some_iff→hv,map_eq_some_iff→iR,isNone_iff_eq_none→sx,isSome_iff_exists→wK,isSome_map→zx,isSome_none→JV,getD_none→JW,map_some→JX,none→JY,some→D,none→i
open Nat.succ renaming inj→fP
open PySem.W renaming Frag→cO,Frag→jv,nsIn→gL,findIn→jw,keepIn→k_,emptyDict→pZ,kia_one→n3,instObj→q5,hasDictIn→uG,codeIn→p0,plainGet→uH,plainOver→zy,specialIn→zz,mroIn→sy,plainGet_of→DN,callWith_K0→DO,callWith_K→DP,isFn→sz,makesIn→zA,cellsFrom_some→JZ,methodObj→DQ,methodCall_KW→J0,lookIn→zB,kitOne→zC,takerIn→DR,OpenLaw→DS,mg_of→zD,typeIn→DT,tabIn→DU
open False renaming elim→fX
open Option.some renaming inj→kb
open PySem.Builtin.Str renaming strSliceIndices→q6,occurrences→uI,strSub→sA,strKind→zE,lastOccurrence→Sy,tooLong→Sz
open PySem.Obj renaming mapSeq→kC
open PySem.Builtin.SmallTypes renaming ownedTupleIsFree→zF,nextOf→zG,ownedTupleHandOut→J1
open PySem.Value renaming none→la,ref→kc,type→p2,bool→sC,str→wL,int→zH,isStrOf→J2,isInt→J3,float→J4
open PyProof.Rows renaming callWith_type1→wM,slot_tuple_getitem→DV,split_pos→J5,callWith_builtin1→SA,assign_Tuple→SD,join_closes→SE,lt_int→SF,lt_str→SG
open Int renaming emod_lt_of_pos→sD,eq_ofNat_of_zero_le→wN,natCast_nonneg→wO,emod_nonneg→uJ,max_eq_right→zI,min_eq_left→zJ,reduceEq→wQ,le_refl→wR,ofNat_le→zK,min_eq_right→J6,ofNat_toNat→J7,max_comm→J8,add_zero→J9,not_lt→J_
open True renaming intro→mQ
open PySem.Str renaming length→ny,ofString→sE,empty→zL,join→zM
open PySem.SeqAt renaming RcAt→oS,RcNeAt→sF,ne_of_list_tuple→Ka,EqAt→DW
open PySem.StrLaws renaming strSub_toList→zN,subAt_one→zO,At→sG,join_split→Kb
open PySem.Builtin.Slice renaming slicePlaces→DX,sliceAdjust→Kc,slicePartIndex→SH,sliceApplied→SI
open Array renaming length_toList→zP,toList_inj→zQ,perm_iff_toList_perm→Kd,getElem?_toList→Ke,toList→DY,getD→Kf
open PySem.Builtin.Int renaming intBits→zR
open PySem.Builtin.List renaming listTooLong→DZ,listExtendWith→SJ,listUpdate→SK
open Classical renaming choose_spec→D0
open List.cons renaming inj→wU
open PySem.Builtin renaming divisionGoesByPylong→Kg
open PySem.F renaming slot_zip_next→zS,slot_dict_setdefault→Kh,slot_str_rpartition→Ki,args_str_split_2→D1,slot_str_partition→Kj,entry_str_split→D2,args_tuple_add_2→Kk,entry_tuple_add→Kl,slot_str_split→D3,plain_list_iadd→Km,slot_tuple_add→Kn,plainAttrs_str→Ko,slot_str_getitem→Kp,args_zip_next_1→Kq,entry_zip_next→Kr,slot_int_rmul→Ks
open Ne renaming symm→oT
open PySem.Builtin.Range renaming rangeSize→Kt
open PySem.Env renaming kindOf→D4
open PySem.SeqAt.EqAt renaming same→D5,int_str→Ku,str_int→Kv
open PySem.Heap.SameBut renaming update→Kw
open Sum renaming inl→uK,inr→wV
open Prod renaming ext→wW
open PySem.Builtin.Tuple renaming tupleItemsOf→SM,tupleExact→SN
open PySem.SeqAt.RcNeAt renaming lists_lengths→SO,tuple_none→SP,tuple_bool→SQ,none_tuple→SR,bool_tuple→SS,none_none→SU,none_bool→SV,bool_none→SW,bool_bool→SX,list_none→SY,list_bool→S0,none_list→S1,bool_list→S2,tuple_int→S3,tuple_str→S4,int_tuple→S5,str_tuple→S6,none_int→S7,none_str→S8,bool_int→S9,bool_str→S_,int_none→Ta,int_bool→Tb,str_none→Tc,str_bool→Td,list_int→Te,list_str→Tf,int_list→Tg,str_list→Th,int_int→Ti,int_str→Tj,str_int→Tn,str_str→To,tuples→Tp,lists→Tq
open List.Perm renaming refl→Kx
open PySem.Heap.IsSliceOf renaming new→Tr
open PySem.Within renaming cons→Ts
open List.Pairwise renaming nil→Tt
open PySem.Heap.DictOf renaming new→Tu
section
open PySem PySem.Spec PyProof.Rows
abbrev uL:=List (String×Bool)
abbrev sH:=Array (Option bq)
abbrev kd:=List (List Nat)
abbrev e2:=Str->Option bq
abbrev sI:=bq->bq->Sem bq
abbrev jJ:=List (Str×Nat)
abbrev lK:=Nat->Nat->Bool
abbrev zT:=List (Int×Int)
abbrev uM:=List (Str×bq)
abbrev lL:=List (Str×ba)
abbrev uN:=List (Str×n0)
abbrev zU:=List bV->Bool
abbrev wX:=Option CmpOp
abbrev eR:=Option Int
abbrev zV:=Option bq
abbrev jl:=Option ba
abbrev oU:=Option bV
abbrev q7:=List Bool
abbrev mR:=Array Nat
abbrev md:=Nat->Bool
abbrev me:=Array bq
abbrev c_:=List Str
abbrev mf:=List Env
abbrev eM:=List Int
abbrev bt:=List Nat
abbrev p3:=Int->Nat
abbrev dt:=List bq
abbrev n4:=List ba
abbrev fz:=List bV
abbrev lb:=List er
end
namespace L2
open PySem PySem.Spec PyProof.Rows
theorem fQ.{u}{aP:Type u}(S:aP):D S≠i:=Option.some_ne_none S
noncomputable abbrev bK:=cO
noncomputable abbrev dD:=List (ba×l8)
noncomputable abbrev ey:=Sum Int Str
abbrev Ky:=List (List ey×ba×bq)
abbrev kD:=List ey
def uO:ey->bq->Bool
 |.inl C,v=>J3 C v|.inr X,v=>J2 X v
def Tv (p:cN):ey->Int
 |.inl C=>hashInt C|.inr X=>hashStr p X
theorem oV:∀{C:ey}{v:bq},uO C v=ag->(∃O n,C=uK O/\v=zH O n)\/(∃X n,C=wV X/\v=wL X n)
 |.inl O,v,Y=>by
  obtain⟨n,e⟩:=Value.isInt_shape   Y;exact .inl ⟨O,n,rfl,e⟩
 |.inr X,v,Y=>by
  obtain⟨n,e⟩:=Value.isStrOf_shape   Y;exact .inr ⟨X,n,rfl,e⟩
theorem Tw (O:Int)(n:Tok):uO (.inl O) (.int O n)=ag:=by simp[uO,J3]
theorem Tx (X:Str)(n:Tok):uO (.inr X) (.str X n)=ag:=by simp[uO,J2]
theorem Tz (S b:Int):decide ((uK S:ey)=uK b)=(S == b):=by
 grind
theorem TA (S b:Str):decide ((wV S:ey)=wV b)=decide (S=b):=by
 grind
theorem TB (S:Int)(b:Str):decide ((uK S:ey)=wV b)=aA:=decide_eq_false (λV=>nomatch V)
theorem TC (S:Str)(b:Int):decide ((wV S:ey)=uK b)=aA:=decide_eq_false (λV=>nomatch V)
def lg (prog:dk)(p:cN):PySem.KeyKind prog p ey where
 is:=uO
 hash:=Tv p
 inj:=λv S b d c=>by
  rcases oV d with⟨O,n,rfl,rfl⟩|⟨X,n,rfl,rfl⟩
  ·rcases oV c with⟨h,u,rfl,e⟩|⟨q,u,rfl,e⟩
   ·injection e with aR _;rw[aR]
   ·exact nomatch e
  ·rcases oV c with⟨h,u,rfl,e⟩|⟨q,u,rfl,e⟩
   ·exact nomatch e
   ·injection e with aR _;rw[aR]
 byValue:=λC v Y=>by
  rcases oV Y with⟨O,n,rfl,rfl⟩|⟨X,n,rfl,rfl⟩<;>rfl
 pyHash:=λa Y=>by
  rcases oV a with⟨O,n,rfl,rfl⟩|⟨X,n,rfl,rfl⟩
  ·exact wpAny_pyHash_int Y
  ·exact wpAny_pyHash_str Y
 eqBool:=λf a Y=>by
  rcases oV f with⟨O,n,rfl,rfl⟩|⟨X,n,rfl,rfl⟩
  ·rcases oV a with⟨h,u,rfl,rfl⟩|⟨q,u,rfl,rfl⟩
   ·rw[Tz]at Y;exact wpAny_eqBool_int Y
   ·rw[TB]at Y;exact Ku O n q u _ _ _ _ Y
  ·rcases oV a with⟨h,u,rfl,rfl⟩|⟨q,u,rfl,rfl⟩
   ·rw[TC]at Y;exact Kv X n h u _ _ _ _ Y
   ·rw[TA]at Y;exact wpAny_eqBool_str Y
 «strs»:=λC X n v Y=>by
  rcases oV Y with⟨O,u,rfl,e⟩|⟨q,u,rfl,e⟩
  ·exact nomatch e
  ·injection e with aR _
   subst aR;cases v<;>rfl
theorem TF (prog:dk)(p:cN)(O:Int)(n:Tok):(lg prog p).is (.inl O) (.int O n)=ag:=Tw O n
theorem TG (prog:dk)(p:cN)(X:Str)(n:Tok):(lg prog p).is (.inr X) (.str X n)=ag:=Tx X n
inductive aS where
 |a9 |aQ (b:Bool)|c (O:Int)|d (X:Str)|Kz (b:Array UInt8)|wY (b:UInt64)|a0 (S:ba)|gd (y:String)
 deriving DecidableEq
abbrev KA:=List (Nat×Option aS)
abbrev ahm:=List (List ey×aS)
abbrev n5:=List (Str×aS)
abbrev oW:=List (ey×aS)
abbrev q8:=Int->Int->aS
abbrev i5:=Option aS
abbrev bp:=List aS
noncomputable def cw:aS->bq->Prop
 |.a9,u=>u=la|.aQ b,u=>u=sC b|.c O,u=>∃n,u=zH O n|.d X,u=>∃n,u=wL X n|.Kz b,u=>∃n,u=Value.bytes b n|.wY b,u=>∃n,u=J4 b n|.a0 S,u=>u=kc S|.gd y,u=>u=p2 y
abbrev b9:bp->dt->Prop:=Paired cw
theorem b9.dS {j:bp}{ae:dt}(E:b9 j ae):j.length=ae.length:=Paired.length E
theorem b9.g8:∀{j:bp}{ae:dt}{O:Nat}{X:aS},b9 j ae->j[O]?=D X->∃u,ae[O]?=D u/\cw X u
 |_,_,_,_,.nil,e=>by simp at e
 |_,_,0,_,.cons E _,e=>by simp at e;subst e;exact⟨_,rfl,E⟩
 |_,_,O+1,X,.cons _ n,e=>by
  obtain⟨u,af,ai⟩:=b9.g8   n (by simpa using e)
  exact⟨u,by simpa using af,ai⟩
theorem b9.set {X:aS}(E:cw X u):∀{j:bp}{ae:dt}(O:Nat),b9 j ae->b9 (j.set O X) (ae.set O u)
 |_,_,_,.nil=>.nil|_,_,0,.cons _ n=>.cons E n|_,_,O+1,.cons V n=>.cons V (b9.set E O n)
theorem b9.dE:∀{j aV:bp}{ae aH:dt},b9 j ae->b9 aV aH->b9 (j++aV) (ae++aH)
 |_,_,_,_,.nil,z=>z|_,_,_,_,.cons E n,z=>.cons E (b9.dE n z)
theorem b9.take:∀{j:bp}{ae:dt}(y:Nat),b9 j ae->b9 (j.take y) (ae.take y)
 |_,_,0,_=>.nil|_,_,_+1,.nil=>.nil|_,_,y+1,.cons E n=>.cons E (b9.take y n)
theorem b9.drop:∀{j:bp}{ae:dt}(y:Nat),b9 j ae->b9 (j.drop y) (ae.drop y)
 |_,_,0,E=>E|_,_,_+1,.nil=>.nil|_,_,y+1,.cons _ n=>b9.drop y n
def lh:i5->zV->Prop
 |some v,D u=>cw v u|none,i=>True|_,_=>False
def jK {fR:Type}:List (fR×aS)->List (fR×bq)->Prop:=Paired λ(N:fR×aS) (V:fR×bq)=>N.1=V.1/\cw N.2 V.2
def iv:ey->aS
 |.inl O=>.c O|.inr X=>.d X
inductive lM where
 |aM (j:List aS)
 |bb (j:List aS)
 |eN (bl:List (ey×aS))|mg (bl:List (List ey×aS))
 |set (a:Int->Bool) (y:Nat)
 |fg (aO bS:ba) (au:List (Str×aS))
 |fl (X:ba)
 |D6 (au:List (Str×aS))
 |D7 (w X:ba)
 |sJ (a8 aE:Int)
 |iw (A:l8) (u:lM)
 |nz (pos:Pos) (b:Str)
 |ext (c:Heap->Prop)
noncomputable abbrev ar:=ba->Option lM
def cq (Q:ar)(S:ba)(A:lM):ar:=λb=>if b=S then D A else Q b
theorem jL {Q:ar}:cq Q S A S=D A:=by unfold cq;rw[if_pos rfl]
theorem f6 {Q:ar}(Y:b≠S):cq Q S A b=Q b:=by unfold cq;rw[if_neg Y]
theorem TH {Q:ar}(Y:Q S=D A)(aF:Q b=D u)(t:A≠u):S≠b:=by
 intro e;subst e;rw[Y]at aF;exact t (kb aF)
theorem sL {Q:ar}(Y:Q S=D A)(aF:Q b=i):S≠b:=by grind
section
variable (P:dk)(p:cN)
def ix (Q:ar)(Y:Heap)(S:ba):lM->Prop
 |.aM j=>j.length<=cA/\∃(b:dt) (y:Nat),b9 j b/\Y.get? S=D {cls:=.type "list",data:=.seq b.toArray y}|.bb j=>j.length<=cA/\∃b:dt,b9 j b/\IsTup Y S b.toArray|.eN bl=>bl.length<=cA/\(S == sysModules)=aA/\∃a,jK bl a/\Y.DictOf (lg P p) S a| .mg bl=>bl.length<=cA/\(S == sysModules)=aA/\∃j:Ky,
   Paired (λ(N:kD×aS) (V:kD×ba×bq)=>N.1=V.1/\Q V.2.1=D (.bb (N.1.map iv))/\cw N.2 V.2.2) bl j /\
   ∃A ax e,Y.get? S=D A/\A.ExactDict/\A.data=.dict ax e/\ax.toList=j.map (entryOfKey (tupleKind (lg P p)))/\(j.map (·.1)).Nodup
 |.set f y=>Y.SetOf (intKind P p) S f y| .fg aO bS au=>Q bS=D (.fl S)/\au.length<=1000/\bS≠S/\Y.get? S=D (q5 aO bS) /\
   ∃fA,Y.Ns1 bS fA/\(∀w,lh (au.lookup w) (fA w))/\zc fA (au.map (·.1))
 |.fl _=>∃A,Y.get? S=D A|.D6 au=>∃fA,Y.Ns1 S fA/\∀w,lh (au.lookup w) (fA w)|.sJ a8 aE=>∃n u v,Y.get? S=D {cls:=.type "range",data:=.fields #[.int a8 n,.int aE u,.int 1 v]}|.iw A u=>Y.get? S=D A/\ix Q Y S u|.nz pos g=>∃aJ:me,Y.get? S=D {cls:=.none,data:=.fields aJ}/\TriplesOk aJ.toList/\∀d,codeAmong pos aJ.toList=D d->∃R A a n,d=.ref R/\Q R=D (.iw A (.fl S))/\A.data=.fields a/\a[1]?=D (.str g n)|.D7 w X=>Y.get? S=D (DQ (.ref w) (.ref X))|.ext c=>c Y/\(∃A,Y.get? S=D A)/\∀af ai:Heap,c af->(∀A,af.get? S=D A->ai.get? S=D A)->c ai
def gA (Q:ar)(Y:Heap):Prop:=∀S A,Q S=D A->ix P p Q Y S A
end
section
variable {P:dk}{p:cN}{Q ay:ar}{Y aF:Heap}{S:ba}{A:lM}
theorem ix.iy (X:ix P p Q Y S A):S<Y.objs.size:=by
 cases A with
 |aM j=>obtain⟨_,_,_,_,e⟩:=X;exact e1 e|bb j=>obtain⟨_,_,_,N⟩:=X;exact N.lt|set a y=>obtain⟨A,_,_,_,e,_⟩:=X;exact e1 e|fg aO bS au=>obtain⟨_,_,_,e,_⟩:=X;exact e1 e|fl q=>obtain⟨_,e⟩:=X;exact e1 e|D6 au=>obtain⟨_,⟨_,_,_,e,_⟩,_⟩:=X;exact e1 e|sJ a8 aE=>obtain⟨_,_,_,e⟩:=X;exact e1 e|iw b u=>obtain⟨e,_⟩:=X;exact e1 e|nz pos c=>obtain⟨_,e,_⟩:=X;exact e1 e|D7 w q=>exact e1 (X)|ext d=>obtain⟨_,⟨_,e⟩,_⟩:=X;exact e1 e |_=>obtain⟨_,_,_,_,A,_,_,e,_⟩:=X;exact e1 e
theorem Paired.D8:∀{a:List aP}{c:List dT},Paired F a c->(∀S b,F S b->ak S b)->Paired ak a c
 |_,_,.nil,_=>.nil|_,_,.cons E n,w=>.cons (w _ _ E) (Paired.D8 n w)
theorem ix.uP (X:ix P p Q Y S A)(C:∀b u,(b=S\/Q b=D (.fl S))->Y.get? b=D u->aF.get? b=D u)
  (h:∀b,Q b=D (.fl S)->ay b=D (.fl S)) (k:∀b j,Q b=D (.bb j)->ay b=D (.bb j)) (l:∀b c,Q b=D (.iw c (.fl S))->ay b=D (.iw c (.fl S)):=by exact λ_ _ V=>V):ix P p ay aF S A:=by
 induction A with
 |aM j=>obtain⟨G,f,y,E,e⟩:=X;exact⟨G,f,y,E,C _ _ (.inl rfl) e⟩|bb j=>obtain⟨G,f,E,c,e,R⟩:=X;exact⟨G,f,E,c,C _ _ (.inl rfl) e,R⟩|eN bl=>obtain⟨G,q,a,E,c,ax,d,e,R⟩:=X;exact⟨G,q,a,E,c,ax,d,C _ _ (.inl rfl) e,R⟩|mg bl=>
  obtain⟨G,q,j,E,c,ax,d,e,R⟩:=X;exact⟨G,q,j,Paired.D8 E λN V G=>⟨G.1,k _ _ G.2.1,G.2.2⟩,c,ax,d,C _ _ (.inl rfl) e,R⟩
 |set B y=>obtain⟨c,ax,d,n,e,R⟩:=X;exact⟨c,ax,d,n,C _ _ (.inl rfl) e,R⟩|fg aO bS au=>
  obtain⟨t,G,ne,e,fA,⟨g,ax,d,aB,R⟩,E⟩:=X;exact⟨h _ t,G,ne,C _ _ (.inl rfl) e,fA,⟨g,ax,d,C _ _ (.inr t) aB,R⟩,E⟩
 |fl q=>obtain⟨c,e⟩:=X;exact⟨c,C _ _ (.inl rfl) e⟩|D6 au=>obtain⟨fA,⟨g,ax,d,e,R⟩,E⟩:=X;exact⟨fA,⟨g,ax,d,C _ _ (.inl rfl) e,R⟩,E⟩|sJ a8 aE=>obtain⟨n,u,v,e⟩:=X;exact⟨n,u,v,C _ _ (.inl rfl) e⟩|iw c u m=>obtain⟨e,V⟩:=X;exact⟨C _ _ (.inl rfl) e,m V⟩|nz pos F=>
  obtain⟨aJ,e,n,w⟩:=X;exact⟨aJ,C S _ (.inl rfl) e,n,λo V=>let⟨R,c,a,n,s,x,z⟩:=w o V;⟨R,c,a,n,s,l _ _ x,z⟩⟩
 |D7 w q=>
  have e:Y.get? S=D (DQ (.ref w) (.ref q)):=X;show aF.get? S=D (DQ (.ref w) (.ref q))
  exact C S _ (.inl rfl) e
 |ext I=>obtain⟨N,⟨A,e⟩,aX⟩:=X;exact⟨aX _ _ N λA V=>C _ _ (.inl rfl) V,⟨A,C _ _ (.inl rfl) e⟩,aX⟩
theorem gA.iy (X:gA P p Q Y)(e:Q S=D A):S<Y.objs.size:=(X S A e).iy
theorem gA.fK (X:gA P p Q Y)(e:Y.objs.size<=S):Q S=i:=by
 cases V:Q S with
 |none=>rfl|some u=>exact absurd (iq (X.iy V) e) (sr _)
theorem gA.jm (X:gA P p Q Y)(C:∀b u,Y.get? b=D u->aF.get? b=D u):gA P p Q aF:=λS A e=>
 (X S A e).uP (λb u _ V=>C b u V) (λ_ V=>V) λ_ _ V=>V
theorem gA.hx (X:gA P p Q Y)(C:∀b u,Y.get? b=D u->aF.get? b=D u)(d:Y.objs.size<=S)(f:ix P p (cq Q S A) aF S A):gA P p (cq Q S A) aF:=λb u e=>by
 have a:=X.fK d;by_cases c:b=S
 ·subst c;rw[jL]at e;cases e;exact f
 ·rw[f6 c]at e
  exact(X b u e).uP (λR v _ V=>C R v V) (λR V=>by rw[f6 (sL V a)];exact V) (λR j V=>by rw[f6 (sL V a)];exact V) λR g V=>by rw[f6 (sL V a)];exact V
end
def eg (Q:ar)(S:ba)(u:lM):Prop:=Q S=D u\/∃A,Q S=D (.iw A u)
theorem eg.f {P:dk}{p:cN}{Q:ar}{Y:Heap}(E:eg Q S u)(X:gA P p Q Y):ix P p Q Y S u:=by
 rcases E with E |⟨A,E⟩
 ·exact X S u E
 ·obtain⟨_,V⟩:=X S _ E
  exact V
noncomputable def wZ:Option lM->Prop
 |some (.aM _)=>True
 |some (.eN _)=>True
 |some (.mg _)=>True
 |some (.set _ _)=>True
 |some (.fg _ _ _)=>True
 |some (.ext _)=>True
 |_=>False
section
variable {P:dk}{p:cN}{Q:ar}{Y aF:Heap}{X e:ba}{b3:lM}
theorem gA.q9 (k:gA P p Q Y)(a:wZ (Q X))(g:e=X\/Q e=D (.fl X))(C:∀b u,b≠e->Y.get? b=D u->aF.get? b=D u)(l:∃u,aF.get? e=D u)
  (m:ix P p (cq Q X b3) aF X b3):gA P p (cq Q X b3) aF:=λb u V=>by
 have h:∀R q,Q R=D (.fl q)->R≠X:=λR q E G=>by subst G;rw[E]at a;exact a
 have n:∀R j,Q R=D (.bb j)->R≠X:=λR j E G=>by subst G;rw[E]at a;exact a
 by_cases c:b=X
 ·subst c;rw[jL]at V;cases V;exact m
 ·rw[f6 c]at V
  by_cases d:b=e
  ·have dq:Q b=D (.fl X):=by
    rcases g with G |G
    ·exact absurd (d.trans G) c
    ·rw[d];exact G
   rw[V]at dq;cases dq;obtain⟨v,o⟩:=l;exact⟨v,by rw[d];exact o⟩
  ·refine(k b u V).uP (λR v f E=>C R v ?_ E) (λR E=>by rw[f6 (h R b E)];exact E) (λR j E=>by rw[f6 (n R j E)];exact E) λR s E=>by rw[f6 (λG=>by subst G;rw[E]at a;exact a)];exact E
   rcases f with rfl |f
   ·exact d
   ·rintro rfl
    rcases g with G |G
    ·exact h R b f G
    ·rw[f]at G;cases G;exact c rfl
end
structure iS (au aT:n4)(Q ay:ar)(Y aF:Heap):Prop where
 fb:∀b A,Y.get? b=D A->Q b=i->b∉au->b∉aT->aF.get? b=D A
 nA:∀b A,Y.get? b=D A->Q b=i->b∈au->b∉aT->∃a,aF.get? b=D {A with slots:=a}
 cz:∀b A,Y.get? b=D A->Q b=i->b∉aT->ay b=i
 there:∀b A,Y.get? b=D A->b∉aT->∃b3,aF.get? b=D b3
 q_:∀b j,Q b=D (.bb j)->ay b=D (.bb j)
 sM:∀b A u,Q b=D (.iw A u)->ay b=D (.iw A u)
 ra:∀b N V,Q b=D (.nz N V)->ay b=D (.nz N V)
section
variable {au aT:n4}{Q aw:ar}{Y af aF:Heap}{S X e:ba}{A:lM}
theorem iS.dw (u:iS au aT Q aw Y af)(V:Y.get? b=D γ)(y:Q b=i)(a:b∉aT):∃d,af.get? b=D {γ with slots:=d}:=by
 by_cases c:b∈au
 ·exact u.nA b γ V y c a
 exact⟨γ.slots,u.fb b γ V y c a⟩
theorem iS.jm (C:∀b u,Y.get? b=D u->aF.get? b=D u):iS au aT Q Q Y aF:=
 ⟨λb a V _ _ _=>C b a V,λb a V _ _ _=>⟨a.slots,C b a V⟩,λ_ _ _ y _=>y,λb a V _=>⟨a,C b a V⟩,λ_ _ V=>V,λ_ _ _ V=>V,λ_ _ _ V=>V⟩
theorem iS.fu:iS au aT Q Q Y Y:=iS.jm λ_ _ V=>V
theorem iS.hx (C:∀b u,Y.get? b=D u->aF.get? b=D u)(c:Y.objs.size<=S)(a:Q S=i):iS au aT Q (cq Q S A) Y aF where
 fb:=λb u V _ _ _=>C b u V
 nA:=λb u V _ _ _=>⟨u.slots,C b u V⟩
 cz:=λb u V y _=>by rwa[f6 (gz (iq (e1 V) c))]
 there:=λb u V _=>⟨u,C b u V⟩
 q_:=λb j V=>by rwa[f6 (sL V a)]
 sM:=λb u j V=>by rwa[f6 (sL V a)]
 ra:=λb fh dq V=>by rwa[f6 (sL V a)]
theorem iS.q9 (f:wZ (Q X))(k:e=X\/Q e=D (.fl X))(C:∀b u,b≠e->Y.get? b=D u->aF.get? b=D u)(g:∃u,aF.get? e=D u):iS au aT Q (cq Q X A) Y aF:=by
 have h:∀b,Q b=i->b≠X:=λb y G=>by subst G;rwa[y]at f
 have c:∀b,Q b=i->b≠e:=λb y G=>by simp_all
 have a:∀b u,Q b=D u->¬wZ (D u)->b≠X:=λb u V cV G=>by simp_all
 refine⟨λb u V y _ _=>C b u (c b y) V,λb u V y _ _=>⟨u.slots,C b u (c b y) V⟩,λb u V y _=>by rwa[f6 (h b y)],λb u V _=>?_,
  λb j V=>by rwa[f6 (a b _ V λG=>G)],λb u j V=>by rwa[f6 (a b _ V λG=>G)],λb fh dq V=>by rwa[f6 (a b _ V λG=>G)]⟩
 by_cases d:b=e
 ·subst d;exact g
 exact⟨u,C b u d V⟩
end
def TJ (Y:Heap)(Q:ar):List ba:=(fW Y.objs.size).filter λS=>(Q S).isSome
def p4 (Y:Heap)(Q:ar):Heap:=W.hideAll Y (TJ Y Q)
theorem TK (Y:Heap)(Q:ar):(p4 Y Q).objs.size=Y.objs.size:=W.hideAll_size _ _
theorem TL {Y:Heap}{Q:ar}(e:Y.get? b=D A)(y:Q b=i):(p4 Y Q).get? b=D A:=
 W.hideAll_get _ e λa=>by
  have V  := (Jy.mp a).2;rw[y]at V;simp at V
theorem TM {Y:Heap}{Q:ar}(e:(p4 Y Q).get? b=D A):Y.get? b=D A/\Q b=i:=by
 have a  := W.of_hideAll _ e;refine⟨a,?_⟩;cases V:Q b with
 |none=>rfl|some X=>
  have G:(p4 Y Q).get? b=i:=W.hideAll_none _ (Jy.mpr ⟨ma.mpr (e1 a),by simp[V]⟩)
  grind
def TN (I:bK):Option i4:=match gL I ft "put_in_order" with
 |some (D (.ref w))=>(match I.lookup w with
  |some ⟨_,_,.func bP,_⟩=>D bP|_=>i)
 |_=>i
noncomputable def TO (b:FuncBody):Option Pos:=match b with
 |.stmts [.Return (D (.Call _ _ [⟨_,.Lambda _ _ _ pos,_⟩] _)) _]=>D pos|_=>i
def p5 (I:bK):Option (ba×Pos×Str):=(DU I "put_in_order").bind λn=>(TN I).bind λbP=>(TO bP.body).map λpos=>(n.2,pos,bP.qualname ++ ".<locals>." ++ "<lambda>")
def w0 (I:bK)(Q:ar):Prop:=∀P pos V,p5 I=D (P,pos,V)->Q P=D (.nz pos V)
structure Mod (I:bK)(a6:e2)(bj:Heap):Prop where
 w1:I.In bj
 p6:bj.Ns ft a6
 uQ:∃b,bj.Ns builtinsNs b/\∀X:Str,X ≠ "__name__" -> b X=oO X
 nolimit:bj.NoLimit
 eS:∃eS a,a6 "__builtins__"=D (.ref eS)/\eS≠builtinsNs/\bj.get? eS=D a/\a.cls=.type "module" /\ a.dict=D builtinsNs/\a.data=.plain
set_option genInjectivity false in
structure bU where
 cu:dk
 p:cN
 I:bK
 a6:Str->zV
 bj:Heap
 r:dM
 bB:c_
 jM:bz
 uR:ar
 x:Env
 mh:mf
 hN:mf
 aT:n4
 hO:Str->Bool
 fD:Bool
 aD:dD
 fm:bq->bz->Prop
noncomputable def mS (s:mf):List ba:=s.filterMap (·.frame)
abbrev bU.au (H:bU):List ba:=mS H.mh
def uS (a:Scope)(X:Str):Prop:=a.names.lookup X=D .local\/a.names.lookup X=D .cell\/a.names.lookup X=D .free
def uT (a:Scope)(X:Str):Prop:=a.names.lookup X=D .local\/a.names.lookup X=D .cell
def TP (x:Env)(Y:Heap)(m:e2)(X:Str)(u:bq):Prop:=
 (x.kindOf X=D .local/\m X=D u)\/((x.kindOf X=D .cell\/x.kindOf X=D .free)/\∃R,x.cells.lookup X=D R/\Y.IsCell R (D u))
structure bU.dZ (H:bU):Prop where
 es:Mod H.I H.a6 H.bj
 hP:H.x.scope.kind=.function
 p6:H.x.globals=ft
 uQ:H.x.builtins=builtinsNs
 above:H.jM.heap.objs.size<=H.x.locals
 inj:∀X q R,H.x.cells.lookup X=D R->H.x.cells.lookup q=D R->X=q
 zW:∀X,(H.x.kindOf X=D .cell\/H.x.kindOf X=D .free)->∃R,H.x.cells.lookup X=D R
 w2:∀X R,H.hO X=ag->H.x.cells.lookup X=D R->H.jM.heap.objs.size<=R
 gB:H.fD=ag->H.r.handled=i
 frames:H.r.frames=D H.hN
 zX:H.hN=H.mh\/(H.hN=H.x::H.mh/\H.x.frame=D H.x.locals)
 D9:∀b∈H.aT,b≠H.x.locals/\∀X R,H.x.cells.lookup X=D R->R≠b
 c6:∀b A,H.bj.get? b=D A->H.jM.heap.get? b=D A/\H.uR b=i
 p7:H.bj.objs.size<=H.jM.heap.objs.size
 sN:∀b A,H.bj.get? b=D A->b∉H.aT
 zY:∀b∈H.aT,b∉H.au
 nB:H.jM.heap.FunFrames H.bj H.mh
 sO:∀b∈H.au,H.uR b=i
 dr:w0 H.I H.uR
theorem D_ {n:Sem Jh}{au:List Frame} {e:End}(Y:Runs M Γ N n au z e bc):z.toks<=bc.toks:=by
 induction Y<;>(try simp only[Shared.setGen]at *)<;>lia
theorem zZ {y:Nat}{n:Sem aP}:∀{o:aP->Pos->bz->Prop}{k:bq->Pos->bz->Prop}{N:Pos}{z:bz},y<=z.toks->Sem.wp M Γ n (λS N bc=>y<=bc.toks->o S N bc) (λe N bc=>y<=bc.toks->k e N bc) N z->Sem.wp M Γ n o k N z:=by
 induction n with
 |pure S=>intro o k N z s Y;rw[Sem.wp]at Y ⊢;exact Y s
 |raise e=>intro o k N z s Y;rw[Sem.wp]at Y ⊢;exact Y s
 |fresh C a=>intro o k N z s Y;rw[Sem.wp]at Y ⊢;exact a _ (Nat.le_succ_of_le s) Y
 |call R Y g v C a=>
  intro o k N z s Y;rw[Sem.wp]at Y ⊢;obtain⟨E,bc,af,ai⟩:=Y;exact⟨E,bc,af,a _ (ka s (D_ af)) ai⟩
 |resume g E v C a=>
  intro o k N z s Y;rw[Sem.wp]at Y ⊢;obtain⟨E,bc,af,ai⟩:=Y;refine⟨E,bc,af,a _ (ka s ?_) ai⟩;unfold Wakes at af;split at af
  ·exact af.elim
  ·split at af
   ·obtain⟨_,_,bw,_,_,rfl⟩:=af;exact(D_ bw:(z.setGen g .running).toks<=_)
   ·rw[af.2];exact cZ _
   ·rw[af.2];exact cZ _
  ·obtain⟨_,_,bw,_,_,rfl⟩:=af;exact(D_ bw:(z.setGen g .running).toks<=_)
  ·rw[af.2];exact cZ _
  ·rw[af.2];exact cZ _
 |load S N C a=>intro o k N z s Y;rw[Sem.wp]at Y ⊢;obtain⟨A,e,Y⟩:=Y;exact⟨A,e,a _ s Y⟩
 |genState g C a=>intro o k N z s Y;rw[Sem.wp]at Y ⊢;obtain⟨A,e,Y⟩:=Y;exact⟨A,e,a _ s Y⟩
 |update S N w C a=>intro o k N z s Y;rw[Sem.wp]at Y ⊢;exact⟨Y.1,a _ s Y.2⟩
 |choose S y C a=>intro o k N z s Y;rw[Sem.wp]at Y ⊢;exact⟨Y.1,a _ s Y.2⟩
 |_=>intro o k N z s Y;rw[Sem.wp]at Y ⊢;first |exact Y |(rename_i a;exact a _ s Y)
theorem kE {r:dM}{n:Sem aP}(Y:bT M r n (λS bc=>z.toks<=bc.toks->o S bc) (λe bc=>z.toks<=bc.toks->k e bc) z):bT M r n o k z:=λa N b=>zZ (cZ _) (Y a N b)
theorem Ea {n:Sem aP}(Y:Sem.wp M Γ n o k N z)(af:∀S N z,o S N z->Q' S N z)(ai:∀S N z,k S N z->E' S N z):Sem.wp M Γ n Q' E' N z:=Sem.wp_mono M Γ n af ai N z Y
def n6 {aP:Type}(n:Sem aP):Prop:=∀(a:Model) (b:Sx) (y:Nat) (o:aP->Pos->bz->Prop) (k:bq->Pos->bz->Prop) (N:Pos) (z:bz),y<=z.toks->Sem.wp a b n (λS N bc=>y<bc.toks->o S N bc) k N z->Sem.wp a b n o k N z
theorem w3 {n:Sem aP}{C:aP->Sem dT}(Y:n6 n):n6 (n>>=C):=λa b y o k N z s p=>by
 rw[Sem.wp_bind']at p ⊢;refine Y a b y _ k N z s (Sem.wp_mono a b n (λS fh bc p c=>?_) (λ_ _ _ G=>G) N z p)
 exact zZ  c (Ea p (λ_ _ _ G=>G) (λ_ _ _ G _=>G))
theorem Eb {n:Sem aP}{C:aP->Sem dT}(Y:∀S,n6 (C S)):n6 (n>>=C):=λa b y o k N z s p=>by
 rw[Sem.wp_bind']at p ⊢;exact zZ s (Ea p (λS fh bc p c=>Y S a b y o k fh bc c p) (λ_ _ _ G _=>G))
theorem TQ:n6 fresh:=λa b y o k N z s p=>p (Nat.lt_succ_of_le s)
theorem TR {X:Str}:n6 (nsSet ns X v):=Eb λ_=>w3 (w3 TQ)
theorem KC {g:Str×bq->Sem Unit}:∀{c6:uM},(∃b∈c6,n6 (g b))->n6 (forIn c6 PUnit.unit λb (_:PUnit)=>do g b;pure (ForInStep.yield PUnit.unit))
 |[],Y=>by simp_all
 |b::c6,Y=>by
  rw[zq];obtain⟨R,a,m⟩:=Y;rcases dn.mp a with rfl |a
  ·exact w3 (w3 m)
  ·intro c d y o k N z s p
   rw[Sem.wp_bind',Sem.wp_bind']at p ⊢;exact zZ s (Ea p (λS fh bc p e=>KC ⟨R,a,m⟩ c d y o k fh bc e p) (λ_ _ _ G _=>G))
theorem TS {scope:Scope}{globals:ba}{c6:uM}{qual:Str}{func:jl}{code:bq}{builtins:ba}(c:scope.kind=.function)(a:∃b∈c6,scope.names.lookup b.1=D .local):
  n6 (newFunctionEnv scope globals [] c6 qual func code i builtins):=by
 refine Eb λL=>Eb λd=>w3 ?_
 obtain⟨b,e,a⟩:=a;refine KC ⟨b,e,?_⟩;rw[(storeName_local (env:={scope:=scope,locals:=L,globals:=globals,cells:=d,qual:=qual,func:=func,code:=code,frame:=D L,builtins:=builtins})  a (by rw[c];rfl) _)]
 exact TR
theorem TU {r:dM}{n:Sem aP}(m:n6 n)(Y:bT M r n (λS bc=>0<bc.toks->o S bc) k z):bT M r n o k z:=λa N b=>m M a 0 _ _ N z (mc _) (Y a N b)
structure a5 (H:bU)(aj:dD)(l:List i5)(Q:ar)(z:bz):Prop where
 f:H.dZ
 os:z.os=H.jM.os
 lN:AllBare z.gens
 bj:iS H.au H.aT H.uR Q H.jM.heap z.heap
 kF:∃m,z.heap.Ns H.x.locals m/\∀(O:Nat) (X:Str) (v:aS),H.bB[O]?=D X->l[O]?=D (D v)->uS H.x.scope X->∃u,cw v u/\TP H.x z.heap m X u
 lj:∀X R,H.x.cells.lookup X=D R->∃v,z.heap.IsCell R v
 cz:Q H.x.locals=i
 oX:∀X R,H.x.cells.lookup X=D R->Q R=i
 e5:∀N∈H.aD++aj,z.heap.get? N.1=D N.2/\Q N.1=i/\N.1≠H.x.locals/\N.1∉H.au/\∀v,N.2.data≠.cell v
 cL:gA H.cu H.p Q z.heap
 cn:l.length=H.bB.length
 tk:0<z.toks
section
variable {H:bU}{aj:dD}{l:List i5}{Q ay:ar}{z:bz}{aF:Heap}
theorem bU.dZ.TV (a:H.dZ)(e:H.bj.get? b=D A):b∉H.au:=λc=>by
 have:=(a.nB.mem c).1;simp_all
theorem a5.c6 (a:a5 H aj l Q z):∀b A,H.bj.get? b=D A->z.heap.get? b=D A/\Q b=i:=λb A e=>
 ⟨a.bj.fb b A (a.f.c6 b A e).1 (a.f.c6 b A e).2 (a.f.TV e) (a.f.sN b A e),a.bj.cz b A (a.f.c6 b A e).1 (a.f.c6 b A e).2 (a.f.sN b A e)⟩
theorem a5.dr (a:a5 H aj l Q z):w0 H.I Q:=λP N V e=>a.bj.ra _ _ _ (a.f.dr P N V e)
theorem a5.gU (a:a5 H aj l Q z):∀b A,H.bj.get? b=D A->z.heap.get? b=D A:=λb A e=>(a.c6 b A e).1
theorem a5.es (a:a5 H aj l Q z):Mod H.I H.a6 H.bj:=a.f.es
theorem a5.g9 (a:a5 H aj l Q z):H.I.In z.heap:=a.f.es.w1.keeps a.gU
theorem a5.iy (a:a5 H aj l Q z):H.x.locals<z.heap.objs.size:=let⟨_,b,_⟩:=a.kF;b.lt
theorem a5.z0 (a:a5 H aj l Q z):H.jM.heap.objs.size<=z.heap.objs.size:=ka a.f.above (wJ a.iy)
theorem a5.TX (a:a5 H aj l Q z)(Y:z.heap.objs.size<=S):S∉H.au:=λb=>by
 obtain⟨_,A,c,_⟩:=a.f.nB.mem b;exact absurd (iq (e1 c) (ka a.z0 Y)) (sr _)
theorem a5.Ec (a:a5 H aj l Q z):∀X R,H.x.cells.lookup X=D R->R≠H.x.locals:=λX R e G=>by
 obtain⟨v,A,b,c⟩:=a.lj X R e;obtain⟨m,⟨b3,ax,d,f,g,_⟩,_⟩:=a.kF;simp_all
theorem a5.nB (a:a5 H aj l Q z):z.heap.FunFrames H.bj H.mh:=by
 have h:∀(s:mf),(∀b∈mS s,b∈H.au)->H.jM.heap.FunFrames H.bj s->z.heap.FunFrames H.bj s:=by
  intro s;induction s with
  |nil=>intro _ _;trivial
  |cons x E j=>
   intro g k;obtain⟨m,⟨L,A,c,n,o,p⟩,q⟩:=k;have d  := g L (by unfold mS;rw[wz,c];exact eI)
   obtain⟨t,e⟩:=a.bj.nA L A o (a.f.sO L d) d λG=>a.f.zY L G d
   exact⟨m,⟨L,_,c,n,e,p⟩,j (λb f=>g b (by unfold mS;rw[wz,c];exact f5 _ f)) q⟩
 exact h _ (λ_ f=>f) a.f.nB
theorem a5.hN (a:a5 H aj l Q z):z.heap.FunFrames H.bj H.hN:=by
 rcases a.f.zX with e |⟨e,b⟩
 ·rw[e];exact a.nB
 ·rw[e]
  obtain⟨m,c,_⟩:=a.kF;refine .cons (by rw[a.f.hP];decide) b c ?_ a.nB
  exact Heap.get?_none_of_le (ka a.f.p7 a.f.above)
theorem a5.z1 (c:a5 H aj l Q z):∀b∈mS H.hN,b∈H.x.locals::H.au:=λb a=>by
 rcases c.f.zX with e |⟨e,d⟩
 ·rw[e]at a;exact f5 _ a
 ·rw[e]at a
  unfold mS at a;rwa[wz,d]at a
theorem a5.KD (a:a5 H aj l Q z):∀b∈mS H.hN,Q b=i:=λb c=>by
 rcases dn.mp (a.z1 b c)with e |c
 ·rw[e];exact a.cz
 ·obtain⟨_,A,d,_⟩:=a.f.nB.mem c
  exact a.bj.cz b A d (a.f.sO b c) λG=>a.f.zY b G c
theorem a5.step {x:Array GenState}{B:Nat}{eh:Drawn}{d:n4}(a:a5 H aj l Q z)
  (h:∀b∈d,(b∈H.aT\/H.jM.heap.objs.size<=b)/\b≠H.x.locals/\(∀X R,H.x.cells.lookup X=D R->R≠b)/\∀N∈H.aD++aj,N.1≠b)
  (p:∀b A,b≠H.x.locals->b∉H.au->b∉d->z.heap.get? b=D A->Q b=i->aF.get? b=D A)
  (F:∀b A,b≠H.x.locals->b∈H.au->b∉d->z.heap.get? b=D A->Q b=i->∃q,aF.get? b=D {A with slots:=q}) (n:∀b A,b∉d->z.heap.get? b=D A->Q b=i->ay b=i)
  (P:∀b A,b∉d->z.heap.get? b=D A->∃b3,aF.get? b=D b3)
  (S:∀b j,Q b=D (.bb j)->ay b=D (.bb j)) (T:∀b A u,Q b=D (.iw A u)->ay b=D (.iw A u)) (U:∀b N V,Q b=D (.nz N V)->ay b=D (.nz N V))
  (W:∀m,z.heap.Ns H.x.locals m->aF.Ns H.x.locals m) (Y:gA H.cu H.p ay aF) (Z:AllBare x) (aa:0<B):
  a5 H aj l ay {z with heap:=aF,gens:=x,drawn:=eh,toks:=B}:=by
 have I:∀b A,H.jM.heap.get? b=D A->b≠H.x.locals:=λb A e=>gz (iq (e1 e) a.f.above)
 have o:∀b A,H.jM.heap.get? b=D A->b∉H.aT->b∉d:=λb A e c f=>by
  rcases(h b f).1 with G |G
  ·exact c G
  ·exact absurd (iq (e1 e) G) (sr _)
 have J:∀X R,H.x.cells.lookup X=D R->∀v,z.heap.IsCell R v->aF.IsCell R v:=λX R e v ⟨A,g,w⟩=>by
  have k:R∉d:=λG=>(h R G).2.2.1 X R e rfl
  by_cases K:R∈H.au
  ·obtain⟨q,V⟩:=F R A (a.Ec X R e) K k g (a.oX X R e)
   exact⟨_,V,w⟩
  ·exact⟨A,p R A (a.Ec X R e) K k g (a.oX X R e),w⟩
 refine⟨a.f,a.os,Z,⟨λb A e y f c=>?_,λb A e y f c=>?_,λb A e y c=>?_,λb A e c=>?_,λb j e=>S b j (a.bj.q_ b j e),λb A j e=>T b A j (a.bj.sM b A j e),λb N V e=>U b N V (a.bj.ra b N V e)⟩,?_,λX R e=>?_,?_,λX R e=>?_,λN L=>?_,Y,a.cn,aa⟩
 ·exact p b A (I b A e) f (o b A e c) (a.bj.fb b A e y f c) (a.bj.cz b A e y c)
 ·obtain⟨q,aR⟩:=a.bj.nA b A e y f c
  obtain⟨ab,aB⟩:=F b _ (I b A e) f (o b A e c) aR (a.bj.cz b A e y c);exact⟨ab,aB⟩
 ·obtain⟨b3,aR⟩:=a.bj.there b A e c
  exact n b b3 (o b A e c) aR (a.bj.cz b A e y c)
 ·obtain⟨b3,aR⟩:=a.bj.there b A e c
  exact P b b3 (o b A e c) aR
 ·obtain⟨m,ac,ae⟩:=a.kF
  refine⟨m,W m ac,λO X v aR aB af=>?_⟩
  obtain⟨u,E,s⟩:=ae O X v aR aB af;refine⟨u,E,?_⟩;rcases s with s |⟨C,R,e,G⟩
  ·exact .inl s
  ·exact .inr ⟨C,R,e,J X R e _ G⟩
 ·obtain⟨v,G⟩:=a.lj X R e
  exact⟨v,J X R e v G⟩
 ·obtain⟨m,⟨A,_,_,g,_⟩,_⟩:=a.kF
  exact n _ A (λG=>(h _ G).2.1 rfl) g a.cz
 ·obtain⟨v,A,g,w⟩:=a.lj X R e
  exact n R A (λG=>(h R G).2.2.1 X R e rfl) g (a.oX X R e)
 ·obtain⟨e,y,ne,M,t⟩:=a.e5 N L
  have k:N.1∉d:=λG=>(h N.1 G).2.2.2 N L rfl
  exact⟨p N.1 N.2 ne M k e y,n N.1 N.2 k e y,ne,M,t⟩
theorem a5.aK {d:Nat}(a:a5 H aj l Q z)(u:iS H.au [] Q ay z.heap aF)(h:gA H.cu H.p ay aF)(j:0<d:=by fail "0"):a5 H aj l ay {z with heap:=aF,toks:=d}:=by
 obtain⟨m,⟨A,ax,s,f,E⟩,_⟩:=id a.kF;obtain⟨t,k⟩:=u.dw f a.cz (by simp)
 exact a.step (x:=z.gens) (eh:=z.drawn) (d:=[]) (λ_ G=>nomatch G) (λb A _ c _ e y=>u.fb b A e y c (by simp)) (λb A _ c _ e y=>u.nA b A e y c (by simp)) (λb A _ e y=>u.cz b A e y (by simp)) (λb A _ e=>u.there b A e (by simp)) u.q_ u.sM u.ra (λv n=>by
  obtain⟨b3,o,p,g,q⟩:=n;rw[f]at g;cases g;exact⟨_,o,p,k,q⟩) h a.lN j
theorem a5.b0 {f:Nat}(c:a5 H aj l Q z)(u:iS (mS H.hN) ke Q ay z.heap aF)(k:gA H.cu H.p ay aF)(n:AllBare g')
  (g:∀b∈ke,(b∈H.aT\/H.jM.heap.objs.size<=b)/\b≠H.x.locals/\(∀X R,H.x.cells.lookup X=D R->R≠b)/\∀N∈H.aD++aj,N.1≠b) (o:0<f:=by fail "0"):
  a5 H aj l ay {z with heap:=aF,gens:=g',drawn:=eh,toks:=f}:=by
 obtain⟨m,⟨A,ax,w,h,E⟩,_⟩:=id c.kF;obtain⟨x,d⟩:=u.dw h c.cz λG=>(g _ G).2.1 rfl
 exact c.step (d:=ke) g (λb A d p a e y=>u.fb b A e y (λG=>(dn.mp (c.z1 b G)).elim d p) a) (λb A _ _ a e y=>u.dw e y a) (λb A a e y=>u.cz b A e y a) (λb A a e=>u.there b A e a) u.q_ u.sM u.ra (λB q=>by
  obtain⟨b3,s,t,j,v⟩:=q;rw[h]at j;cases j;exact⟨_,s,t,d,v⟩) k n o
theorem a5.n7 {d:Nat}(c:a5 H aj l Q z)(C:∀b A,b≠it->z.heap.get? b=D A->aF.get? b=D A)(h:Q it=i)(f:it≠H.x.locals)
  (af:it∈H.aT\/H.jM.heap.objs.size<=it) (ai:∀X R,H.x.cells.lookup X=D R->R≠it) (bw:∀N∈H.aD++aj,N.1≠it) (j:0<d:=by fail "0"):a5 H aj l Q {z with heap:=aF,toks:=d}:=by
 have g:∀b u,Q b=D u->b≠it:=λb u e G=>by rw[G,h]at e;cases e
 refine c.step (x:=z.gens) (eh:=z.drawn) (d:=[it]) (λb k=>?_) (λb A _ _ a e _=>C b A (λG=>a (by simp[G])) e) (λb A _ _ a e _=>⟨A.slots,C b A (λG=>a (by simp[G])) e⟩) (λ_ _ _ _ y=>y)
  (λb A a e=>⟨A,C b A (λG=>a (by simp[G])) e⟩) (λ_ _ e=>e) (λ_ _ _ e=>e) (λ_ _ _ e=>e) (λm n=>?_) (λb u e=>?_) c.lN j
 ·have e:b=it:=by simpa using k
  subst e;exact⟨af,f,ai,bw⟩
 ·obtain⟨A,ax,o,p,E⟩:=n
  exact⟨A,ax,o,C _ A (oT f) p,E⟩
 ·refine(c.cL b u e).uP (λR v a V=>C R v ?_ V) (λ_ V=>V) λ_ _ V=>V
  rcases a with G |G
  ·rw[G];exact g b u e
  ·exact g R _ G
theorem a5.fS (a:a5 H aj l Q z)(n:Nat)(b:0<n:=by fail "0"):a5 H aj l Q {z with toks:=n}:=a.aK   iS.fu a.cL b
theorem a5.jm {a:Nat}(c:a5 H aj l Q z)(C:∀b u,z.heap.get? b=D u->aF.get? b=D u)(d:0<a:=by fail "0"):a5 H aj l Q {z with heap:=aF,toks:=a}:=c.aK (iS.jm C) (c.cL.jm C) d
theorem a5.hx {d:Nat}(a:a5 H aj l Q z)(C:∀b u,z.heap.get? b=D u->aF.get? b=D u)(c:z.heap.objs.size<=S)(e:ix H.cu H.p (cq Q S A) aF S A)(f:0<d:=by fail "0"):
  a5 H aj l (cq Q S A) {z with heap:=aF,toks:=d}:=a.aK (iS.hx C c (a.cL.fK c)) (a.cL.hx C c e) f
theorem a5.q9 {X e:ba} {a:Nat}(c:a5 H aj l Q z)(d:wZ (Q X))(f:e=X\/Q e=D (.fl X))(C:∀b u,b≠e->z.heap.get? b=D u->aF.get? b=D u)(g:∃u,aF.get? e=D u)
  (h:ix H.cu H.p (cq Q X A) aF X A) (j:0<a:=by fail "0"):a5 H aj l (cq Q X A) {z with heap:=aF,toks:=a}:=c.aK (iS.q9 d f C g) (c.cL.q9 d f C g h) j
theorem a5.Ed (a:a5 H aj l Q z)(Y:∀N∈cD,z.heap.get? N.1=D N.2/\Q N.1=i/\N.1≠H.x.locals/\N.1∉H.au/\∀v,N.2.data≠.cell v):a5 H cD l Q z:=
 ⟨a.f,a.os,a.lN,a.bj,a.kF,a.lj,a.cz,a.oX,λN b=>(hu.mp b).elim (λG=>a.e5 N (zh _ G)) (Y N),a.cL,a.cn,a.tk⟩
theorem KG {bB:c_}(a:bB.Nodup){O h:Nat}{X:Str}(S:bB[O]?=D X)(b:bB[h]?=D X):O=h:=by
 obtain⟨af,aR⟩:=ia.mp S;obtain⟨ai,aB⟩:=ia.mp b;exact(List.getElem_inj a).mp (aR.trans aB.symm)
theorem TY {af:Model}{r:dM}{k:bq->bz->Prop}{O:Nat}{X:Str}{v:aS}{u:bq}{o:Unit->bz->Prop}(a:a5 H aj l Q z)(P:H.bB.Nodup)(aE:H.bB[O]?=D X)(f:uT H.x.scope X)(E:cw v u)
  (Y:∀bc,a5 H aj (l.set O (D v)) Q bc->(∃S,sq S z.heap bc.heap/\(S=H.x.locals\/H.x.cells.lookup X=D S))->o () bc) (ah:H.hO X=ag\/H.x.scope.names.lookup X=D .local:=by fail "1"):bT af r (storeName H.x X u) o k z:=by
 obtain⟨m,s,T⟩:=id a.kF;have ai:(H.x.scope.kind == .class ||(H.x.scope.kind == .module && H.x.locals != H.x.globals))=aA:=by rw[a.f.hP];rfl
 have U:O<l.length:=by rw[a.cn];exact(ia.mp aE).1
 have w:=a.Ec;have W:∀{S:ba}{aF:Heap},(∃A,z.heap.get? S=D A/\Q S=i)->sq S z.heap aF->gA H.cu H.p Q aF:=λ{S aF} ak c b al e=>by
  obtain⟨_,_,Z⟩:=ak;refine(a.cL b al e).uP (λR p d V=>(c.2 R ?_).trans V) (λ_ V=>V) λ_ _ V=>V
  rintro rfl;rcases d with rfl |d
  ·rw[Z]at e;cases e
  ·rw[Z]at d;cases d
 rcases f with g |g
 ·refine wpAny_storeName_local g s (λaF am c=>?_) ai
  obtain⟨an,_,_,ao,_⟩:=id s;refine Y _ ⟨a.f,a.os,a.lN,⟨λb A e y j f=>?_,λb A e y j f=>?_,a.bj.cz,λb A e f=>?_,a.bj.q_,a.bj.sM,a.bj.ra⟩,⟨_,am,λh q x aR aB B=>?_⟩,λq R e=>?_,a.cz,a.oX,λN F=>?_,W ⟨an,ao,a.cz⟩ c,by simpa using a.cn,Du _⟩ ⟨_,c,.inl rfl⟩
  ·exact(c.2 b (gz (iq (e1 e) a.f.above))).trans (a.bj.fb b A e y j f)
  ·obtain⟨I,aR⟩:=a.bj.nA b A e y j f
   exact⟨I,(c.2 b (gz (iq (e1 e) a.f.above))).trans aR⟩
  ·obtain⟨b3,aR⟩:=a.bj.there b A e f
   exact⟨b3,(c.2 b (gz (iq (e1 e) a.f.above))).trans aR⟩
  ·by_cases n:h=O
   ·subst n
    rw[aE]at aR;cases aR;rw[uy U]at aB;cases aB;exact⟨u,E,.inl ⟨g,by simp⟩⟩
   ·rw[j9 (oT n)]at aB
    obtain⟨J,K,V⟩:=T h q x aR aB B;refine⟨J,K,?_⟩;rcases V with⟨C,e⟩|⟨C,R,e,G⟩
    ·refine .inl ⟨C,?_⟩
     have:q≠X:=λe=>n (KG P aR (e ▸ aE))
     simp[this,e]
    ·exact .inr ⟨C,R,e,G.sameBut c (w q R e)⟩
  ·obtain⟨p,G⟩:=a.lj q R e
   exact⟨p,G.sameBut c (w q R e)⟩
  ·obtain⟨e,y,ne,L,t⟩:=a.e5 N F
   exact⟨(c.2 N.1 ne).trans e,y,ne,L,t⟩
 ·have M:H.hO X=ag:=by
   rcases ah with G |G
   ·exact G
   ·rw[G]at g;cases g
  obtain⟨R,d⟩:=a.f.zW X (.inl g);obtain⟨p,G⟩:=a.lj X R d;refine wpAny_storeName_cell a.f.hP g d G (λaF aa c=>?_)
  obtain⟨ab,ac,ap⟩:=id G;refine Y {z with heap:=aF} ⟨a.f,a.os,a.lN,⟨λb A e y j f=>?_,λb A e y j f=>?_,a.bj.cz,λb A e f=>?_,a.bj.q_,a.bj.sM,a.bj.ra⟩,⟨m,s.sameBut c (oT (w X R d)),λh q x aR aB B=>?_⟩,λq cS e=>?_,a.cz,a.oX,λN F=>?_,W ⟨ab,ac,a.oX X R d⟩ c,by simpa using a.cn,a.tk⟩ ⟨R,c,.inr d⟩
  ·exact(c.2 b (gz (iq (e1 e) (a.f.w2 X R M d)))).trans (a.bj.fb b A e y j f)
  ·obtain⟨I,aR⟩:=a.bj.nA b A e y j f
   exact⟨I,(c.2 b (gz (iq (e1 e) (a.f.w2 X R M d)))).trans aR⟩
  ·obtain⟨b3,aR⟩:=a.bj.there b A e f
   exact⟨b3,(c.2 b (gz (iq (e1 e) (a.f.w2 X R M d)))).trans aR⟩
  ·by_cases n:h=O
   ·subst n
    rw[aE]at aR;cases aR;rw[uy U]at aB;cases aB;exact⟨u,E,.inr ⟨.inl g,R,d,aa⟩⟩
   ·rw[j9 (oT n)]at aB
    obtain⟨J,K,V⟩:=T h q x aR aB B;refine⟨J,K,?_⟩;rcases V with V |⟨C,cS,e,ar⟩
    ·exact .inl V
    ·refine .inr ⟨C,cS,e,ar.sameBut c ?_⟩
     rintro rfl;exact n (KG P aR (a.f.inj _ _ _ e d ▸ aE))
  ·by_cases ae:cS=R
   ·subst ae;exact⟨_,aa⟩
   ·obtain⟨as,au⟩:=a.lj q cS e
    exact⟨as,au.sameBut c ae⟩
  ·obtain⟨e,y,ne,L,t⟩:=a.e5 N F
   refine⟨(c.2 N.1 ?_).trans e,y,ne,L,t⟩;intro V;rw[V,ac]at e;have dq:ab=N.2:=kb e;exact t p (by rw[<- dq];exact ap)
theorem KH {r:dM} {O:Nat}{X:Str}(a:a5 H aj l Q z)(b:H.bB.Nodup)(aE:H.bB[O]?=D X)(c:uT H.x.scope X)(E:cw v u)
  (Y:∀bc,a5 H aj (l.set O (D v)) Q bc->o () bc) (d:H.hO X=ag\/H.x.scope.names.lookup X=D .local:=by fail "1"):bT M r (storeName H.x X u) o k z:=
 TY a b aE c E (λbc e _=>Y bc e) d
theorem a5.TZ (a:a5 H aj l Q z)(c:bc.os=z.os)(u:iS (mS H.hN) ke Q ay z.heap bc.heap)(d:gA H.cu H.p ay bc.heap)(f:AllBare bc.gens)
  (g:∀b∈ke,(b∈H.aT\/H.jM.heap.objs.size<=b)/\b≠H.x.locals/\(∀X R,H.x.cells.lookup X=D R->R≠b)/\∀N∈H.aD++aj,N.1≠b) (h:0<bc.toks:=by fail "0"):a5 H aj l ay bc:=by
 obtain⟨aF,j,eh,k,b3⟩:=bc;have e:b3=z.os:=c;subst e;exact a.b0 (g':=j) (f:=k) (eh:=eh) u d f g h
end
abbrev cg:=bq->jl->ar->Prop
noncomputable abbrev ck:=List i5
abbrev cm:=aS->ar->Prop
abbrev b1:=ck->ar->cm->Prop
abbrev hQ:=ck->ar->(Bool->ar->Prop)->Prop
abbrev fY:=ck->ar->(List aS->ar->Prop)->Prop
structure sP where
 dx:ck->ar->Prop
 eT:cm
 gU:ck->ar->Prop:=λ_ _=>False
 gM:ck->ar->Prop:=λ_ _=>False
abbrev gf:=sP->ck->ar->Prop
def kG (H:bU)(aj:dD)(l:ck)(o:cm)(u:bq)(bc:bz):Prop:=∃v ay,a5 H aj l ay bc/\cw v u/\o v ay
def Ee (H:bU)(aj:dD)(l:ck)(o:Bool->ar->Prop)(b:Bool)(bc:bz):Prop:=∃ay,a5 H aj l ay bc/\o b ay
def T3 (H:bU)(aj:dD)(l:ck)(o:bp->ar->Prop)(ae:dt)(bc:bz):Prop:=∃a ay,a5 H aj l ay bc/\b9 a ae/\o a ay
def sQ (H:bU)(aj:dD)(b:sP)(w:Flow)(bc:bz):Prop:=
 match w with
 |.next=>∃a ay,a5 H aj a ay bc/\b.dx a ay|.brk=>∃a ay,a5 H aj a ay bc/\b.gU a ay|.cont=>∃a ay,a5 H aj a ay bc/\b.gM a ay|.ret u=>∃v a ay,a5 H aj a ay bc/\cw v u/\b.eT v ay
def bu (H:bU)(e:bV)(n:b1):Prop:=
 ∀(aj:dD) (z:bz) (l:ck) (Q:ar) (o:cm),a5 H aj l Q z->n l Q o->bT (model H.cu H.p) H.r (eval e H.x) (kG H aj l o) H.fm z
def hR (H:bU)(e:bV)(n:hQ):Prop:=
 ∀(aj:dD) (z:bz) (l:ck) (Q:ar) (o:Bool->ar->Prop),a5 H aj l Q z->n l Q o->bT (model H.cu H.p) H.r (isTrue e H.x (eval e H.x)) (Ee H aj l o) H.fm z
def oY (H:bU)(e:bV)(n:hQ):Prop:=
 ∀(a:Sem bq) (aj:dD) (z:bz) (l:ck) (Q:ar) (o:Bool->ar->Prop),a5 H aj l Q z->n l Q o->bT (model H.cu H.p) H.r (isTrue e H.x a) (Ee H aj l o) H.fm z
theorem oY.ll {H:bU}{e:bV}{n:hQ}(Y:oY H e n):hR H e n:=Y _
def gV (H:bU)(ax:fz)(n:fY):Prop:=
 ∀(pos:Pos) (aj:dD) (z:bz) (l:ck) (Q:ar) (o:bp->ar->Prop),a5 H aj l Q z->n l Q o->bT (model H.cu H.p) H.r (spliced (iu pos (eH ax H.x))) (T3 H aj l o) H.fm z
def jN (H:bU)(aX:er)(n:gf):Prop:=
 ∀(aj:dD) (z:bz) (l:ck) (Q:ar) (a:sP),a5 H aj l Q z->n a l Q->bT (model H.cu H.p) H.r (exec aX H.x) (sQ H aj a) H.fm z
def mT (H:bU)(aX:lb)(n:gf):Prop:=
 ∀(aj:dD) (z:bz) (l:ck) (Q:ar) (a:sP),a5 H aj l Q z->n a l Q->bT (model H.cu H.p) H.r (execs aX H.x) (sQ H aj a) H.fm z
theorem cv {n:Sem aP} {r:dM}(Y:bT M r n o k z)(a:∀S z,o S z->Q' S z):bT M r n Q' k z:=kx Y a λ_ _ X=>X
section
variable {H:bU}
def T4 (O:Nat):b1:=λl Q o=>∃v,l[O]?=D (D v)/\o v Q
def hy (v:aS):b1:=λ_ Q o=>o v Q
theorem T5 {O:Nat}{X:Str}(h:H.bB[O]?=D X)(j:uS H.x.scope X)(c:(X==("__debug__":Str))=aA:=by decide)(k:(X==("__classdict__":Str))=aA:=by decide):bu H (.Name X pos) (T4 O):=by
 intro aj z l Q o b Y;obtain⟨v,e,Y⟩:=Y;obtain⟨m,n,p⟩:=b.kF;obtain⟨u,E,s⟩:=p O X v h e j;have d:kG H aj l o u z:=⟨v,Q,b,E,Y⟩;rcases s with⟨a,q⟩|⟨a,R,f,g⟩
 ·exact wpAny_Name (wpAny_loadName_local b.f.hP a n q d) c
 ·rcases a with a |a
  ·exact wpAny_Name (wpAny_loadName_cell b.f.hP a f g d) c
  exact wpAny_Name (wpAny_loadName_free b.f.hP a f g d k) c
theorem KI {O h pos}:bu H (.Constant (.int O) h pos) (hy (.c O)):=λ_ _ _ Q _ a Y=>wpAny_Constant_int ⟨.c O,Q,a.fS _,⟨_,rfl⟩,Y⟩
theorem T6 {b h pos}:bu H (.Constant (.bool b) h pos) (hy (.aQ b)):=λ_ _ _ Q _ a Y=>Constant_bool ⟨.aQ b,Q,a,rfl,Y⟩
theorem T7 {h pos}:bu H (.Constant .none h pos) (hy .a9):=λ_ _ _ Q _ a Y=>Constant_none ⟨.a9,Q,a,rfl,Y⟩
theorem T8 {X h pos}:bu H (.Constant (.str X) h pos) (hy (.d X)):=λ_ _ _ Q _ a Y=>Calls.Constant_str ⟨.d X,Q,a.fS _,⟨_,rfl⟩,Y⟩
def i6 (H:bU)(X:Str):Prop:=H.x.kindOf X=D .globalImplicit
theorem w4 {aj:dD} {Q:ar}{X:Str}(a:a5 H aj l Q z)(b:i6 H X)(c:H.a6 X=D u)(Y:o u z)
  (d:(X==("__debug__":Str))=aA:=by decide):bT (model H.cu H.p) H.r (eval (.Name X pos) H.x) o k z:=
 Calls.Name_function_global a.f.hP b (Calls.loadGlobal_global (by rw[a.f.p6];exact a.es.p6.keeps a.gU) c Y) d
theorem sR {aj:dD} {Q:ar}{X:Str}(a:a5 H aj l Q z)(b:i6 H X)(c:H.a6 X=i)(d:oO X=D u)(Y:o u z)
  (e:X ≠ "__name__":=by decide) (f:(X==("__debug__":Str))=aA:=by decide):bT (model H.cu H.p) H.r (eval (.Name X pos) H.x) o k z:=by
 obtain⟨g,af,ai⟩:=a.es.uQ;exact Calls.Name_function_global a.f.hP b (Calls.loadGlobal_builtin (by rw[a.f.p6];exact a.es.p6.keeps a.gU) c (by rw[a.f.uQ];exact af.keeps a.gU) ((ai X e).trans d) Y) f
theorem T9 {X:Str}(b:i6 H X)(c:H.a6 X=D u)(E:cw v u)(d:(X==("__debug__":Str))=aA:=by decide):bu H (.Name X pos) (hy v):=
 λ_ _ _ Q _ a Y=>w4 a b c ⟨v,Q,a,E,Y⟩ d
theorem T_ {X:Str}(b:i6 H X)(c:H.a6 X=i)(d:oO X=D u)(E:cw v u)(e:X ≠ "__name__":=by decide)(f:(X==("__debug__":Str))=aA:=by decide):bu H (.Name X pos) (hy v):=
 λ_ _ _ Q _ a Y=>sR a b c d ⟨v,Q,a,E,Y⟩ e f
variable {S:bV}{pos:Pos}
variable {mU:hQ}
def Ua (n:hQ):hQ:=λl Q o=>n l Q λR aw=>o (!R) aw
theorem KJ (a:hR H S mU):oY H (.BoolOp .And [S] pos) mU:=by
 intro c aj z l Q o b Y;refine isTrue_and (cv (a aj z l Q o b Y) λR bf e=>?_)
 cases R with
 |true=>exact isTrue_and_nil e|false=>exact e
theorem Ub (a:hR H S mU):oY H (.BoolOp .Or [S] pos) mU:=by
 intro c aj z l Q o b Y;refine isTrue_or (cv (a aj z l Q o b Y) λR bf e=>?_)
 cases R with
 |false=>exact isTrue_or_nil e|true=>exact e
theorem Uc (a:hR H S mU):hR H (.UnaryOp .Not S pos) (Ua mU):=by
 intro aj z l Q o b Y;exact isTrue_not (a aj z l Q _ b Y)
theorem KL {w5}{n:b1}(Y:bu H S n):bu H (.BoolOp w5 [S] pos) n:=λaj z l Q o a hw=>BoolOp_one (Y aj z l Q o a hw)
end
def d1 (I:bK)(Q:ar)(S:ba)(j:bp):Prop:=
 eg Q S (.aM j) \/
  ∃(A:l8) (a:me) (y:Nat),I.lookup S=D A/\A.cls=.type "list" /\ A.dict=i/\A.data=.seq a y/\a.size<=cA/\b9 j a.toList
def fL (I:bK)(Q:ar)(S:ba)(j:bp):Prop:=
 eg Q S (.bb j) \/
  ∃(A:l8) (a:me) (y:Nat),I.lookup S=D A/\A.cls=.type "tuple" /\ A.data=.seq a y/\a.size<=cA/\b9 j a.toList
noncomputable def Ud:bq->i5
 |.none=>D .a9|.bool b=>D (.aQ b)|.int O _=>D (.c O)|.str X _=>D (.d X)|.bytes b _=>D (.Kz b)|.float b _=>D (.wY b)|.ref S=>D (.a0 S)|.type y=>D (.gd y)|_=>i
theorem cw.KN {X:aS}(E:cw X u):Ud u=D X:=by
 cases X with
 |a9=>cases (E);rfl|aQ _=>cases (E);rfl|a0 _=>cases (E);rfl|gd _=>cases (E);rfl |_=>obtain⟨n,rfl⟩:=E;rfl
theorem cw.inj {X q:aS}(E:cw X u)(V:cw q u):X=q:=kb (E.KN.symm.trans V.KN)
theorem b9.inj:∀{j aV:bp}{ae:dt},b9 j ae->b9 aV ae->j=aV
 |_,_,_,.nil,.nil=>rfl|_,_,_,.cons E n,.cons a b=>by rw[E.inj a,b9.inj n b]
section
variable {H:bU}{aj:dD}{l:ck}{Q:ar}{z:bz}{S:ba}{j aV:bp}
theorem d1.of {I:bK}(Y:Q S=D (.aM j)):d1 I Q S j:=.inl (.inl Y)
theorem fL.of {I:bK}(Y:Q S=D (.bb j)):fL I Q S j:=.inl (.inl Y)
theorem a5.d9 (b:a5 H aj l Q z)(Y:d1 H.I Q S j):∃a:dt,b9 j a/\PlainL z.heap S a.toArray/\j.length<=cA:=by
 rcases Y with Y |⟨A,a,y,c,d,f,g,h,E⟩
 ·obtain⟨G,a,y,E,e⟩:=Y.f b.cL
  exact⟨a,E,⟨_,y,e,rfl,rfl,rfl⟩,G⟩
 ·refine⟨a.toList,E,⟨A,y,b.g9 S A c,d,f,by simpa using g⟩,?_⟩
  have e:=E.dS;simp_all
theorem a5.gC (b:a5 H aj l Q z)(Y:fL H.I Q S j):∃a:dt,b9 j a/\IsTup z.heap S a.toArray/\j.length<=cA:=by
 rcases Y with Y |⟨A,a,y,c,d,f,g,E⟩
 ·obtain⟨G,a,E,N⟩:=Y.f b.cL
  exact⟨a,E,N,G⟩
 ·refine⟨a.toList,E,⟨A,b.g9 S A c,d,y,by simpa using f⟩,?_⟩
  have e:=E.dS;simp only[zP]at e;lia
theorem a5.sS (a:a5 H aj l Q z)(Y:d1 H.I Q S j)(aF:d1 H.I Q S aV):j=aV:=by
 obtain⟨f,E,⟨A,y,e,_,_,t⟩,_⟩:=a.d9 Y;obtain⟨g,c,⟨b3,h,b,_,_,eh⟩,_⟩:=a.d9 aF;rw[e]at b;cases b;rw[t]at eh;injection eh with d _;have  := by simpa using congrArg DY d
 subst this;exact E.inj c
theorem a5.Ef (a:a5 H aj l Q z)(Y:fL H.I Q S j)(aF:fL H.I Q S aV):j=aV:=by
 obtain⟨f,E,⟨A,e,_,y,t⟩,_⟩:=a.gC Y;obtain⟨g,c,⟨b3,b,_,h,eh⟩,_⟩:=a.gC aF;rw[e]at b;cases b;rw[t]at eh;injection eh with d _;have  := by simpa using congrArg DY d
 subst this;exact E.inj c
end
noncomputable abbrev bU.oZ (H:bU)(k:bq->bz->Prop):bU:={H with fm:=k}
abbrev bU.w6 (H:bU):bU:=H.oZ λ_ _=>False
theorem bU.dZ.oZ {H:bU}(a:H.dZ)(k:bq->bz->Prop):(H.oZ k).dZ:=
 ⟨a.es,a.hP,a.p6,a.uQ,a.above,a.inj,a.zW,a.w2,a.gB,a.frames,a.zX,a.D9,a.c6,a.p7,a.sN,a.zY,a.nB,a.sO,a.dr⟩
theorem bU.dZ.uU {H:bU}(a:(H.oZ k).dZ):H.dZ:=
 ⟨a.es,a.hP,a.p6,a.uQ,a.above,a.inj,a.zW,a.w2,a.gB,a.frames,a.zX,a.D9,a.c6,a.p7,a.sN,a.zY,a.nB,a.sO,a.dr⟩
section
variable {H:bU}{aj:dD}{l:ck}{Q:ar}{z:bz}{k:bq->bz->Prop}
theorem a5.oZ (a:a5 H aj l Q z)(k:bq->bz->Prop):a5 (H.oZ k) aj l Q z:=⟨a.f.oZ k,a.os,a.lN,a.bj,a.kF,a.lj,a.cz,a.oX,a.e5,a.cL,a.cn,a.tk⟩
theorem a5.uU (a:a5 (H.oZ k) aj l Q z):a5 H aj l Q z:=⟨a.f.uU,a.os,a.lN,a.bj,a.kF,a.lj,a.cz,a.oX,a.e5,a.cL,a.cn,a.tk⟩
theorem sQ.uU {c:sP}{w:Flow}(Y:sQ (H.oZ k) aj c w bc):sQ H aj c w bc:=by
 cases w with
 |ret u=>obtain⟨v,a,ay,b,E,V⟩:=Y;exact⟨v,a,ay,b.uU,E,V⟩|_=>obtain⟨a,ay,b,V⟩:=Y;exact⟨a,ay,b.uU,V⟩
end
section
variable {H:bU}{aX:er}{d2:lb}{n u:gf}{e:bV}{eC:b1}{pos:Pos}
def uV:gf:=λa l Q=>a.dx l Q
def sT (n u:gf):gf:=λa l Q=>n {a with dx:=u a} l Q
theorem Ue:mT H [] uV:=λ_ _ l Q _ a Y=>wpAny_execs_nil ⟨l,Q,a,Y⟩
theorem Ug (af:jN H aX n)(ai:mT H d2 u):mT H (aX::d2) (sT n u):=by
 intro aj z l Q a b Y;refine wpAny_execs_cons (cv (af aj z l Q _ b Y) λw bf V=>?_)
 cases w with
 |next=>
  obtain⟨c,ay,d,V⟩:=V;exact ai aj bf c ay a d V
 |_=>exact V
def Eg:gf:=λa l Q=>a.gM l Q
theorem Uh:jN H (.Pass pos) uV:=λ_ _ l Q _ a Y=>wpAny_Pass ⟨l,Q,a,Y⟩
theorem Ui:jN H (.Continue pos) Eg:=λ_ _ l Q _ a Y=>wpAny_Continue ⟨l,Q,a,Y⟩
theorem a5.KO {aj:dD} {Q:ar}(a:a5 H aj l Q z):interactive H.x=aA:=by simp[interactive,a.f.hP]
theorem Uj {X h pos uW}:jN H (.Expr (.Constant (.str X) h pos) uW) uV:=λ_ z l Q _ a Y=>wpAny_Expr (Calls.Constant_str (show sQ H _ _ .next {z with toks:=z.toks+1}from⟨l,Q,a.fS _,Y⟩)) a.KO
def Eh (eC:b1):gf:=λa l Q=>eC l Q λ_ aw=>a.dx l aw
theorem Uk (b:bu H e eC)(c:swapsWith e i pos.line H.x=pure aA:=by rfl):jN H (.Expr e pos) (Eh eC):=by
 intro aj z l Q g a Y;exact wpAny_Expr_any (cv (b aj z l Q _ a Y) λv bf ⟨X,aw,d,bI,f⟩=>⟨l,aw,d,f⟩) a.KO c
def Ei (eC:b1):gf:=λa l Q=>eC l Q a.eT
theorem Ul (a:bu H e eC):jN H (.Return (D e) pos) (Ei eC):=by
 intro aj z l Q f b Y;exact wpAny_Return_some (cv (a aj z l Q _ b Y) λv bf ⟨X,aw,c,bI,d⟩=>⟨X,l,aw,c,bI,d⟩)
def Ej:gf:=λa _ Q=>a.eT .a9 Q
theorem Um:jN H (.Return i pos) Ej:=λ_ _ l Q _ a Y=>wpAny_Return_none ⟨.a9,l,Q,a,rfl,Y⟩
def KP:gf:=λ_ _ _=>False
theorem Un:jN H aX KP:=λ_ _ _ _ _ _ Y=>Y.elim
end
abbrev i7:=aS->ck->ar->(ck->ar->Prop)->Prop
abbrev kH:=bp->ck->ar->(ck->ar->Prop)->Prop
def kf (H:bU)(b:bV)(n:i7):Prop:=
 ∀(aj:dD) (z:bz) (l:ck) (Q:ar) (v:aS) (u:bq) (o:ck->ar->Prop),a5 H aj l Q z->cw v u->n v l Q o ->
  bT (model H.cu H.p) H.r (assign b H.x u) (λ_ bc=>∃a ay,a5 H aj a ay bc/\o a ay) H.fm z
def n8 (H:bU)(kI:fz)(n:kH):Prop:=
 ∀(aj:dD) (z:bz) (l:ck) (Q:ar) (a:bp) (ae:dt) (o:ck->ar->Prop),a5 H aj l Q z->b9 a ae->n a l Q o ->
  bT (model H.cu H.p) H.r (assignInOrder ((j8 kI H.x).map (·.2)) ae) (λ_ bc=>∃b ay,a5 H aj b ay bc/\o b ay) H.fm z
abbrev uX:=aS->aS->aS->ar->(ar->Prop)->Prop
def z2 (H:bU)(n:uX):Prop:=
 ∀(aj:dD) (z:bz) (l:ck) (Q:ar) (A O v:aS) (a b u:bq) (o:ar->Prop),a5 H aj l Q z->cw A a->cw O b->cw v u->n A O v Q o ->
  bT (model H.cu H.p) H.r (setItem a b u) (λ_ bc=>∃ay,a5 H aj l ay bc/\o ay) H.fm z
section
variable {H:bU}{pos:Pos}
def o1 (O:Nat):i7:=λv l Q o=>o (l.set O (D v)) Q
theorem Uo {O:Nat}{X:Str}(a:H.bB.Nodup)(aE:H.bB[O]?=D X)(b:uT H.x.scope X)(c:H.hO X=ag\/H.x.scope.names.lookup X=D .local:=by fail "1"):kf H (.Name X pos) (o1 O):=by
 intro aj z l Q v u o d E Y;exact wpAny_assign_Name (KH d a aE b E (λbc e=>⟨_,Q,e,Y⟩) c)
def Up:kH:=λa l Q o=>a=[]/\o l Q
def Uq (n:i7)(u:kH):kH:=λa l Q o=>∃v E,a=v::E/\n v l Q λb ay=>u E b ay o
theorem Ur:n8 H [] Up:=by
 intro aj z l Q a ae o b E Y;obtain⟨e,Y⟩:=Y;exact assignInOrder_nil ⟨l,Q,b,Y⟩
theorem Us {e:bV} {n:i7}(af:kf H e n)(ai:n8 H ax u)
  (b:(j8 (e::ax) H.x).map (·.2)=assign e H.x::(j8 ax H.x).map (·.2):=by rfl):n8 H (e::ax) (Uq n u):=by
 intro aj z l Q a ae o c E Y;obtain⟨v,h,aR,Y⟩:=Y;subst aR;cases E with
 |cons E kJ=>
  rw[b];exact assignInOrder_cons (cv (af aj z l Q _ _ _ c E Y) λ_ bf ⟨d,aw,f,g⟩=>ai aj bf d aw _ _ o f kJ g)
def Ut (I:bK)(y:Nat)(n:kH):i7:=λv l Q o=>∃S j,v=.a0 S/\fL I Q S j/\j.length=y/\n j l Q o
theorem Uu {C:Nat}{n:kH}{y:Nat}(d:H.fD=ag)(Y:n8 H ax n)
  (f:(j8 ax H.x).length=y:=by rfl) (g:(j8 ax H.x).findIdx? (·.1)=i:=by rfl):kf H (.Tuple ax C pos) (Ut H.I y n):=by
 intro aj z l Q v u o a E hw;obtain⟨S,j,aR,h,k,hw⟩:=hw;subst aR;cases E;obtain⟨q,c,m,s⟩:=a.gC h;exact assign_Tuple_tuple (a.f.gB d) m (by simp[f,<- k,c.dS]) g λaF p=>Y aj _ l Q j _ o (a.jm  λb A e=>p b A (gz (e1 e)) e) (by simpa using c) hw
def Ek (to e6:b1)(n:uX):i7:=λv l Q o=>to l Q λA aw=>e6 l aw λO a7=>n A O v a7 λa=>o l a
theorem Uv {A O:bV} {n:uX}(c:bu H A to)(aE:bu H O e6)(d:z2 H n)
  (e:∀v,assign (.Subscript A O pos) H.x v=(do
   let a <- holding [v] (eval A H.x)
   let b <- holding [v,a] (eval O H.x)
   standAt pos
   holding [v,a,b] (setItem a b v)
   release [v,a,b] []):=by intro _;rfl):kf H (.Subscript A O pos) (Ek to e6 n):=by
 intro aj z l Q v u o f E Y;rw[e];exact bR (wpAny_holding (cv (c aj z l Q _ f Y) λa bf ⟨X,aw,g,bI,h⟩=>bR (wpAny_holding (cv (aE aj bf l aw _ g h) λb bo ⟨q,a7,j,bW,k⟩=>bR (wpAny_standAt (bR (wpAny_holding (cv (d aj bo l a7 X q v a b u _ j bI bW E k) λ_ t ⟨m,p,s⟩=>wpAny_release ⟨l,m,p,s⟩))))))))
def o2 (eC:b1)(g:i7):gf:=λa l Q=>eC l Q λX aw=>g X l aw a.dx
theorem KQ {bZ e:bV} {g:i7}(a:bu H e eC)(b:kf H bZ g)(c:swapsWithSole [bZ] e pos.line H.x=pure aA:=by rfl)(hw:swappedStores [bZ] e H.x=pure i:=by rfl)
  (af:(j8 [bZ] H.x).map (·.2)=[assign bZ H.x]:=by rfl):jN H (.Assign [bZ] e pos) (o2 eC g):=by
 intro aj z l Q k d Y;refine wpAny_Assign_stores (cv (a aj z l Q _ d Y) λv bf f=>?_) c hw
 obtain⟨X,aw,h,bI,j⟩:=f;rw[af];exact cv (b aj bf l aw X v _ h bI j) λ_ bo V=>V
theorem KR {O:Nat}{X:Str}{e:bV}(a:H.bB.Nodup)(aE:H.bB[O]?=D X)(b:uT H.x.scope X)(c:bu H e eC)(d:swapsWith e (D (.Name X uW)) pos.line H.x=pure aA:=by rfl)(f:H.hO X=ag\/H.x.scope.names.lookup X=D .local:=by fail "1"):
  jN H (.Assign [.Name X uW] e pos) (o2 eC (o1 O)):=by
 intro aj z l Q n g Y;refine wpAny_Assign_Name (cv (c aj z l Q _ g Y) λv bf h=>?_) d
 obtain⟨q,aw,j,bI,k⟩:=h;exact KH j a aE b bI (λbo m=>⟨_,aw,m,k⟩) f
def El (R:hQ)(dr:gf):gf:=λa l Q=>∃c:Nat->ck->ar->Prop,(∃m,c m l Q)/\∀m l Q,c m l Q ->
 R l Q λb aw=>if b=ag then∃bB:ck->ar->Prop,(∀d ay,bB d ay->∃e,e<m/\c e d ay)/\dr {a with dx:=bB,gM:=bB,gU:=a.dx} l aw else a.dx l aw
theorem Uw {R:bV} {dr:gf}(e:PassesOwn (model H.cu H.p) H.r H.x H.fm)(k:hR H R i8)(m:mT H body dr):jN H (.While R body [] pos) (El i8 dr):=by
 intro aj z l Q I n Y;obtain⟨o,⟨p,q⟩,s⟩:=Y;refine wpAny_While (codeAny_whileLoop (λy bc=>∃f ay,a5 H aj f ay bc/\o y f ay) ?_ p ⟨l,Q,n,q⟩)
 rintro y bf ⟨a,aw,t,u⟩;refine sb e (cv (k aj bf a aw _ t (s y a aw u)) λb bo x=>?_)
 obtain⟨a7,g,c⟩:=x;cases b with
 |true=>
  obtain⟨bB,A,c⟩:=c;refine sb e (cv (m aj bo a a7 _ g c) λw J d=>?_)
  cases w with
  |brk=>exact d|ret v=>exact d |_=>
   obtain⟨h,j,B,C⟩:=d;obtain⟨E,F,G⟩:=A h j C;exact⟨E,F,h,j,B,G⟩
 |false=>
  exact wpAny_execs_nil ⟨a,a7,g,c⟩
end
structure kg where
 eU:Nat->ar->Prop
 z3:Nat->ar->aS->ar->Prop
 p8:Nat->ar->Prop
def kK (H:bU)(aj:dD)(Q:ar)(b:ba):Prop:=
 Q b=i/\b≠H.x.locals/\b∉H.au/\(b∈H.aT\/H.jM.heap.objs.size<=b)/\(∀X R,H.x.cells.lookup X=D R->R≠b)/\∀N∈H.aD++aj,N.1≠b
theorem a5.sU {H:bU}{aj:dD} {Q ay:ar}(a:a5 H aj l Q z)(c:z.heap.objs.size<=b)(d:ay b=i):kK H aj ay b:=by
 refine⟨d,su (iq a.iy c),a.TX c,.inr (ka a.z0 c),λX R e G=>?_,λN f G=>?_⟩
 ·obtain⟨v,V⟩:=a.lj X R e
  exact absurd (iq V.lt (by rwa[G])) (sr _)
 exact absurd (iq (e1 (a.e5 N f).1) (by rwa[G])) (sr _)
structure p9 (P:dk)(p:cN)(I:bK)(bZ:bV)(e:kg)(c:n4)(d:ba)(a:Nat->Heap->Prop):Prop where
 mem:d∈c
 dV:∀O Y,a O Y->∀b∈c,∃A,Y.get? b=D A/\∀v,A.data≠.cell v
 fb:∀O Y aF,a O Y->(∀b∈c,∀A,Y.get? b=D A->aF.get? b=D A)->a O aF
 item:∀(H:bU),H.cu=P->H.p=p->H.I=I->H.fD=ag->∀(O:Nat) (aj:dD) (z:bz) (l:ck) (Q:ar) (k:bq->bz->Prop),a5 H aj l Q z->(∀b∈c,kK H aj Q b)->a O z.heap->e.eU O Q ->
  bT (model P p) H.r (pyNext (.ref d)) (λE bf=>∃u,E=D u /\
   bT (model P p) H.r (letOwnedTupleGo bZ (.ref d) u) (λ_ bo=>∃X ay,a5 H aj l ay bo/\cw X u/\e.z3 O Q X ay/\a (O+1) bo.heap/\∀b∈c,ay b=i) k bf) k z
 done:∀(H:bU),H.cu=P->H.p=p->H.I=I->H.fD=ag->∀(O:Nat) (aj:dD) (z:bz) (l:ck) (Q:ar) (k:bq->bz->Prop),a5 H aj l Q z->(∀b∈c,kK H aj Q b)->a O z.heap->e.p8 O Q ->
  bT (model P p) H.r (pyNext (.ref d)) (λE bf=>E=i/\a5 H aj l Q bf) k z
 sV:∀(r:dM) (O:Nat) (z:bz) (o:bq->bz->Prop) (k:bq->bz->Prop),a O z.heap->o (.ref d) z->bT (model P p) r (pyIter (.ref d)) o k z
abbrev p_:=ck->ar->(kg->ar->Prop)->Prop
def KS (H:bU)(aj:dD)(l:ck)(bZ:bV)(a3:kg->ar->Prop)(f:bq)(bo:bz):Prop:=
 ∃(a:ba) (c:n4) (d:Nat->Heap->Prop) (e:kg) (ay:ar),f=.ref a/\a5 H aj l ay bo/\p9 H.cu H.p H.I bZ e c a d/\d 0 bo.heap/\(∀b∈c,kK H aj ay b)/\a3 e ay
def o3 (H:bU)(bZ iter:bV)(a:p_):Prop:=
 ∀(aj:dD) (z:bz) (l:ck) (Q:ar) (a3:kg->ar->Prop),a5 H aj l Q z->a l Q a3 ->
  bT (model H.cu H.p) H.r (eval iter H.x) (λv bf=>bT (model H.cu H.p) H.r (pyIter v) (KS H aj l bZ a3) H.fm bf) H.fm z
theorem z4 {r:dM} {y:String}(c:z.heap.get? it=D A)(d:A.cls=.type y)(e:A.data=.fields a)
  (f:["enumerate", "zip", "dict_itemiterator", "dict_reverseitemiterator", "odict_iterator", "itertools.zip_longest", "itertools.pairwise"].contains y=aA) (b:o () z):bT M r (letOwnedTupleGo bZ (.ref it) u) o k z:=by
 unfold letOwnedTupleGo
 cases bZ<;>first
  |exact dQ b
  | (cases u<;>first
    |exact dQ b
    | (refine bR (wpAny_load c ?_)
       rw[d,e];show bT M r (if(["enumerate", "zip", "dict_itemiterator", "dict_reverseitemiterator", "odict_iterator", "itertools.zip_longest", "itertools.pairwise"].contains y && a[0]?==D (rawInt _))=ag then _ else _) o k z
       rw[if_neg (by intro Y;rw[f,JJ]at Y;cases Y)]
       exact dQ b))
def Em (I:bK)(S:ba):kg:=
 ⟨λO Q=>∃j X,d1 I Q S j/\j[O]?=D X,λO Q X ay=>ay=Q/\∀j,d1 I Q S j->j[O]?=D X,λO Q=>∃j,d1 I Q S j/\j.length<=O⟩
def En (I:bK)(S:ba):kg:=
 ⟨λO Q=>∃j X,fL I Q S j/\j[O]?=D X,λO Q X ay=>ay=Q/\∀j,fL I Q S j->j[O]?=D X,λO Q=>∃j,fL I Q S j/\j.length<=O⟩
noncomputable def o4 (a8:Int)(y:Nat):kg:=⟨λO _=>O<y,λO Q X ay=>ay=Q/\X=.c (a8+O),λO _=>y<=O⟩
theorem Ux {P:dk}{p:cN}{I:bK}{bZ:bV}(S a:ba):p9 P p I bZ (Em I S) [a] a (λO Y=>Y.IsListIter a S O) where
 mem:=by simp
 dV:=λO Y aX b c=>by
  have e:b=a:=by simpa using c
  subst e;obtain⟨A,e,R,t⟩:=aX;exact⟨A,e,λv G=>by rw[t]at G;cases G⟩
 fb:=λO Y aF aX C=>aX.at λA e=>C a (by simp) A e
 item:=by
  intro H h hw m J O aj z l Q k d f aX n;subst h hw m;obtain⟨j,X,g,o⟩:=n;obtain⟨L,q,N,M⟩:=d.d9 g;obtain⟨u,T,U⟩:=q.g8 o;obtain⟨w,y,V,B,E,F⟩:=f a (by simp)
  refine wpAny_pyNext_list_item aX N.isList (x:=u) (by simpa using T) λaF K W=>?_
  have Z:a5 H aj l Q {z with heap:=aF}:=d.n7 (d:=z.toks) (λb A c e=>(W.2 b c).trans e) w y B E F
  obtain⟨A,e,R,t⟩:=id K;exact⟨u,rfl,z4 (z:={z with heap:=aF}) e R t (by decide) ⟨X,Q,Z,U,⟨rfl,λaV aa=>by rw[d.sS aa g];exact o⟩,K,λb c=>(f b c).1⟩⟩
 done:=by
  intro H h hw m J O aj z l Q k d f aX n;subst h hw m;obtain⟨j,g,o⟩:=n;obtain⟨L,q,N,M⟩:=d.d9 g;obtain⟨w,y,V,B,E,F⟩:=f a (by simp)
  have ac:=q.dS;exact wpAny_pyNext_list_end (d.f.gB J) aX N.isList (by simp;lia) λaF ab=>⟨rfl,d.n7 (d:=z.toks) (λb A c e=>ab b A c e) w y B E F⟩
 sV:=λ_ _ _ _ _ aX Y=>wpAny_pyIter_listiter aX Y
theorem Uy {P:dk}{p:cN}{I:bK}{bZ:bV}(S a:ba):p9 P p I bZ (En I S) [a] a (λO Y=>Y.IsTupleIter a S O) where
 mem:=by simp
 dV:=λO Y aX b c=>by
  have e:b=a:=by simpa using c
  subst e;obtain⟨A,e,R,t⟩:=aX;exact⟨A,e,λv G=>by rw[t]at G;cases G⟩
 fb:=λO Y aF aX C=>aX.at λA e=>C a (by simp) A e
 item:=by
  intro H h hw m K O aj z l Q k d f aX n;subst h hw m;obtain⟨j,X,g,o⟩:=n;obtain⟨q,w,N,M⟩:=d.gC g;obtain⟨u,T,U⟩:=w.g8 o;obtain⟨y,B,V,E,F,J⟩:=f a (by simp)
  refine wpAny_pyNext_tuple_item aX (show z.heap.IsTuple S q.toArray from N) (x:=u) (by simpa using T) λaF L W=>?_
  have Z:a5 H aj l Q {z with heap:=aF}:=d.n7 (d:=z.toks) (λb A c e=>(W.2 b c).trans e) y B E F J
  obtain⟨A,e,R,t⟩:=id L;exact⟨u,rfl,z4 (z:={z with heap:=aF}) e R t (by decide) ⟨X,Q,Z,U,⟨rfl,λaV aa=>by rw[d.Ef aa g];exact o⟩,L,λb c=>(f b c).1⟩⟩
 done:=by
  intro H h hw m K O aj z l Q k d f aX n;subst h hw m;obtain⟨j,g,o⟩:=n;obtain⟨q,w,N,M⟩:=d.gC g;obtain⟨y,B,V,E,F,J⟩:=f a (by simp)
  have ac:=w.dS;exact wpAny_pyNext_tuple_end (d.f.gB K) aX (show z.heap.IsTuple S q.toArray from N) (by simp;lia) λaF ab=>⟨rfl,d.n7 (d:=z.toks) (λb A c e=>ab b A c e) y B E F J⟩
 sV:=λ_ _ _ _ _ aX Y=>wpAny_pyIter_tupleiter aX Y
theorem Uz {P:dk}{p:cN}{I:bK}{bZ:bV}(a:ba)(a8:Int)(y:Nat):p9 P p I bZ (o4 a8 y) [a] a (λO Y=>IsRangeIter Y a (a8+(O:Nat)*1) ((y:Int)-(O:Nat)) 1) where
 mem:=by simp
 dV:=λO Y aX b d=>by simp_all
 fb:=λO Y aF aX C=>C a (by simp) _ aX
 item:=by
  intro H g hw h j O aj z l Q k c f aX m;subst g hw h;obtain⟨o,q,E,t,u,x⟩:=f a (by simp)
  have F:=Walks.range (prog:=H.cu) (w:=H.p) (c.f.gB j) a a8 1 y;refine kE (F.item O z _ _ m aX λv aF G J B iz K=>?_)
  obtain⟨n,rfl⟩:=J;refine⟨_,rfl,z4 (z:={z with heap:=aF,toks:=G}) (y:="range_iterator") B rfl rfl (by decide) ⟨.c (a8+O),Q,(c.n7 (λb A d e=>iz b A (by simpa using d) e) o q t u x (iq c.tk K)),⟨n,?_⟩,⟨rfl,rfl⟩,B,λb d=>(f b d).1⟩⟩
  rw[Int.mul_one]
 done:=by
  intro H g hw h j O aj z l Q k c f aX m;subst g hw h;obtain⟨o,q,E,t,u,x⟩:=f a (by simp)
  exact wpAny_pyNext_range_end (c.f.gB j) aX (by have:y<=O:=m;lia) λaF L=>⟨rfl,c.n7 (d:=z.toks) (L) o q t u x⟩
 sV:=λ_ _ _ _ _ aX Y=>wpAny_pyIter_rangeiter aX Y
section
variable {H:bU}{bZ:bV}
theorem KU {aj:dD}{l:ck}{Q:ar}{z:bz}{a3:kg->ar->Prop}{k:bq->bz->Prop}{a8 aE:Int}{n u v:Tok}{a:Nat}(d:a5 H aj l Q z)(af : -(2 ^ 62)<=a8)(ai:a8<2 ^ 62)(bw : -(2 ^ 62)<=aE)(f:aE<2 ^ 62)
  (V:a3 (o4 a8 (aE-a8).toNat) Q) (g:0<a:=by fail "0"):bT (model H.cu H.p) H.r (pyIter (.ref z.heap.objs.size)) (KS H aj l bZ a3) k {z with heap:=z.heap.push {cls:=.type "range",data:=.fields #[.int a8 n,.int aE u,.int 1 v]},toks:=a}:=by
 refine wpAny_pyIter_range (IsRange.new ..) (small_one af ai bw f) ?_;have c:a5 H aj l Q {z with heap:=z.heap.push {cls:=.type "range",data:=.fields #[.int a8 n,.int aE u,.int 1 v]},toks:=a}:=d.jm (λb A e=>eQ _ e) g
 refine⟨(z.heap.push {cls:=.type "range",data:=.fields #[.int a8 n,.int aE u,.int 1 v]}).objs.size,[(z.heap.push {cls:=.type "range",data:=.fields #[.int a8 n,.int aE u,.int 1 v]}).objs.size],_,_,Q,rfl,
  c.jm (a:=a) λb A e=>eQ _ e,Uz _ a8 (aE-a8).toNat,?_,λb h=>?_,V⟩
 ·have aR:a8+((0:Nat):Int)*1=a8:=by simp
  have aB:(((aE-a8).toNat:Nat):Int)-((0:Nat):Int)=Kt a8 aE 1:=by rw[rangeSize_one];split<;>omega
  show IsRangeIter _ _ (a8+((0:Nat):Int)*1) ((((aE-a8).toNat:Nat):Int)-((0:Nat):Int)) 1
  rw[aR,aB];exact gK _ rfl
 ·have e:b=(z.heap.push {cls:=.type "range",data:=.fields #[.int a8 n,.int aE u,.int 1 v]}).objs.size:=by simpa using h
  subst e;exact c.sU (cZ _) (c.cL.fK (cZ _))
def Eo (f:p_)(g:i7)(dr:gf):gf:=λa l Q=>f l Q λb aw=>∃c:Nat->Nat->ck->ar->Prop,(∃m,c 0 m l aw)/\∀O m l Q,c O m l Q ->
 (b.p8 O Q/\a.dx l Q)\/(b.eU O Q/\∃bB:ck->ar->Prop,(∀d ay,bB d ay->∃e,e<m/\c (O+1) e d ay)/\∀X ay,b.z3 O Q X ay->g X l ay λh a7=>dr {a with dx:=bB,gM:=bB,gU:=a.dx} h a7)
def w7 (a:n4)(Y:Heap):dD:=a.filterMap λb=>(Y.get? b).map λA=>(b,A)
theorem z5 {Y:Heap}(a:b∈fp)(e:Y.get? b=D A):(b,A)∈w7 fp Y:=Jr.mpr ⟨b,a,by rw[e];rfl⟩
theorem UA {Y:Heap}(a:N∈w7 fp Y):N.1∈fp/\Y.get? N.1=D N.2:=by
 obtain⟨b,d,e⟩:=Jr.mp a;cases V:Y.get? b with
 |none=>simp_all|some A=>
  rw[V]at e;have c  := kb e;subst c;trivial
theorem a5.KV {aj:dD} {Q:ar}(a:a5 H aj l Q z)(d:∀b∈fp,kK H aj Q b)(f:∀b∈fp,∃A,z.heap.get? b=D A/\∀v,A.data≠.cell v):a5 H (aj++w7 fp z.heap) l Q z:=
 a.Ed λN g=>(hu.mp g).elim (λG=>a.e5 N (kA _ G)) λG=>by
  obtain⟨c,e⟩:=UA G;obtain⟨h,j,k,_⟩:=d _ c;obtain⟨A,m,t⟩:=f _ c;simp_all
theorem a5.uY {aj b:dD} {Q:ar}(a:a5 H (aj++b) l Q z):a5 H aj l Q z:=a.Ed λN c=>a.e5 N (kA _ (zh _ c))
theorem UB {g:i7}{dr:gf}(k:PassesOwn (model H.cu H.p) H.r H.x H.fm)(G:H.fD=ag)(aE:o3 H bZ iter wi)(V:kf H bZ g)(a:mT H body dr)
  (W:∀X,foldedSetIterable iter H.x X=pure X:=by intro _;rfl):jN H (.For bZ iter body [] pos) (Eo wi g dr):=by
 intro aj z l Q aP Z Y;refine wpAny_For (cv (aE aj z l Q _ Z Y) λv bf af=>cv af λaQ bo ai=>?_) W
 obtain⟨aR,n,I,aT,a7,e,aa,T,ab,J,K,⟨ac,ae⟩,ah⟩:=ai;subst e;have x:∀{ay:ar},(∀b∈n,ay b=i)->∀b∈n,kK H aj ay b:=λak b a=>⟨ak b a,(J b a).2⟩
 refine codeAny_forLoop_any (λy bc=>∃O o ay,a5 H aj o ay bc/\I O bc.heap/\(∀b∈n,ay b=i)/\K O y o ay) ?_ ac ⟨0,l,a7,aa,ab,λb a=>(J b a).1,ae⟩
 rintro y L ⟨O,p,s,M,N,P,al⟩;rcases ah O y p s al with⟨am,an⟩|⟨ao,bB,ap,as⟩
 ·refine sb k (cv (T.done H rfl rfl rfl G O aj L p s H.fm M (x P) N am) λE au j=>?_)
  obtain⟨B,av⟩:=j;subst B;exact wpAny_execs_nil ⟨p,s,av,an⟩
 ·refine sb k (cv (T.item H rfl rfl rfl G O aj L p s H.fm M (x P) N ao) λE au j=>?_)
  obtain⟨u,B,aw⟩:=j;subst B;refine sb k (cv aw λ_ R j=>?_)
  obtain⟨X,S,ax,az,aB,C,aC⟩:=j;have aD:=ax.KV (x aC) (T.dV _ _ C);refine sb k (cv (V _ R p S X u _ aD az (as X S aB)) λ_ aF j=>?_)
  obtain⟨aG,aH,aI,aJ⟩:=j;refine sb k (cv (a _ aF aG aH _ aI aJ) λw F h=>?_)
  have U:∀{c:ck}{d:ar},a5 H (aj++w7 n R.heap) c d F->bB c d->∃m,m<y/\∃O o ay,a5 H aj o ay F/\I O F.heap/\(∀b∈n,ay b=i)/\K O m o ay:=λ{c d} f q=>by
   obtain⟨aK,aL,aM⟩:=ap c d q;refine⟨aK,aL,O+1,c,d,f.uY,T.fb _ _ _ C λb a A e=>(f.e5 (b,A) (kA _ (kA _ (z5 a e)))).1,λb a=>?_,aM⟩
   obtain⟨A,e,t⟩:=T.dV _ _ C b a;exact(f.e5 (b,A) (kA _ (kA _ (z5 a e)))).2.1
  cases w with
  |next=>obtain⟨c,d,f,q⟩:=h;exact U f q|cont=>obtain⟨c,d,f,q⟩:=h;exact U f q|brk=>obtain⟨c,d,f,h⟩:=h;exact⟨c,d,f.uY,h⟩|ret v=>obtain⟨x7,c,d,f,aO,h⟩:=h;exact⟨x7,c,d,f.uY,aO,h⟩
end
abbrev ez:=aS->aS->ar->cm->Prop
def dF (H:bU)(w:sI)(E:ez):Prop:=
 ∀(aj:dD) (z:bz) (l:ck) (Q:ar) (X q:aS) (v u:bq) (o:cm),a5 H aj l Q z->cw X v->cw q u->E X q Q o ->
  bT (model H.cu H.p) H.r (w v u) (kG H aj l o) H.fm z
def KW (H:bU)(w:bq->Sem bq)(E:aS->ar->cm->Prop):Prop:=
 ∀(aj:dD) (z:bz) (l:ck) (Q:ar) (X:aS) (v:bq) (o:cm),a5 H aj l Q z->cw X v->E X Q o ->
  bT (model H.cu H.p) H.r (w v) (kG H aj l o) H.fm z
def i9 (H:bU)(w:bq)(E:bp->ar->cm->Prop):Prop:=
 ∀(aj:dD) (z:bz) (l:ck) (Q:ar) (j:bp) (ae:dt) (o:cm),a5 H aj l Q z->b9 j ae->E j Q o ->
  bT (model H.cu H.p) H.r (call w ae) (kG H aj l o) H.fm z
def n9 (E:ez)(bG dr:b1):b1:=λl Q o=>bG l Q λX aw=>dr l aw λq a7=>E X q a7 o
def Ep (E:aS->ar->cm->Prop)(bG:b1):b1:=λl Q o=>bG l Q λX aw=>E X aw o
def Er (aO:Int->Int->Prop)(g:q8):ez:=λX q Q o=>∃O h,X=.c O/\q=.c h/\aO O h/\o (g O h) Q
def qa (g:q8):ez:=λX q Q o=>∃O h,X=.c O/\q=.c h/\o (g O h) Q
def KX (g:Int->aS):aS->ar->cm->Prop:=λX Q o=>∃O,X=.c O/\o (g O) Q
section
variable {H:bU}{S b:bV}{bG dr:b1}{pos:Pos}
theorem z6 (a:bu H S bG)(c:bu H b dr){aj:dD} {Q:ar}{a3:aS->aS->ar->Prop}(d:a5 H aj l Q z)
  (Y:bG l Q λX aw=>dr l aw λq a7=>a3 X q a7) {w:sI}
  (e:∀v u bo X q a7,a5 H aj l a7 bo->cw X v->cw q u->a3 X q a7->bT (model H.cu H.p) H.r (w v u) o H.fm bo):
  bT (model H.cu H.p) H.r (eval S H.x) (λv f=>bT (model H.cu H.p) H.r (eval b H.x) (λu g=>bT (model H.cu H.p) H.r (w v u) o H.fm g) H.fm f) H.fm z:=cv (a aj z l Q _ d Y) λv bf ⟨X,aw,h,bI,j⟩=>cv (c aj bf l aw _ h j) λu bo ⟨q,a7,k,bW,m⟩=>e v u bo X q a7 k bI bW m
theorem KY {a:Operator}{E:ez}(c:dF H (ky a) E)(d:bu H S bG)(e:bu H b dr):bu H (.BinOp S a b pos) (n9 E bG dr):=by
 intro aj z l Q o f Y;exact wpAny_BinOp (z6 d e f Y λv u bo X q a7 g h j V=>c aj bo l a7 X q v u o g h j V)
theorem Es {w:sI} {g:Int->Int->Int}
  (a:∀(O h:Int) (n u:Tok) (z:bz) (o:bq->bz->Prop) (k:bq->bz->Prop),aO O h->o (.int (g O h) z.toks) {z with toks:=z.toks+1}->bT (model H.cu H.p) H.r (w (.int O n) (.int h u)) o k z):
  dF H w (Er aO λO h=>.c (g O h)):=by
 intro aj z l Q X q v u o b c d Y;obtain⟨O,h,rfl,rfl,e,V⟩:=Y;obtain⟨n,rfl⟩:=c;obtain⟨f,rfl⟩:=d;exact a O h n f z _ _ e ⟨.c _,Q,b.fS _,⟨_,rfl⟩,V⟩
theorem KZ {w:sI}{g:Int->Int->Int}
  (a:∀(O h:Int) (n u:Tok) (z:bz) (o:bq->bz->Prop) (k:bq->bz->Prop),o (.int (g O h) z.toks) {z with toks:=z.toks+1}->bT (model H.cu H.p) H.r (w (.int O n) (.int h u)) o k z):
  dF H w (qa λO h=>.c (g O h)):=by
 intro aj z l Q X q v u o b c d Y;obtain⟨O,h,rfl,rfl,V⟩:=Y;obtain⟨n,rfl⟩:=c;obtain⟨e,rfl⟩:=d;exact a O h n e z _ _ ⟨.c _,Q,b.fS _,⟨_,rfl⟩,V⟩
theorem z7 {w:sI}{g:Int->Int->Bool}
  (a:∀(O h:Int) (n u:Tok) (z:bz) (o:bq->bz->Prop) (k:bq->bz->Prop),o (.bool (g O h)) z->bT (model H.cu H.p) H.r (w (.int O n) (.int h u)) o k z):
  dF H w (qa λO h=>.aQ (g O h)):=by
 intro aj z l Q X q v u o b c d Y;obtain⟨O,h,rfl,rfl,V⟩:=Y;obtain⟨n,rfl⟩:=c;obtain⟨e,rfl⟩:=d;exact a O h n e z _ _ ⟨.aQ _,Q,b,rfl,V⟩
def UC (O h:Int):Prop:=0<h/\h<1073741824
def UD (O h:Int):Prop:=0<=h/\h<=1000000/\O.natAbs<2 ^ 64
def z8 (O h:Int):Prop:=(-(2 ^ 64)<O/\O<2 ^ 64)\/(-(2 ^ 64)<h/\h<2 ^ 64)
theorem z8.f {O h:Int}(Y:z8 O h):IntMulOk O h:=by
 rcases Y with⟨af,ai⟩|⟨af,ai⟩
 ·exact .of_left (intBits_le_64 af ai)
 exact .of_right (intBits_le_64 af ai)
theorem UE:dF H (ky .Add) (qa λO h=>.c (O+h)):=KZ λ_ _ _ _ _ _ _ V=>add_int V
theorem UG:dF H (ky .Sub) (qa λO h=>.c (O-h)):=KZ λ_ _ _ _ _ _ _ V=>sub_int V
theorem UH:dF H (ky .Mod) (Er (λ_ h=>0<h) λO h=>.c (O % h)):=Es λO h _ _ _ _ _ a V=>by
 have af:(0:Int)<h:=a;exact mod_int' (by lia) (by rw[Int.fmod_eq_emod_of_nonneg O (by lia)];exact V)
theorem UI {w:bq->Sem bq}{g:Int->Int}
  (a:∀(O:Int) (n:Tok) (z:bz) (o:bq->bz->Prop) (k:bq->bz->Prop),o (.int (g O) z.toks) {z with toks:=z.toks+1}->bT (model H.cu H.p) H.r (w (.int O n)) o k z):
  KW H w (KX λO=>.c (g O)):=by
 intro aj z l Q X v o b c Y;obtain⟨O,rfl,V⟩:=Y;obtain⟨n,rfl⟩:=c;exact a O n z _ _ ⟨.c _,Q,b.fS _,⟨_,rfl⟩,V⟩
theorem UJ:KW H (unaryOp .USub) (KX λO=>.c (-O)):=UI λ_ _ _ _ _ V=>neg_int V
theorem z9 {aj:dD} {Q:ar} {C a:Bool}(b:a5 H aj l Q z)(V:o (.aQ C) Q)(e:C=a):kG H aj l o (.bool a) z:=by
 subst e;exact⟨.aQ C,Q,b,rfl,V⟩
theorem UK:dF H (e0 .Lt) (qa λO h=>.aQ (decide (O<h))):=z7 λ_ _ _ _ _ _ _ V=>lt_int V
theorem UL:dF H (e0 .LtE) (qa λO h=>.aQ (decide (O<=h))):=z7 λ_ _ _ _ _ _ _ V=>le_int V
theorem UM:dF H (e0 .Gt) (qa λO h=>.aQ (decide (h<O))):=z7 λ_ _ _ _ _ _ _ V=>gt_int V
theorem UN:dF H (e0 .GtE) (qa λO h=>.aQ (decide (h<=O))):=z7 λ_ _ _ _ _ _ _ V=>ge_int V
theorem UO:dF H (e0 .In) (λX q Q o=>∃O h,X=.d O/\q=.d h/\o (.aQ (!(uI h O 0 h.length 1).isEmpty)) Q):=by
 intro aj z l Q X q v u o a b c Y;obtain⟨O,h,rfl,rfl,V⟩:=Y;obtain⟨n,rfl⟩:=b;obtain⟨d,rfl⟩:=c;exact in_str (z9 a V rfl)
theorem UP:dF H (e0 .Is) (λX q Q o=>q=.a9/\o (.aQ (decide (X=.a9))) Q):=by
 intro aj z l Q X q v u o b a c Y;obtain⟨rfl,V⟩:=Y;cases c;refine is_none_gen (z9 b V ?_)
 cases X<;>first
  |(cases (a);rfl)
  |(obtain⟨n,rfl⟩:=a;rfl)
theorem UQ:dF H (e0 .IsNot) (λX q Q o=>q=.a9/\o (.aQ (!decide (X=.a9))) Q):=by
 intro aj z l Q X q v u o a b c Y;obtain⟨rfl,V⟩:=Y;cases c;refine isnot_none_gen (z9 a V ?_);cases X<;>(obtain⟨n,rfl⟩:=b;rfl)
theorem UR:dF H (e0 .NotIn) (λX q Q o=>∃O h,X=.d O/\q=.d h/\o (.aQ (!(!(uI h O 0 h.length 1).isEmpty))) Q):=by
 intro aj z l Q X q v u o a b c Y;obtain⟨O,h,rfl,rfl,V⟩:=Y;obtain⟨n,rfl⟩:=b;obtain⟨d,rfl⟩:=c;exact notIn_str (z9 a V rfl)
theorem US {a:CmpOp}{E:ez}(c:dF H (e0 a) E)(d:bu H S bG)(e:bu H b dr)(f:behindInMarks a b=aA):bu H (.Compare S [a] [b] pos) (n9 E bG dr):=by
 intro aj z l Q o g Y;exact wpAny_Compare1 (z6 d e g Y λv u bo X q a7 h j k V=>c aj bo l a7 X q v u o h j k V) f
theorem uZ:(cA:Nat)<2 ^ 63:=by decide
theorem UT:dF H (ky .Add) (λX q Q o=>∃O h,X=.d O/\q=.d h/\O.length+h.length<=cA/\o (.d (O++h)) Q):=by
 intro aj z l Q X q v u o a b c Y;obtain⟨O,h,rfl,rfl,d,V⟩:=Y;obtain⟨n,rfl⟩:=b;obtain⟨e,rfl⟩:=c;exact kE (add_str (λe g f=>⟨.d _,Q,a.fS _ (iq a.tk f),⟨_,rfl⟩,V⟩) d)
theorem mV {X:aS}(E:b9 [X] ae):∃u,ae=[u]/\cw X u:=by
 cases E with
 |cons bI bW=>cases bW;exact⟨_,rfl,bI⟩
theorem z_ {X q:aS}(E:b9 [X,q] ae):∃u a,ae=[u,a]/\cw X u/\cw q a:=by
 cases E with
 |cons bI bW=>
  cases bW with
  |cons b c=>cases c;exact⟨_,_,rfl,bI,b⟩
theorem UU (c:H.fD=ag):i9 H (.builtin "min") (λj Q o=>∃O h,j=[.c O,.c h]/\o (.c (if h<O then h else O)) Q):=by
 intro aj z l Q j ae o b E Y;obtain⟨O,h,rfl,V⟩:=Y;obtain⟨u,e,rfl,⟨n,rfl⟩,⟨f,rfl⟩⟩:=z_ E;refine kE (min_two_ints (b.f.gB c) λaF g C d=>⟨_,Q,b.jm C (iq b.tk d),?_,V⟩)
 by_cases a:h<O
 ·rw[if_pos a,if_pos a];exact⟨_,rfl⟩
 rw[if_neg a,if_neg a];exact⟨_,rfl⟩
theorem UW:i9 H (.type "str") (λj Q o=>∃O,j=[.c O]/\O.natAbs.log2<1920/\o (.d (toString O)) Q):=by
 intro aj z l Q j ae o a E Y;obtain⟨O,rfl,b,V⟩:=Y;obtain⟨u,rfl,n,rfl⟩:=mV E;exact PySem.P.str_of_int b ⟨.d _,Q,a.fS _,⟨_,rfl⟩,V⟩
end
structure sW (Y:Heap)(X bS aO:ba)(fA:e2):Prop where
 dV:Y.get? X=D (q5 aO bS)
 ns:Y.Ns1 bS fA
 ne:bS≠X
theorem UX {Y:Heap}(y:Y.Ns1 bS fA):∃a,Y.get? bS=D a/\∀name,zB name a=D (fA name):=by
 obtain⟨A,ax,j,b,c,d,_,f⟩:=y;refine⟨A,b,λname=>?_⟩
 have e:=f name;unfold nsFind findBy at e;rw[<- Array.find?_toList]at e;unfold zB;rw[c];dsimp only;split
 ·rename_i q V
  rw[V]at e;exact congrArg D e
 ·rename_i V
  rw[V]at e;have S:ax.toList.any (·.refKey)=aA:=by
   rw[List.any_eq_false];intro q g;obtain⟨G,n,h⟩:=d q (Array.mem_toList_iff.mp g);simp[DictEntry.refKey,h]
  rw[if_neg (by rw[S];exact pX)]
  exact congrArg D e
theorem sW.Aa {Y:Heap}{X bS aO:ba}(b:sW Y X bS aO fA):∃a,W.InstAt Y X (q5 aO bS) aO (D a)/\∀name,zB name a=D (fA name):=
 let⟨a,c,d⟩:=UX b.ns
 ⟨a,⟨b.dV,rfl,rfl,c⟩,d⟩
section
variable {prog:dk}{p:cN}{r:dM}{k:bq->bz->Prop}{z:bz}{I:bK}{X bS aO w:ba}{fA:e2}{name:Str}{v:bq}
theorem UY (H:I.In z.heap)(a:sW z.heap X bS aO fA)(b:uH I aO name=ag)(c:uG I aO=ag)
  (d:jw I (.ref aO) name=D i) (e:fA name=D v) (f:W.handedIn v=ag) (Y:o v {z with toks:=z.toks+1}):
  bT (model prog p) r (getAttr (.ref X) name expr) o k z:=by
 obtain⟨j,g,h⟩:=a.Aa;exact W.get_value H g (DN b).1 (W.findObj_own c d rfl (by rw[h,e])) f Y
theorem UZ (H:I.In z.heap)(b:sW z.heap X bS aO fA)(a:uH I aO name=ag)
  (c:jw I (.ref aO) name=D (D (.ref w))) (d:sz I (.ref w)=ag) (e:fA name=i) (Y:o (.ref w,[.ref X]) z):
  bT (model prog p) r (getMethod (.ref X) name g_) o k z:=by
 obtain⟨f,g,h⟩:=b.Aa;exact W.method_fn H g (DN a).1 (DN a).2 c (beq_iff_eq.mp d) (by show(zB name f).map _=D aA;rw[h,e];rfl) Y
theorem U0 (H:I.In z.heap)(c:sW z.heap X bS aO fA)
  (g:jw I (.ref aO) "__setattr__"=D (D (.builtin "object.__setattr__"))) (h:zy I aO=ag) (j:DR I aO name=D i) (l:uG I aO=ag)
  (hw:zc fA ns) (w:ns.length<=cA)
  (Y:∀aF,sW aF X bS aO (λq=>if q=name then D v else fA q)->sq bS z.heap aF->o () {z with heap:=aF,toks:=z.toks+2}):
  bT (model prog p) r (setAttr (.ref X) name v) o k z:=by
 obtain⟨x,d,y⟩:=c.Aa;refine W.set_plain H d g (W.osa_open  (r:=i) H d h j λb=>?_)
 obtain⟨A,m,n⟩:=W.any_some l;refine bR (dQ (bR (bR (wpAny_loadPart c.dV (bR (W.Looks.here  (W.looks_clsIn H m) ?_))))));rw[n];refine dQ (a:=D bS) (bR (dQ (bR ?_)));refine wpAny_nsSet1  c.ns λaF e f=>?_
 obtain⟨B,C,E,s,t,u⟩:=e.count (Ts name v hw);refine bR (wpAny_lookBehind s (by rw[t];exact pastItsLine_dict (ka u (by rw[ew];lia))) ?_)
 exact dQ (Y _ ⟨(f.2 _ (oT c.ne)).trans c.dV,e,c.ne⟩ f)
theorem U1 {a3:Result->bz->Prop}(H:I.In z.heap)(b:zA I aO=ag)
  (aE:jw I (.ref aO) "__init__"=D (D (.ref w))) (c:DT I (.ref w)=D (.type "function"))
  (Y:codeAny (model prog p) (r.under (.builtin "type.__call__" ⟨.ref aO::a,γ⟩)) (.call (.ref w) ⟨.ref (z.heap.objs.size+1)::a,γ⟩) (W.InitBack (z.heap.objs.size+1) a3)
   {z with heap:=(z.heap.push pZ).push (q5 aO z.heap.objs.size)}):
  codeAny (model prog p) r (.call (.ref aO) ⟨a,γ⟩) a3 z:=by
 obtain⟨e,g,t,n,f⟩:=z;exact W.make_core (W.makes_of H b) (W.looks_findIn H aE) (λd=>W.bind_fn H d c) (.inl rfl) Y
end
noncomputable def iT (w:Str)(v:aS):List (Str×aS)->n5
 |[]=>[(w,v)]|(g,X)::E=>if g=w then(g,v)::E else(g,X)::iT w v E
theorem K0 (w g:Str)(v:aS):∀au:n5,(iT w v au).lookup g=if g=w then D v else au.lookup g
 |[]=>by
  show so g [(w,v)]=_
  by_cases Y:g=w
  ·have a  := beq_iff_eq.mpr Y
   simp only[so,a,if_pos Y]
  ·have a  := beq_eq_false_iff_ne.mpr Y
   simp only[so,a,if_neg Y]
 |(C,X)::E=>by
  have c:=K0 w g v E;rw[show iT w v _=(if C=w then(C,v)::E else(C,X)::iT w v E)from rfl]
  by_cases b:C=w
  ·rw[if_pos b]
   by_cases Y:g=C
   ·have a  := beq_iff_eq.mpr Y
    simp only[so,a,if_pos (Y.trans b)]
   ·have a  := beq_eq_false_iff_ne.mpr Y
    simp only[so,a,if_neg (λe:g=w=>Y (e.trans b.symm))]
  ·rw[if_neg b]
   by_cases Y:g=C
   ·have a  := beq_iff_eq.mpr Y
    simp only[so,a,if_neg (λe:g=w=>b (Y.symm.trans e))]
   ·have a  := beq_eq_false_iff_ne.mpr Y
    simp only[so,a];exact c
theorem Et (w:Str)(v:aS):∀au:n5,w∈(iT w v au).map (·.1)/\∀g,g∈au.map (·.1)->g∈(iT w v au).map (·.1)
 |[]=>⟨by simp[iT],λg Y=>by simp at Y⟩|(C,X)::E=>by
  obtain⟨a,b⟩:=Et w v E;rw[show iT w v _=(if C=w then(C,v)::E else(C,X)::iT w v E)from rfl]
  grind
theorem K1 (w:Str)(v:aS):∀au:n5,(iT w v au).length<=au.length+1
 |[]=>by simp[iT]
 |(C,X)::E=>by
  have a:=K1 w v E;rw[show iT w v _=(if C=w then(C,v)::E else(C,X)::iT w v E)from rfl]
  grind
theorem lh.Eu (E:lh (D v) A):∃u,A=D u/\cw v u:=by
 cases A with
 |none=>trivial|some u=>exact⟨u,rfl,E⟩
theorem lh.U2 (E:lh i A):A=i:=by
 cases A with
 |none=>rfl|some u=>trivial
theorem U3 (E:cw v u):W.handedIn u=ag:=by
 cases v with
 |a9=>cases(E);rfl|aQ b=>cases(E);rfl|a0 S=>cases(E);rfl|gd y=>cases(E);rfl |_=>obtain⟨n,e⟩:=(E);cases (e);rfl
section
variable {P:dk}{p:cN}{Q:ar}{Y:Heap}{S aO bS:ba}{au:n5}
theorem Ab (a:gA P p Q Y)(e:Q S=D (.fg aO bS au)):∃fA,sW Y S bS aO fA/\(∀w,lh (au.lookup w) (fA w))/\zc fA (au.map (·.1))/\au.length<=1000/\Q bS=D (.fl S):=by
 obtain⟨t,G,ne,b,fA,y,E,V⟩:=(a S _ e);exact⟨fA,⟨b,y,ne⟩,E,V,G,t⟩
end
structure mi (I:bK)(aO:ba):Prop where
 U4:uH I aO zL=ag
 gB:uG I aO=ag
 U5:zy I aO=ag
 U6:jw I (.ref aO) "__setattr__"=D (D (.builtin "object.__setattr__"))
theorem mi.g8 {I:bK}{aO:ba}(R:mi I aO)(w:Str):uH I aO w=ag:=R.U4
def qb (I:bK)(aO:ba)(w:Str):Prop:=jw I (.ref aO) w=D i
theorem qb.U7 {I:bK}{aO:ba}{w:Str}(y:qb I aO w):DR I aO w=D i:=by
 unfold DR;rw[y];rfl
structure Ac (I:bK)(aO:ba)(m:Str)(w:ba):Prop where
 o5:jw I (.ref aO) m=D (D (.ref w))
 hO:sz I (.ref w)=ag
 mj:k_ I (.ref w)=ag
section
variable {H:bU}{aj:dD}{l:ck}{Q:ar}{z:bz}{S aO bS:ba}{au:n5}{w:Str}{v:aS}{r:dM}{k:bq->bz->Prop}
theorem U8 (a:a5 H aj l Q z)(e:Q S=D (.fg aO bS au))(R:mi H.I aO)(y:qb H.I aO w)(s:au.lookup w=D v)
  (Y:∀u bc,a5 H aj l Q bc->cw v u->o u bc):bT (model H.cu H.p) r (getAttr (.ref S) w b) o k z:=by
 obtain⟨fA,br,E,_,_,_⟩:=Ab a.cL e;obtain⟨u,d,c⟩:=lh.Eu   (by rw[<- s];exact E w)
 exact UY a.g9 br (R.g8 w) R.gB y d (U3 c) (Y u _ (a.fS _) c)
theorem K2 {g:ba}(a:a5 H aj l Q z)(e:Q S=D (.fg aO bS au))(R:mi H.I aO)(C:Ac H.I aO m g)(s:au.lookup m=i)
  (Y:o (.ref g,[.ref S]) z):bT (model H.cu H.p) r (getMethod (.ref S) m g_) o k z:=by
 obtain⟨fA,br,E,_,_,_⟩:=Ab a.cL e;exact UZ a.g9 br (R.g8 m) C.o5 C.hO (lh.U2 (by rw[<- s];exact E m)) Y
theorem U9 (a:a5 H aj l Q z)(e:Q S=D (.fg aO bS au))(R:mi H.I aO)(y:qb H.I aO w)(t:au.length<1000)(h:cw q u)
  (Y:∀bc,a5 H aj l (cq Q S (.fg aO bS (iT w q au))) bc->o () bc):bT (model H.cu H.p) r (setAttr (.ref S) w u) o k z:=by
 obtain⟨fA,br,E,d,_,f⟩:=Ab a.cL e;have j:(au.map (·.1)).length<=cA:=by rw[cE,sizeLine_eq];lia
 refine U0 a.g9 br R.U6 R.U5 y.U7 R.gB d j λaF c m=>Y _ ?_
 refine a.q9 (X:=S) (e:=bS) (by rw[e];exact mQ) (.inr f) (λb V n G=>(m.2 b n).trans G) (let⟨A,_,_,p,_⟩:=c.ns;⟨A,p⟩) ?_
 refine⟨by rw[f6 br.ne];exact f,?_,br.ne,c.dV,_,c.ns,λg=>?_,λg s=>?_⟩
 ·have:=K1 w q au;lia
 ·rw[K0]
  by_cases V:g=w
  ·rw[if_pos V,if_pos V];exact h
  ·rw[if_neg V,if_neg V];exact E g
 ·by_cases V:g=w
  ·rw[V];exact(Et w q au).1
  ·refine(Et w q au).2 g (d g λG=>s ?_)
   show(if g=w then D u else fA g)=i
   rw[if_neg V];exact G
theorem a5.U_ (c:a5 H aj l Q z):a5 H aj l (cq (cq Q z.heap.objs.size (.fl (z.heap.objs.size+1))) (z.heap.objs.size+1) (.fg aO z.heap.objs.size []))
  {z with heap:=(z.heap.push pZ).push (q5 aO z.heap.objs.size)}:=by
 have aR:(z.heap.push pZ).get? z.heap.objs.size=D pZ:=gK z.heap rfl;have aB:((z.heap.push pZ).push (q5 aO z.heap.objs.size)).get? (z.heap.objs.size+1)=D (q5 aO z.heap.objs.size):=by
  have:=gK (z.heap.push pZ) (o:=q5 aO z.heap.objs.size) rfl;rwa[q4]at this
 have d:(z.heap.push pZ).Ns z.heap.objs.size (λ_=>i):=⟨pZ,#[],_,aR,rfl,(λe f=>absurd f (by simp)),λ_=>rfl⟩
 have g:=c.hx (S:=z.heap.objs.size) (A:=.fl (z.heap.objs.size+1)) (aF:=z.heap.push pZ) (d:=z.toks) (λb u V=>eQ _ V) (cZ _) ⟨_,aR⟩
 refine g.hx (S:=z.heap.objs.size+1) (A:=.fg aO z.heap.objs.size []) (d:=z.toks) (λb u V=>eQ _ V) (uF (q4 _ _)) ?_
 have ne:z.heap.objs.size≠z.heap.objs.size+1:=gz (wI _);refine⟨by rw[f6 ne,jL],mc _,ne,aB,λ_=>i,(Heap.Ns1.of_empty d).at λA V=>eQ _ V,λ_=>mQ,λq h=>absurd rfl h⟩
theorem Va {p:cN} {e:bV}{w:Str}(a:attributeBase e w x (eval e x)=eval e x)
  (Y:bT (model prog p) r (eval e x) (λA b=>bT (model prog p) r (getAttr A w ag) o k b) k z):bT (model prog p) r (eval (.Attribute e w pos) x) o k z:=
 Attribute_any_ Y (by rw[arm_eval_Attribute,a])
end
section
variable {H:bU}{aj:dD}{l:ck}{Q:ar}{z:bz}{r:dM}{k o:bq->bz->Prop}{R:bq}{b:Bool}
inductive mW (I:bK) (Q:ar):aS->bq->Prop where
 |a9:mW I Q .a9 (.type "NoneType")
 |aQ (X:Bool):mW I Q (.aQ X) (.type "bool")
 |c (O:Int):mW I Q (.c O) (.type "int")
 |d (X:Str):mW I Q (.d X) (.type "str")
 |wY (X:UInt64):mW I Q (.wY X) (.type "float")
 |aM {S:ba}{j:List aS}(e:Q S=D (.aM j)):mW I Q (.a0 S) (.type "list")
 |iw {S:ba}{A:l8}{j:List aS}(e:Q S=D (.iw A (.aM j))):mW I Q (.a0 S) (.type "list")
 |bb {S:ba}{j:List aS}(e:Q S=D (.bb j)):mW I Q (.a0 S) (.type "tuple")
 |eN {S:ba}{bl:List (ey×aS)}(e:Q S=D (.eN bl)):mW I Q (.a0 S) (.type "dict")
 |mg {S:ba}{bl:List (List ey×aS)}(e:Q S=D (.mg bl)):mW I Q (.a0 S) (.type "dict")
 | fg {S aO bS:ba}{au:List (Str×aS)}(e:Q S=D (.fg aO bS au)) (b7:mi I aO) (a:jw I (.ref aO) "__class__"=D (D (.builtin "object.__class__")))
   (b:zz I (.builtin "object.__class__") "__get__"=D (D (.builtin "getset_descriptor.__get__"))) (f:W.takesIn I (.builtin "object.__class__")=D ag)
   (g:sy I aO (.type "object")=D ag):mW I Q (.a0 S) (.ref aO)
theorem Vb {X:aS}{u n:bq}(f:a5 H aj l Q z)(g:cw X u)(gd:mW H.I Q X n)(e:zC H.I n R=D b)(Y:∀m,o (.bool b) {z with toks:=m}):
  bT (model H.cu H.p) r (call (.builtin "isinstance") [u,R]) o k z:=by
 cases gd with
 |a9=>cases(show u=la from g);exact n3 W.kitx_none f.g9 mQ e (λG=>nomatch G) Y|aQ q=>cases(show u=sC q from g);exact n3 W.kitx_bool f.g9 mQ e (λG=>nomatch G) Y|c O=>obtain⟨n,V⟩:=(show∃n,u=zH O n from g);cases V;exact n3 W.kitx_int f.g9 mQ e (λG=>nomatch G) Y|d q=>obtain⟨n,V⟩:=(show∃n,u=wL q n from g);cases V;exact n3 W.kitx_str f.g9 mQ e (λG=>nomatch G) Y|wY q=>obtain⟨n,V⟩:=(show∃n,u=J4 q n from g);cases V;exact n3 W.kitx_float f.g9 mQ e (λG=>nomatch G) Y| @aM S j h=>
  cases(show u=kc S from g)
  obtain⟨_,_,y,_,af⟩:=(show ix H.cu H.p Q z.heap S (.aM j)from f.cL S _ h)
  exact n3 W.kitx_list f.g9 ⟨_,af,rfl⟩ e (λG=>nomatch G) Y
 | @iw S p j h=>
  cases(show u=kc S from g)
  obtain⟨_,_,_,y,_,af⟩:=(show ix H.cu H.p Q z.heap S (.iw p (.aM j))from f.cL S _ h)
  exact n3 W.kitx_list f.g9 ⟨_,af,rfl⟩ e (λG=>nomatch G) Y
 | @bb S j h=>
  cases(show u=kc S from g)
  obtain⟨_,_,_,N⟩:=(show ix H.cu H.p Q z.heap S (.bb j)from f.cL S _ h)
  obtain⟨A,af,ai,_⟩:=N;exact n3 W.kitx_tuple f.g9 ⟨A,af,ai⟩ e (λG=>nomatch G) Y
 | @eN S bl h=>
  cases(show u=kc S from g)
  obtain⟨_,_,a,_,N⟩:=(show ix H.cu H.p Q z.heap S (.eN bl)from f.cL S _ h)
  obtain⟨A,ax,s,af,ai,_⟩:=N;exact n3 W.kitx_dict f.g9 ⟨A,af,ai.1⟩ e (λG=>nomatch G) Y
 | @mg S bl h=>
  cases(show u=kc S from g)
  obtain⟨_,_,j,_,A,ax,s,af,ai,_⟩:=(show ix H.cu H.p Q z.heap S (.mg bl)from f.cL S _ h)
  exact n3 W.kitx_dict f.g9 ⟨A,af,ai.1⟩ e (λG=>nomatch G) Y
 | @fg S aO bS au h b7 t v w x=>
  cases(show u=kc S from g)
  obtain⟨fA,br,_⟩:=Ab f.cL h;obtain⟨C,B,_⟩:=br.Aa;exact n3 (W.kitx_own (b7.g8 _) b7.gB t v w x) f.g9 B e (λG=>nomatch G) Y
end
structure gD (C:Nat)(r:dM):Prop where
 gB:r.handled=i
 w8:r.depth+3*C+5<recursionLimit
 aK:r.units+16*C+200<cLine
theorem gD.bQ {h C:Nat}{r:dM}(E:gD C r)(Y:h<=C):gD h r:=⟨E.gB,by have:=E.w8;lia,by have:=E.aK;lia⟩
theorem gD.deeper {C:Nat}{r:dM}(E:gD (C+1) r)(x:Env):gD C (r.deeper x):=
 ⟨E.gB,by have:=E.w8;show r.depth+1+3*C+5<_;lia,by have:=E.aK;show r.units+3+16*C+200<_;lia⟩
theorem Vc {r:dM}:(r.under (.builtin "type.__call__" ⟨.ref aO::ae,γ⟩)).depth=r.depth+1:=by
 first |rfl |simp[Around.under,Code.weight,Code.isCreation,Code.isGuard,Code.isCaller,Code.frames,Code.isFrame,guardIds]
theorem Vd {r:dM}:(r.under (.builtin "type.__call__" ⟨.ref aO::ae,γ⟩)).units=r.units+1:=by
 first |rfl |simp[Around.under,Code.cUnits,Code.frames,Code.isFrame]
theorem gD.jn {C:Nat}{r:dM}(E:gD (C+1) r)(aO:ba)(ae:dt)(a:uM):gD C (r.under (.builtin "type.__call__" ⟨.ref aO::ae,a⟩)):=
 ⟨E.gB,by have:=E.w8;rw[Vc];lia,by have:=E.aK;rw[Vd];lia⟩
theorem gD.depth {C:Nat}{r:dM}(E:gD C r):r.depth<recursionLimit:=by have:=E.w8;lia
def ib:fY:=λ_ Q o=>o [] Q
def hb (bG:b1)(a:fY):fY:=λl Q o=>bG l Q λX aw=>a l aw λj a7=>o (X::j) a7
section
variable {H:bU}{e:bV}{ax:fz}{eC:b1}{n:fY}{pos:Pos}
theorem w9:gV H [] ib:=λ_ _ _ _ Q o a Y=>Calls.spliced_nil ⟨[],Q,a,.nil,Y⟩
theorem qc (a:bu H e eC)(b:gV H ax n)(c:eH (e::ax) H.x=(aA,eval e H.x)::eH ax H.x:=by rfl):gV H (e::ax) (hb eC n):=by
 intro pos aj z l Q o d Y;rw[c];show bT _ _ (spliced ((aA,eval e _)::iu pos _)) _ _ z
 exact Calls.spliced_cons (cv (a aj z l Q _ d Y) λu bf ⟨X,aw,f,bI,g⟩=>cv (b pos aj bf l aw _ f g) λae bo ⟨j,a7,h,bW,k⟩=>⟨X::j,a7,h,.cons bI bW,k⟩)
def w_ (n:fY):b1:=λl Q o=>n l Q λj aw=>j.length<=cA/\∀N,aw N=i->o (.a0 N) (cq aw N (.bb j))
def Ew (n:fY):b1:=λl Q o=>n l Q λj aw=>j.length<=cA/\∀N,aw N=i->o (.a0 N) (cq aw N (.aM j))
theorem K3 {x1}(Y:gV H ax n):bu H (.Tuple ax x1 pos) (w_ n):=by
 intro aj z l Q o c d;refine wpAny_Tuple_spliced (cv (Y pos aj z l Q _ c d) λae bf ⟨j,aw,a,E,G,V⟩=>⟨by rwa[<- E.dS],?_⟩)
 refine⟨.a0 _,cq aw _ _,a.hx  (λb u e=>eQ _ e) (cZ _) ?_,rfl,V _ (a.cL.fK (cZ _))⟩
 exact⟨G,ae,E,⟨_,gK _ rfl,rfl,_,rfl⟩⟩
theorem Ve (Y:gV H ax n):bu H (.List ax pos) (Ew n):=by
 intro aj z l Q o c d;refine wpAny_List_spliced (cv (Y pos aj z l Q _ c d) λae bf ⟨j,aw,a,E,G,V⟩=>⟨by rwa[<- E.dS],?_⟩)
 refine⟨.a0 _,cq aw _ _,a.hx  (λb u e=>eQ _ e) (cZ _) ?_,rfl,V _ (a.cL.fK (cZ _))⟩
 exact⟨G,ae,0,E,gK _ rfl⟩
end
theorem Vf {r:dM}{n:Sem aP}(Y:0<z.toks\/N)(m:N->n6 n)(V:bT M r n (λS bc=>0<bc.toks->o S bc) k z):bT M r n o k z:=
 Y.elim (λG=>kE (kx V (λ_ _ C s=>C (iq G s)) λ_ _ C _=>C)) λG=>TU (m G) V
abbrev gW:=bp->ar->cm->cg->Prop
abbrev kh:=mf->ar->bz->cg->bq->bz->Prop
structure rb (P:dk)(p:cN)(I:bK)(a6:e2)(bj:Heap)(r:dM)(a:mf)(z:bz)(Q:ar):Prop where
 frames:r.frames=D a
 es:Mod I a6 bj
 c6:∀b A,bj.get? b=D A->z.heap.get? b=D A/\Q b=i
 p7:bj.objs.size<=z.heap.objs.size
 nB:z.heap.FunFrames bj a
 sO:∀b∈mS a,Q b=i
 cL:gA P p Q z.heap
 lN:AllBare z.gens
 dr:w0 I Q
def fi (a:mf)(P:dk)(p:cN)(Q:ar)(z:bz)(o:cm)(u:bq)(bc:bz):Prop:=
 ∃v ay,bc.os=z.os/\AllBare bc.gens/\iS (mS a) [] Q ay z.heap bc.heap/\gA P p ay bc.heap/\0<bc.toks/\cw v u/\o v ay
def K4 (dN:kh)(a:mf)(P:dk)(p:cN)(Q:ar)(z:bz)(o:cm)(k:cg)(E:Result)(bc:bz):Prop:=
 match E with
 |.ok (.ret u)=>fi a P p Q z o u bc|.ok _=>False|.error e=>dN a Q z k e bc
abbrev u0:c_:=["_law_script"]
structure gX (P:dk)(p:cN)(I:bK)(a6:e2)(bj:Heap)(dN:kh)(C:Nat)(w:ba)(bP:i4)(aJ:c_)(cx:gW):Prop where
 cn:∀a Q o k,cx a Q o k->a.length=aJ.length
 f7:∀(r:dM) (b:mf) (z:bz) (Q:ar) (c:Args) (ae:dt) (a:bp) (o:cm) (k:cg),gD C r->rb P p I a6 bj r b z Q->0<z.toks\/aJ=u0->BindsTo z bP c (aJ.zip ae)->b9 a ae->cx a Q o k ->
  codeAny (model P p) r (.call (.ref w) c) (K4 dN b P p Q z o k) z
theorem rb.jn {P:dk}{p:cN}{I:bK}{a6:e2}{bj:Heap}{r:dM}{a:mf}{z:bz}{Q:ar}(e:rb P p I a6 bj r a z Q)(aO:ba)(ae:dt)(b:uM):
  rb P p I a6 bj (r.under (.builtin "type.__call__" ⟨.ref aO::ae,b⟩)) a z Q:=⟨e.frames,e.es,e.c6,e.p7,e.nB,e.sO,e.cL,e.lN,e.dr⟩
section
variable {H:bU}{aj:dD}{l:ck}{Q:ar}{z bc:bz}
theorem a5.K5 (a:a5 H aj l Q z):rb H.cu H.p H.I H.a6 H.bj H.r H.hN z Q:=
 ⟨a.f.frames,a.f.es,a.c6,ka a.f.p7 a.z0,a.hN,a.KD,a.cL,a.lN,a.dr⟩
theorem a5.K6 (a:a5 H aj l Q z)(Y:fi H.hN H.cu H.p Q z o u bc):kG H aj l o u bc:=by
 obtain⟨v,ay,c,d,e,f,h,E,V⟩:=Y;obtain⟨j,g,t,n,k⟩:=bc;obtain rfl:k=z.os:=c;exact⟨v,ay,a.b0 (aF:=j) (g':=g) (eh:=t) (f:=n) (ke:=[]) e f d (λb G=>absurd G (by simp)) h,E,V⟩
end
def rd (cx:gW)(fT:bp)(k:cg)(n:fY):b1:=λl Q o=>n l Q λa aw=>cx (a++fT) aw o k
def Ad (aO:ba)(m:Str)(cx:gW)(fT:bp)(k:cg)(bG:b1)(n:fY):b1:=λl Q o=>bG l Q λX aw=>∃S bS au,X=.a0 S/\aw S=D (.fg aO bS au)/\au.lookup m=i /\
 n l aw λa a7=>cx (X::(a++fT)) a7 o k
def u1 (aO:ba)(cx:gW)(fT:bp)(k:cg)(n:fY):b1:=λl Q o=>n l Q λa aw=>∀X bS,aw X=i->aw bS=i->bS≠X ->
 cx (.a0 X::(a++fT)) (cq (cq aw bS (.fl X)) X (.fg aO bS [])) (λv a7=>v=.a9/\o (.a0 X) a7) k
def iC (I:bK)(bP:i4)(aJ:c_)(ab:dt):Prop:=
 ∀(z:bz) (ae:dt),I.In z.heap->(ae++ab).length=aJ.length->BindsTo z bP ⟨ae,[]⟩ (aJ.zip (ae++ab))
theorem iC.all {I:bK}{bP:i4}{aJ:c_}(Y:∀ae:dt,ae.length=aJ.length->bindArgs bP ⟨ae,[]⟩=pure (aJ.zip ae)):iC I bP aJ []:=λz ae _ a=>by
 rw[l_]at a ⊢;exact .of_eq (Y ae a)
def ml (dN:kh)(H:bU)(k:cg):Prop:=∀(aj:dD) (l:ck) (Q:ar) (z:bz) (e:bq) (bc:bz),a5 H aj l Q z->dN H.hN Q z k e bc->H.fm e bc
section
variable {H:bU}{dN:kh}{C:Nat}{w aO:ba}{bP:i4}{aJ:c_}{cx:gW}{fT:bp}{ab:dt}{k:cg}{X m:Str}{N pos fE:Pos}{e A:bV}{ax:fz}{bG:b1}{n:fY}
theorem Ae {aj:dD} {Q:ar}(F:gX H.cu H.p H.I H.a6 H.bj dN C w bP aJ cx)(d:gD C H.r)(f:iC H.I bP aJ ab)(g:b9 fT ab)(h:ml dN H k)
  (b:a5 H aj l Q z) (E:b9 a ae) (Y:cx (a++fT) Q o k):bT (model H.cu H.p) H.r (call (.ref w) ae) (kG H aj l o) H.fm z:=by
 have bW:b9 (a++fT) (ae++ab):=E.dE g;have j:(ae++ab).length=aJ.length:=by rw[<- bW.dS];exact F.cn _ _ _ _ Y
 refine wpAny_call (codeAny_mono (F.f7 H.r H.hN z Q ⟨ae,[]⟩ (ae++ab) (a++fT) o k d b.K5 (.inl b.tk) (f z ae b.g9 j) bW Y) λE bc c=>?_)
 cases E with
 |error e=>exact h aj l Q z e bc b c|ok m=>
  cases m with
  |ret u=>exact b.K6 c|next=>exact fX c|brk=>exact fX c|cont=>exact fX c
theorem Vg (F:gX H.cu H.p H.I H.a6 H.bj dN C w bP aJ cx)(d:gD C H.r)(f:i6 H X)(g:H.a6 X=D (.ref w))(h:k_ H.I (.ref w)=ag)(j:iC H.I bP aJ ab)(m:b9 fT ab)(p:ml dN H k)
  (q:gV H (e::ax) n) (s:(X==("__debug__":Str))=aA:=by decide) (t:eH (e::ax) H.x=(aA,eval e H.x)::eH ax H.x:=by rfl) (u:(iu pos (eH ax H.x)).any (·.1)=aA:=by rfl):
  bu H (.Call (.Name X N) (e::ax) [] pos) (rd cx fT k n):=by
 intro aj z l Q o b Y;exact uv (w4 b f g (DP  b.f.es.w1 h (cv (q pos aj z l Q _ b Y) λae bf ⟨a,aw,c,E,V⟩=>⟨c.g9,Ae F d j m p c E V⟩) t u) s)
theorem Vh (F:gX H.cu H.p H.I H.a6 H.bj dN C w bP aJ cx)(b:gD C H.r)(c:i6 H X)(d:H.a6 X=D (.ref w))(e:k_ H.I (.ref w)=ag)(f:iC H.I bP aJ ab)(g:b9 fT ab)(h:ml dN H k)
  (j:(X==("__debug__":Str))=aA:=by decide):bu H (.Call (.Name X N) [] [] pos) (rd cx fT k ib):=by
 intro aj z l Q o a Y;exact uv (w4 a c d (DO a.g9 e (Ae (ae:=[]) F b f g h a .nil Y)) j)
theorem Vi (h:bu H A bG)(R:mi H.I aO)(b:Ac H.I aO m w)(F:gX H.cu H.p H.I H.a6 H.bj dN C w bP aJ cx)(j:gD C H.r)(p:iC H.I bP aJ ab)(q:b9 fT ab)(t:ml dN H k)(v:gV H (e::ax) n)
  (x:eH (e::ax) H.x=(aA,eval e H.x)::eH ax H.x:=by rfl) (y:(iu pos (eH ax H.x)).any (·.1)=aA:=by rfl)
  (B:eval (.Call (.Attribute A m fE) (e::ax) [] pos) H.x=(do
   let c <- eval A H.x
   standAt fE.atName
   let(w,first) <- holding [c] (getMethod c m g_)
   callWith pos w first (iu pos (eH (e::ax) H.x)) (pU pos (pT [] H.x))):=by rfl):
  bu H (.Call (.Attribute A m fE) (e::ax) [] pos) (Ad aO m cx fT k bG n):=by
 intro aj z l Q o d Y;refine J0 (pl:=g_) (cv (h aj z l Q _ d Y) λu bf G=>?_) B
 obtain⟨X,aw,f,I,S,bS,au,aT,J,s,V⟩:=G;subst aT;obtain rfl:u=kc S:=I;refine K2 f J R b s ?_;refine DP (first:=[.ref S]) (h₀:=H.bj) d.f.es.w1 b.mj (cv (v pos aj bf l aw _ f V) λae bo ⟨a,a7,g,E,K⟩=>⟨g.g9,?_⟩) x y
 exact Ae (ae:=.ref S::ae) (a:=.a0 S::a) F j p q t g (.cons rfl E) K
theorem Vj (d:bu H A bG)(R:mi H.I aO)(b:Ac H.I aO m w)(F:gX H.cu H.p H.I H.a6 H.bj dN C w bP aJ cx)(e:gD C H.r)(f:iC H.I bP aJ ab)(g:b9 fT ab)(h:ml dN H k)
  (j:eval (.Call (.Attribute A m fE) [] [] pos) H.x=(do
   let c <- eval A H.x
   standAt fE.atName
   let(w,first) <- holding [c] (getMethod c m g_)
   callWith pos w first (iu pos (eH [] H.x)) (pU pos (pT [] H.x))):=by rfl):
  bu H (.Call (.Attribute A m fE) [] [] pos) (Ad aO m cx fT k bG ib):=by
 intro aj z l Q o n Y;refine J0 (pl:=g_) (cv (d aj z l Q _ n Y) λu bf p=>?_) j
 obtain⟨X,aw,a,q,S,bS,au,aT,t,s,V⟩:=p;subst aT;obtain rfl:u=kc S:=q;refine K2 a t R b s ?_;exact DO (first:=[.ref S]) a.g9 b.mj (Ae (ae:=[.ref S]) (a:=[.a0 S]) F e f g h a (.cons rfl .nil) V)
structure xa (I:bK)(aO w:ba):Prop where
 Vk:zA I aO=ag
 Vl:jw I (.ref aO) "__init__"=D (D (.ref w))
 hO:sz I (.ref w)=ag
 mj:k_ I (.ref aO)=ag
theorem K7 {aj:dD} {Q:ar}(d:xa H.I aO w)(F:gX H.cu H.p H.I H.a6 H.bj dN C w bP aJ cx)(h:gD (C+1) H.r)(j:iC H.I bP aJ ab)(m:b9 fT ab)
  (n:ml dN H k) (c:a5 H aj l Q z) (E:b9 a ae)
  (Y:∀X bS,Q X=i->Q bS=i->bS≠X->cx (.a0 X::(a++fT)) (cq (cq Q bS (.fl X)) X (.fg aO bS [])) (λv a7=>v=.a9/\o (.a0 X) a7) k):
  bT (model H.cu H.p) H.r (call (.ref aO) ae) (kG H aj l o) H.fm z:=by
 have g:=Y (z.heap.objs.size+1) _ (c.cL.fK (oR _)) (c.cL.fK (cZ _)) (gz (wI _));have b:=a5.U_ (aO:=aO) c;have bW:b9 (aS.a0 (z.heap.objs.size+1)::(a++fT)) _:=.cons rfl (E.dE m);have p  := by
  have e:=bW.dS;rw[F.cn _ _ _ _ g]at e;exact e.symm
 refine wpAny_call (U1  c.g9 d.Vk d.Vl (beq_iff_eq.mp d.hO) (codeAny_mono (F.f7 _ _ _ _ _ _ _ _ k (h.jn aO ae [])
  (b.K5.jn aO ae []) (.inl b.tk) (j _ _ b.g9 p) bW g) λE bc f=>?_))
 cases E with
 |error e=>exact n aj l _ _ e bc b f|ok q=>
  cases q with
  |ret u=>
   obtain⟨v,ay,s,t,x,y⟩:=b.K6 f;subst x;exact⟨t,⟨aS.a0 _,ay,s,rfl,y⟩⟩
  |_=>exact fX f
theorem Vm (c:xa H.I aO w)(F:gX H.cu H.p H.I H.a6 H.bj dN C w bP aJ cx)(f:gD (C+1) H.r)(g:i6 H X)(h:H.a6 X=D (.ref aO))(j:iC H.I bP aJ ab)(m:b9 fT ab)(p:ml dN H k)
  (q:gV H (e::ax) n) (s:(X==("__debug__":Str))=aA:=by decide) (t:eH (e::ax) H.x=(aA,eval e H.x)::eH ax H.x:=by rfl) (u:(iu pos (eH ax H.x)).any (·.1)=aA:=by rfl):
  bu H (.Call (.Name X N) (e::ax) [] pos) (u1 aO cx fT k n):=by
 intro aj z l Q o b Y;exact uv (w4 b g h (DP  b.f.es.w1 c.mj (cv (q pos aj z l Q _ b Y) λae bf ⟨a,aw,d,E,V⟩=>⟨d.g9,K7 c F f j m p d E V⟩) t u) s)
theorem Vn (b:xa H.I aO w)(F:gX H.cu H.p H.I H.a6 H.bj dN C w bP aJ cx)(c:gD (C+1) H.r)(d:i6 H X)(e:H.a6 X=D (.ref aO))(f:iC H.I bP aJ ab)(g:b9 fT ab)(h:ml dN H k)
  (j:(X==("__debug__":Str))=aA:=by decide):bu H (.Call (.Name X N) [] [] pos) (u1 aO cx fT k ib):=by
 intro aj z l Q o a Y;exact uv (w4 a d e (DO a.g9 b.mj (K7 (ae:=[]) b F c f g h a .nil Y)) j)
end
structure o6 (bB P:c_)(a:Scope):Prop where
 hP:a.kind=.function
 Vo:a.isCoroutine=aA
 Vp:a.isGenerator=aA
 az:bB.Nodup
 pre:bB.take P.length=P
 K8:∀X∈P,a.names.lookup X=D .local\/a.names.lookup X=D .cell
 K9:∀q∈a.names,q.2≠.free
 kF:(!(P == u0)||P.any (λX=>a.names.lookup X == D .local))=ag
theorem o6.zip {bB P:c_}{a:Scope}{ae:dt}(c:o6 bB P a)(d:P=u0)(Y:ae.length=P.length):∃b∈P.zip ae,a.names.lookup b.1=D .local:=by
 have G:=c.kF;rw[beq_iff_eq.mpr d]at G;obtain⟨X,f,e⟩:=zl.mp (G);obtain⟨O,aE,rfl⟩:=Dz f;exact⟨_,si  (n:=O) (by rw[q1];lia),by rw[List.getElem_zip];exact eq_of_beq e⟩
theorem K_ {b:Str->Option n0}{X:Str}:∀{a:uM}{m:e2},(∀v,(X,v)∉a)->bindL b a m X=m X
 |[],_,_=>rfl|(y,v)::E,m,Y=>by
  unfold bindL;rw[K_ λp hw=>Y p (f5 _ hw)]
  split
  ·have:X≠y:=by rintro rfl;exact Y v eI
   simp[this]
  rfl
theorem La {b:Str->Option n0}{X:Str}:∀{a:uM}{m:e2},(∀v,(X,v)∉a)->bindC b a m X=m X
 |[],_,_=>rfl|(y,v)::E,m,Y=>by
  unfold bindC;rw[La λp hw=>Y p (f5 _ hw)]
  split
  ·rfl
  ·have:X≠y:=by rintro rfl;exact Y v eI
   simp[this]
theorem Lb {b:Str->Option n0}{X:Str}{v:bq}:∀{P:c_}{a:dt}{O:Nat}{m:e2},P.Nodup->P[O]?=D X->a[O]?=D v->b X=D .local ->
  bindL b (P.zip a) m X=D v
 |[],_,_,_,_,Y,_,_=>by simp at Y
 |_::_,[],_,_,_,_,Y,_=>by simp at Y
 |N::P,p::a,0,m,c,af,ai,d=>by
  simp at af ai;subst af ai;show bindL b ((N,p)::P.zip a) m N=_
  unfold bindL;rw[K_ λv e=>(q2.mp c).1 (sj e).1,if_pos d]
  simp
 |N::P,p::a,O+1,m,c,af,ai,d=>by
  unfold bindL;exact Lb  (q2.mp c).2 (by simpa using af) (by simpa using ai) d
theorem Lc {b:Str->Option n0}{X:Str}{v:bq}:∀{P:c_}{a:dt}{O:Nat}{m:e2},P.Nodup->P[O]?=D X->a[O]?=D v->b X≠D .local ->
  bindC b (P.zip a) m X=D v
 |[],_,_,_,_,Y,_,_=>by simp at Y
 |_::_,[],_,_,_,_,Y,_=>by simp at Y
 |N::P,p::a,0,m,c,af,ai,d=>by
  simp at af ai;subst af ai;show bindC b ((N,p)::P.zip a) m N=_
  unfold bindC;rw[La λv e=>(q2.mp c).1 (sj e).1,if_neg d]
  simp
 |N::P,p::a,O+1,m,c,af,ai,d=>by
  unfold bindC;exact Lc  (q2.mp c).2 (by simpa using af) (by simpa using ai) d
def nC (bB:c_)(a:bp):ck:=a.map D++gy (bB.length-a.length) i
def rf (dN:kh)(P:dk)(p:cN)(I:bK)(a6:e2)(bj:Heap)(bB:c_)(a:Str)(scope:Scope)(w:ba)(b:bq)(r:dM)(mh:mf)(z:bz)(Q:ar)(k:cg):bU where
 cu:=P
 p:=p
 I:=I
 a6:=a6
 bj:=bj
 r:=r.deeper (envOfC a scope z.heap.objs.size w b)
 bB:=bB
 jM:=z
 uR:=Q
 x:=envOfC a scope z.heap.objs.size w b
 mh:=mh
 hN:=envOfC a scope z.heap.objs.size w b::mh
 aT:=[]
 fD:=ag
 hO:=λ_=>ag
 aD:=[]
 fm:=λe bc=>bT (model P p) (r.deeper (envOfC a scope z.heap.objs.size w b)) (leaving (envOfC a scope z.heap.objs.size w b) e) (λ_ c=>dN mh Q z k e c) (λd c=>dN mh Q z k d c) bc
theorem Ex {a:Scope}{y:Nat}{X:Str}(Y:a.names.lookup X=D .cell):∃R,(cellsFrom y a.names []).lookup X=D R:=wK.mp (JZ _ y [] (.inl Y))
theorem Vq {dN:kh}{P:dk}{p:cN}{I:bK}{a6:e2}{bj:Heap}{bB aJ:c_}{h:Str}{scope:Scope}{w:ba}{j:bq}{r:dM}{l:mf}{z bf:bz}{Q:ar}{k:cg}{ae:dt}{a:bp}
  (d:o6 bB aJ scope) (x:r.handled=i) (c:rb P p I a6 bj r l z Q) (F:a.length=aJ.length) (E:b9 a ae)
  (X:InCallC z z.heap.objs.size (bindL (envOfC h scope z.heap.objs.size w j).kindOf (aJ.zip ae) λ_=>i) (cellsFrom (z.heap.objs.size+1) scope.names []) (bindC (envOfC h scope z.heap.objs.size w j).kindOf (aJ.zip ae) λ_=>i) bf) (y:0<bf.toks):
  a5 (rf dN P p I a6 bj bB h scope w j r l z Q k) [] (nC bB a) Q bf:=by
 have J:aJ.length<=bB.length:=by have:=congrArg mb d.pre;rw[l9]at this;lia
 obtain⟨af,K,rfl,o⟩:=X.done;have m:∀b:ba,b∉(rf dN P p I a6 bj bB h scope w j r l z Q k).aT:=λb G=>absurd (show b∈([]:List ba)from G) (by simp)
 refine⟨⟨c.es,d.hP,rfl,rfl,cZ _,λq G R af ai=>?_,λq f=>?_,λq R _ Y=>?_,λ_=>x,Around.frames_deeper c.frames,.inr ⟨rfl,rfl⟩,λb G=>absurd G (m b),c.c6,c.p7,λb _ _=>m b,λb G=>absurd G (m b),c.nB,c.sO,c.dr⟩,
  rfl,c.lN,iS.jm o,⟨_,X.toInCall.ns,λO q v af ai bw=>?_⟩,λq R Y=>⟨_,X.cell q R Y⟩,c.cL.fK (cZ _),λq R Y=>?_,λN g=>absurd (show N∈([]:dD)from g) (by simp),c.cL.jm o,?_,y⟩
 ·exact name_of_addr X.apart (sa af) (sa ai)
 ·have f:scope.names.lookup q=D .cell\/scope.names.lookup q=D .free:=f
  rcases f with f |f
  ·exact Ex f
  ·exact absurd rfl (d.K9 _ (sa f))
 ·exact wJ (X.above q R (sa Y))
 ·have aE:O<a.length:=by
   unfold nC at ai;by_cases aE:O<a.length
   ·exact aE
   ·rw[pV (by simpa using aE)]at ai
    rw[List.getElem?_replicate]at ai;split at ai<;>cases ai
  have A:a[O]?=D v:=by
   unfold nC at ai;rw[ux (by simpa using aE),gS]at ai
   cases e:a[O]? with
   |none=>rw[e]at ai;cases ai|some S=>rw[e]at ai;cases (ai);rfl
  obtain⟨u,s,B⟩:=E.g8 A;have g:aJ[O]?=D q:=by
   rw[<- d.pre,ze (by lia)];exact af
  have t:aJ.Nodup:=by rw[<- d.pre];exact d.az.sublist (List.take_sublist _ _)
  refine⟨u,B,?_⟩;rcases d.K8 q (qX g)with C |C
  ·exact .inl ⟨C,Lb t g s C⟩
  ·obtain⟨R,e⟩:=Ex (y:=z.heap.objs.size+1) C
   refine .inr ⟨.inl C,R,e,?_⟩;have V:=X.cell q R e;rw[Lc t g s (by show scope.names.lookup q≠_;rw[C];decide)]at V
   exact V
 ·exact c.cL.fK (wJ (X.above q R (sa Y)))
 ·unfold nC
  show _=bB.length
  rw[dm,cE,List.length_replicate];lia
theorem Ld {dN:kh}{P:dk}{p:cN}{I:bK}{a6:e2}{bj:Heap}{C:Nat}{w:ba}{name d:Str}{B:Arguments}{body:lb}{scope:Scope}{F G J K f L U:bq}{M Y:jl}
  {Z:sH}{bB aJ:c_}{cx:gW}(lk:I.lookup w=D ⟨U,Y,.func (W.fnOf name d B body scope F G J K M f L),Z⟩) (aa:p0 I f d=ag) (g:o6 bB aJ scope)
  (N:∀a Q o k,cx a Q o k->a.length=aJ.length)
  (ab:∀(r:dM) (h:mf) (z:bz) (Q:ar) (a:bp) (o:cm) (k:cg),gD C (r.deeper (envOfC d scope z.heap.objs.size w f))->cx a Q o k ->
   ∃n,mT (rf dN P p I a6 bj bB d scope w f r h z Q k) body n/\n {dx:=λ_ ay=>o .a9 ay,eT:=o} (nC bB a) Q):
  gX P p I a6 bj dN (C+1) w (W.fnOf name d B body scope F G J K M f L) aJ cx:=by
 refine⟨N,λr h z Q au ae a o k s l ac af E O=>?_⟩
 have R:=N _ _ _ _ O;have S:I.In z.heap:=l.es.w1.keeps λb A e=>(l.c6 b A e).1
 have ah:z.heap.NoLimit:=l.es.nolimit.keeps λb A e=>(l.c6 b A e).1
 have ai:∀q∈aJ.zip ae,scope.names.lookup q.1=D .local\/(scope.names.lookup q.1=D .cell/\((cellsFrom (z.heap.objs.size+1) scope.names []).lookup q.1).isSome=ag):=λ⟨y,v⟩ aj=>by
  rcases g.K8 y (sj aj).1 with V |V
  ·exact .inl V
  ·exact .inr ⟨V,JZ _ _ _ (.inl V)⟩
 refine codeAny_call_function s.depth (S _ _ lk) rfl g.Vo g.Vp rfl (W.codeRec_of S aa) (af _ _ _ _ ?_);refine Vf ac (λak=>TS g.hP (g.zip ak (E.dS.symm.trans R))) (wpAny_newFunctionEnv_cells g.hP ai λx al bf X am=>?_)
 subst al;refine⟨ah.keeps X.toInCall.keep,codeAny_func ?_⟩;obtain⟨n,an,ao⟩:=ab r h z Q a o k (s.deeper _) O;have ap:a5 (rf dN P p I a6 bj bB d scope w f r h z Q k) [] (nC bB a) Q bf:=Vq g s.gB l R E X am;refine kx (an [] bf (nC bB a) Q _ ap ao) (λas bc j=>?_) λe bc j=>j
 have T:∀{m:ck}{ay:ar}{v:aS}{u:bq},a5 (rf dN P p I a6 bj bB d scope w f r h z Q k) [] m ay bc->cw v u->o v ay->fi h P p Q z o u bc:=
  λ{m ay v u} c t V=>⟨v,ay,c.os,c.lN,c.bj,c.cL,c.tk,t,V⟩
 cases as with
 |ret u=>
  obtain⟨v,m,ay,c,t,V⟩:=j;exact T c t V
 |next=>
  obtain⟨m,ay,c,V⟩:=j;exact T (v:=aS.a9) (u:=la) c rfl V
 |brk=>
  obtain⟨_,_,_,V⟩:=j;exact fX V
 |cont=>
  obtain⟨_,_,_,V⟩:=j;exact fX V
section
variable {H:bU}{X:Str}{N pos:Pos}{e:bV}{ax:fz}{n:fY}{id T:String}{E:bp->ar->cm->Prop}
def lO (E:bp->ar->cm->Prop)(n:fY):b1:=λl Q o=>n l Q λa aw=>E a aw o
theorem Vr (c:i9 H (.builtin id) E)(d:i6 H X)(f:H.a6 X=i)(g:oO X=D (.builtin id))(h:gV H (e::ax) n)(j:X ≠ "__name__":=by decide)(k:(X==("__debug__":Str))=aA:=by decide)
  (m:eH (e::ax) H.x=(aA,eval e H.x)::eH ax H.x:=by rfl) (p:(iu pos (eH ax H.x)).any (·.1)=aA:=by rfl):bu H (.Call (.Name X N) (e::ax) [] pos) (lO E n):=by
 intro aj z l Q o b Y;refine uv (sR b d f g ?_ j k);exact SA (cv (h pos aj z l Q _ b Y) λae bf ⟨a,aw,q,bI,s⟩=>c aj bf l aw a ae o q bI s) m p
theorem Vs (c:i9 H (.type T) E)(d:i6 H X)(f:H.a6 X=i)(g:oO X=D (.type T))(h:gV H (e::ax) n)(j:X ≠ "__name__":=by decide)(k:(X==("__debug__":Str))=aA:=by decide)
  (m:eH (e::ax) H.x=(aA,eval e H.x)::eH ax H.x:=by rfl) (p:(iu pos (eH ax H.x)).any (·.1)=aA:=by rfl):bu H (.Call (.Name X N) (e::ax) [] pos) (lO E n):=by
 intro aj z l Q o b Y;refine uv (sR b d f g ?_ j k);exact wM (cv (h pos aj z l Q _ b Y) λae bf ⟨a,aw,q,bI,s⟩=>c aj bf l aw a ae o q bI s) m p
end
end L2
namespace HT
open PySem PyProof.Rows
section
open PySem.SeqAt
open PySem.AutoSeq1 (wpAny_loadPart')
open PySem.MeetsSeq PySem.MeetsSeq2 PySem.MeetsSeq3
end
section
variable {prog:dk}{p:cN}{r:dM}{k:bq->bz->Prop}{z:bz}
theorem Vt {n b:ba}(t:IsTup z.heap n a.toArray)(u:IsTup z.heap b aH.toArray)(f:a≠[])
  (af:aH=[]->o (.ref n) z) (ai:aH≠[]->o (.ref z.heap.objs.size) {z with heap:=z.heap.push {cls:=.type "tuple",data:=.seq (a++aH).toArray}})
  (v:a.length+aH.length<=cA):bT (model prog p) r (ky .Add (.ref n) (.ref b)) o k z:=by
 obtain⟨⟨cls,dy,data,g⟩,c,h,y,j⟩:=id t;obtain⟨⟨w,l,x,m⟩,d,q,d_,s⟩:=id u;simp only at h j q s;subst h j q s;have e:a.toArray++aH.toArray=(a++aH).toArray:=by simp
 by_cases hw:aH=[]
 ·exact concat_meets ⟨_,c,rfl⟩ ⟨_,d,rfl⟩ noFill_tuple_add seq_tuple_add Kn Kl (Kk _ _)
   (tuple_addW1 n b a.toArray aH.toArray y d_ dy l g m (by simpa using f) (by simp[hw])) ⟨c,d,af hw⟩
 ·refine concat_meets ⟨_,c,rfl⟩ ⟨_,d,rfl⟩ noFill_tuple_add seq_tuple_add Kn Kl (Kk _ _)
   (tuple_addW2 n b a.toArray aH.toArray y d_ dy l g m (by simpa using f) (by simpa using hw) (by rw[fa,fa];exact v)) ⟨c,d,?_⟩
  rw[e];exact ai hw
noncomputable def d3 (y t:Nat):Option Int->Nat
 |none=>t|some v=>if v<0 then(v+(y:Int)).toNat else min v.toNat y
theorem Ey (y t:Nat)(a:t<=y)(A:eR):d3 y t A<=y:=by
 cases A with
 |none=>exact a|some v=>
  show(if v<0 then(v+y).toNat else min _ y)<=y
  by_cases b:v<0
  ·grind
  rw[if_neg b];exact JQ _ _
theorem Le (v:Int)(y t:Nat):(if v<0 then max (v+(y:Int)) 0 else min v (y:Int))=((d3 y t (D v):Nat):Int):=by
 show(if v<0 then max _ 0 else min v _)=(if v<0 then(v+y).toNat else min _ y)
 lia
theorem Vu (a8 aE:eR)(y:Nat):Kc a8 aE 1 (y:Int)=(((d3 y 0 a8:Nat):Int),((d3 y y aE:Nat):Int)):=by
 refine wW ?_ ?_
 ·cases a8 with
  |none=>rfl|some v=>exact Le v y 0
 cases aE with
|none=>rfl
|some v=>exact Le v y y
theorem Vv (O h:Nat):DX (O:Int) (h:Int) 1=h-O:=by
 unfold DX;grind
theorem Lf (N:IsPart v A)(Y:o A z):bT (model prog p) r (SH v) o k z:=by
 cases N with
 |none=>exact slicePart_none Y|int O n=>exact slicePart_int Y
theorem Vw {e:ba}{a b:bq}{a8 aE:eR}{y:Nat}{o:Int×Int×Nat->bz->Prop}(f:z.heap.IsSliceOf e a b .none)(g:IsPart a a8)(h:IsPart b aE)
  (Y:o (((d3 y 0 a8:Nat):Int),1,d3 y y aE-d3 y 0 a8) z):bT (model prog p) r (SI (.ref e) (pure (y:Int))) o k z:=by
 obtain⟨j,c,l,d⟩:=id f;refine bR (bR (nZ c d (x:=a) rfl (bR (nZ c d (x:=b) rfl (bR (nZ c d (x:=.none) rfl (dQ ?_)))))));refine bR (slicePart_none ?_);refine bR (Lf g (bR (Lf h (bR (dQ ?_)))));show bT _ _ (match Kc a8 aE 1 _ with |(a8,aE)=>pure (a8,(1:Int),DX a8 aE 1)) _ _ z
 rw[Vu a8 aE y];show bT _ _ (pure _) _ _ z
 rw[Vv];exact dQ Y
theorem Vx (j:me)(O C:Nat):((fW C).filterMap λ(m:Nat)=>j[((O:Int)+(m:Int)*1).toNat]?).toArray=((j.toList.drop O).take C).toArray:=by
 have e:(λ(m:Nat)=>j[(O+(m:Int)*1).toNat]?)=λm=>j[O+m]?:=by
  funext m;have:((O:Int)+m*1).toNat=O+m:=by lia
  rw[this]
 rw[e];have:=pick_run j O C;rw[zi,(show((λX=>j[X]?)∘λX=>O+X)=λm=>j[O+m]? from rfl)]at this
 rw[this]
theorem Vy {n c:ba}{a:me}{d e:bq}{a8 aE:eR}{o:bq->bz->Prop}(b:IsTup z.heap n a)(f:z.heap.IsSliceOf c d e .none)(g:IsPart d a8)(h:IsPart e aE)
  (hw:¬(d3 a.size 0 a8=0/\d3 a.size a.size aE=a.size))
  (Y:o (.ref z.heap.objs.size) {z with heap:=z.heap.push {cls:=.type "tuple",data:=.seq ((a.toList.drop (d3 a.size 0 a8)).take (d3 a.size a.size aE-d3 a.size 0 a8)).toArray}})
  (j:a.size<=cA):bT (model prog p) r (getItem (.ref n) (.ref c)) o k z:=by
 have l:sizeOk (.seq ((a.toList.drop (d3 a.size 0 a8)).take (d3 a.size a.size aE-d3 a.size 0 a8)).toArray):=by
  show((a.toList.drop (d3 a.size 0 a8)).take (d3 a.size a.size aE-d3 a.size 0 a8)).toArray.size<=cA
  rw[fa,l9,qZ,zP];exact ka (JQ _ _) (ka (Nat.sub_le _ _) j)
 have w:d3 a.size a.size aE<=a.size:=Ey _ _ (cZ _) aE;obtain⟨q,s,t,x⟩:=id f;have u:z.TypeIs (.ref c) "slice":=⟨q,s,t⟩;unfold getItem
 try with_reducible refine wpAny_holding ?_
 first |refine bR (dQ ?_)|skip
 refine bR (wpAny_sequenceKey b.typeIs (by decide) ?_)
 refine bR (wpAny_callSpecial?_slot (name:=sE "__getitem__") b.typeIs DV
  (wpAny_call_entry DV b.typeIs entry_tuple_getitem ?_ (args_tuple_getitem _ _)))
 show bT _ _ (SM (.ref n)>>=_) _ _ z
 refine bR (tupleItemsOf_ b ?_);refine bR (wpAny_typeOf u ?_);rw[if_pos (by decide)]
 refine bR (Vw f g h ?_);have v:¬((((d3 a.size 0 a8:Nat):Int) == 0 && (1:Int) == 1 && (d3 a.size a.size aE-d3 a.size 0 a8) == a.size)=ag):=by simp_all
 show bT _ _ (if(((d3 a.size 0 a8:Nat):Int) == 0 && (1:Int) == 1 && (d3 a.size a.size aE-d3 a.size 0 a8) == a.size)=ag then _ else _) _ _ z
 rw[if_neg v,Vx];exact bR (m:=SN _) (wpAny_newObj_type (dQ ⟨_,rfl,dQ Y⟩) l)
end
end HT
namespace L2
open PySem PySem.Spec PyProof.Rows
abbrev qd:=ck->ar->(eR->ar->Prop)->Prop
def sX (H:bU)(e:oU)(n:qd):Prop:=
 ∀(aj:dD) (z:bz) (l:ck) (Q:ar) (o:eR->ar->Prop),a5 H aj l Q z->n l Q o ->
  bT (model H.cu H.p) H.r (evalPart e H.x) (λu bc=>∃A ay,a5 H aj l ay bc/\IsPart u A/\o A ay) H.fm z
def Af:qd:=λ_ Q o=>o i Q
section
variable {H:bU}{e:bV}{eC:b1}{a8 aE:oU}{iU u2:qd}{pos dI:Pos}
theorem Vz:sX H i Af:=by
 intro aj z l Q o a Y;exact dQ ⟨i,Q,a,.none,Y⟩
def n_ (H:bU)(E:aS->eR->eR->ar->cm->Prop):Prop:=
 ∀(aj:dD) (z:bz) (l:ck) (Q:ar) (X:aS) (v a b:bq) (a8 aE:eR) (c:ba) (o:cm),a5 H aj l Q z->cw X v->z.heap.IsSliceOf c a b .none->IsPart a a8->IsPart b aE->E X a8 aE Q o ->
  ∃T id,typeLookup (.type T) "__getitem__"=pure (D (.builtin id))/\z.TypeIs v T/\bT (model H.cu H.p) H.r (getItem v (.ref c)) (kG H aj l o) H.fm z
theorem n_.or {E a:aS->eR->eR->ar->cm->Prop}(Y:n_ H E)(aF:n_ H a):n_ H (λX a8 aE Q o=>E X a8 aE Q o\/a X a8 aE Q o):=by
 intro aj z l Q X v b c a8 aE d o e f g h j V;rcases V with V |V
 ·exact Y aj z l Q X v b c a8 aE d o e f g h j V
 exact aF aj z l Q X v b c a8 aE d o e f g h j V
def Ez (E:aS->eR->eR->ar->cm->Prop)(eC:b1)(iU u2:qd):b1:=λl Q o=>eC l Q λX aw=>iU l aw λs a7=>u2 l a7 λu a=>E X s u a o
theorem VA {E:aS->eR->eR->ar->cm->Prop}(h:n_ H E)(j:bu H e eC)(k:sX H a8 iU)(m:sX H aE u2):bu H (.Subscript e (.Slice a8 aE i dI) pos) (Ez E eC iU u2):=by
 intro aj z l Q o n Y;refine Subscript_ (cv (j aj z l Q _ n Y) λv bf f=>?_)
 obtain⟨X,aw,p,bI,q⟩:=f;refine wpAny_Slice (cv (k aj bf l aw _ p q) λc bo ⟨s,a7,t,w,x⟩=>cv (m aj bo l a7 _ t x) λd a f=>?_)
 obtain⟨u,g,y,A,B⟩:=f;rw[evalPart_none];refine dQ ?_;have C:a5 H aj l g {a with heap:=a.heap.push {cls:=.type "slice",data:=.fields #[c,d,.none]}}:=y.jm (a:=a.toks) λb J V=>eQ _ V
 obtain⟨T,id,F,G,I⟩:=h aj {a with heap:=a.heap.push {cls:=.type "slice",data:=.fields #[c,d,.none]}} l g X v c d s u a.heap.objs.size o C bI (Tr ..) w A B;show bT (model H.cu H.p) H.r (subscriptTail e (.Slice a8 aE i dI) v (.ref a.heap.objs.size)) (kG H aj l o) H.fm {a with heap:=a.heap.push {cls:=.type "slice",data:=.fields #[c,d,.none]}}
 exact tail_any (ops:=[.ref a.heap.objs.size,v]) G F I (by with_unfolding_all rfl)
def rg (j:bp)(a8 aE:eR):List aS:=(j.drop (HT.d3 j.length 0 a8)).take (HT.d3 j.length j.length aE-HT.d3 j.length 0 a8)
theorem Lg (j:bp)(a8 aE:eR):(rg j a8 aE).length<=j.length:=by
 unfold rg;rw[l9,qZ];lia
def Lh (I:bK):aS->eR->eR->ar->cm->Prop:=λX a8 aE Q o=>∃S j,X=.a0 S/\fL I Q S j /\
 ¬(HT.d3 j.length 0 a8=0/\HT.d3 j.length j.length aE=j.length)/\∀N,Q N=i->o (.a0 N) (cq Q N (.bb (rg j a8 aE)))
theorem VB:n_ H (Lh H.I):=by
 intro aj z l Q X v p q a8 aE s o a e f g h Y;obtain⟨S,j,rfl,k,hw,V⟩:=Y;cases e;obtain⟨m,E,d,n⟩:=a.gC k;have c:m.toArray.size=j.length:=E.dS.symm;refine⟨"tuple",_,DV.lookup,d.typeIs,?_⟩;refine HT.Vy d f g h (by rwa[c]) ?_ (by rwa[c])
 rw[c];refine⟨.a0 _,_,a.hx   (λb t V=>eQ _ V) (cZ _) ?_,rfl,V _ (a.cL.fK (cZ _))⟩
 exact⟨ka (Lg j a8 aE) n,_,(E.drop _).take _,IsTup.new _ _⟩
def Li (I:bK):ez:=λX q Q o=>∃S b j aV,X=.a0 S/\q=.a0 b/\fL I Q S j/\fL I Q b aV/\j≠[]/\j.length+aV.length<=cA /\
 (aV=[]->o (.a0 S) Q)/\(aV≠[]->∀N,Q N=i->o (.a0 N) (cq Q N (.bb (j++aV))))
theorem b9.EA (E:b9 j ae):ae=[]↔j=[]:=by
 cases E with
 |_=>simp
theorem VC:dF H (ky .Add) (Li H.I):=by
 intro aj z l Q X q v u o a c d Y;obtain⟨S,b,j,aV,rfl,rfl,e,f,g,n,h,k⟩:=Y;cases c;cases d;obtain⟨s,bI,m,_⟩:=a.gC e;obtain⟨t,bW,dI,_⟩:=a.gC f;refine HT.Vt m dI (λG=>g (bI.EA.mp G)) (λG=>⟨.a0 S,Q,a,rfl,h (bW.EA.mp G)⟩) (λG=>?_) (by rwa[<- bI.dS,<- bW.dS])
 refine⟨.a0 _,_,a.hx   (λb w V=>eQ _ V) (cZ _) ?_,rfl,k (λp=>G (bW.EA.mpr p)) _ (a.cL.fK (cZ _))⟩
 exact⟨by rwa[dm],_,bI.dE bW,IsTup.new _ _⟩
end
noncomputable def ic (y:Nat)(O:Int):Option Nat:=if 0<=O then(if O<y then D O.toNat else i)else if -(y:Int)<=O then D (O+y).toNat else i
def dW {aP:Type}(j:List aP)(O:Int):Option aP:=(ic j.length O).bind λh=>j[h]?
theorem Ag {y:Nat}{O:Int}(Y:ic y O=D h):seqIndex? O y=D h/\h<y /\ -(y:Int)<=O/\O<y:=by
 unfold ic at Y;by_cases a:0<=O
 ·rw[if_pos a]at Y
  by_cases af:O<y
  ·rw[if_pos af]at Y
   have e  := kb Y;exact⟨by rw[seqIndex_of a af,e],by lia,by lia,af⟩
  simp_all
 ·rw[if_neg a]at Y
  by_cases af : -y<=O
  ·rw[if_pos af]at Y
   have e  := kb Y;exact⟨by rw[seqIndex_neg (by lia) af,e],by lia,af,by lia⟩
  simp_all
theorem EB {aP:Type}{j:List aP}{O:Int}{v:aP}(Y:dW j O=D v):∃h,seqIndex? O j.length=D h/\j[h]?=D v/\h<j.length /\ -(j.length:Int)<=O/\O<j.length:=by
 unfold dW at Y;cases e:ic j.length O with
 |none=>simp_all|some h=>
  rw[e]at Y;obtain⟨af,ai,bw,a⟩:=Ag e;exact⟨h,af,Y,ai,bw,a⟩
def Lj (b:bV):Prop:=∀A O,subscripted b aA A O=operate [A,O] (getItem A O)
def sY (H:bU)(E:ez):Prop:=
 ∀(kL a:bV) (aj:dD) (z:bz) (l:ck) (Q:ar) (X q:aS) (v u:bq) (o:cm),a5 H aj l Q z->cw X v->cw q u->E X q Q o ->
  subscripted a aA v u=operate [v,u] (getItem v u)->bT (model H.cu H.p) H.r (subscriptTail kL a v u) (kG H aj l o) H.fm z
def o7 (H:bU)(id:String)(E:aS->bp->ar->cm->Prop):Prop:=
 ∀(aj:dD) (z:bz) (l:ck) (Q:ar) (X:aS) (j:bp) (v:bq) (ae:dt) (o:cm),a5 H aj l Q z->cw X v->b9 j ae->E X j Q o ->
  bT (model H.cu H.p) H.r (call (.builtin id) (v::ae)) (kG H aj l o) H.fm z
section
variable {H:bU}{S b:bV}{bG dr:b1}{pos:Pos}
theorem Lk {E:ez}(a:sY H E)(c:bu H S bG)(d:bu H b dr)(e:Lj b):bu H (.Subscript S b pos) (n9 E bG dr):=by
 intro aj z l Q o f Y;exact Subscript_ (z6 c d f Y λv u bo X q a7 g h j V=>a S b aj bo l a7 X q v u o g h j V (e _ _))
def VD (I:bK):ez:=λX q Q o=>∃N j O v,X=.a0 N/\q=.c O/\d1 I Q N j/\dW j O=D v/\o v Q
def VE (I:bK):ez:=λX q Q o=>∃N j O v,X=.a0 N/\q=.c O/\fL I Q N j/\dW j O=D v/\o v Q
def VF:ez:=λX q Q o=>∃G O R,X=.d G/\q=.c O/\G.length<=cA/\dW G.cps.toList O=D R/\o (.d ⟨#[R]⟩) Q
theorem VG:sY H (VD H.I):=by
 intro kL F aj z l Q X q v u o c k m Y d;obtain⟨N,j,O,G,rfl,rfl,s,t,V⟩:=Y;cases k;obtain⟨n,rfl⟩:=m;obtain⟨w,E,a,I⟩:=c.d9 s;obtain⟨h,af,ai,bw,y,A⟩:=EB t;obtain⟨p,e,B⟩:=E.g8 ai;have C:=E.dS;have J:=uZ;have f:kG H aj l o p z:=⟨G,Q,c,B,V⟩;by_cases g:0<=O
 ·have b:O.toNat=h:=by
   rw[seqIndex_of g A]at af;exact kb af
  exact item_listR a.isList g (by lia) (by rw[b];simpa using e) f d
 ·have b:(O+(w.toArray.size:Int)).toNat=h:=by
   rw[seqIndex_neg (by lia) y]at af
   rw[fa,<- C];exact kb af
  exact subscriptTail_builtinR (x:=p) a.isList.typeIs slot_list_getitem.lookup
   (wpAny_getItem_list_neg  a.isList (by lia) (by rw[fa]<;>lia) (by lia) (by rw[b];simpa using e) ⟨rfl,f⟩) d
theorem VH:sY H (VE H.I):=by
 intro kL s aj z l Q X q v u o a c d Y e;obtain⟨N,j,O,G,rfl,rfl,f,g,V⟩:=Y;cases c;obtain⟨n,rfl⟩:=d;obtain⟨t,E,b,w⟩:=a.gC f;obtain⟨h,af,ai,bw,x,y⟩:=EB g;obtain⟨p,k,m⟩:=E.g8 ai;have A:=uZ
 exact subscriptTail_builtinR  b.typeIs slot_tuple_getitem.lookup
  (getItem_tuple   b (by lia) (by lia) (by rwa[fa,<- E.dS]) (by simpa using k) ⟨rfl,⟨G,Q,a,m,V⟩⟩) e
theorem VJ:sY H VF:=by
 intro kL j aj z l Q X q v u o a b c Y d;obtain⟨G,O,R,rfl,rfl,k,e,V⟩:=Y;obtain⟨n,rfl⟩:=b;obtain⟨m,rfl⟩:=c;obtain⟨h,af,ai,bw,f,g⟩:=EB e;rw[(show G.cps.toList.length=G.length from rfl)]at af f g
 have p:=uZ;exact tail_any (typeIs_str z G n) slot_str_getitem.lookup (getItem_str  (by grind) (by rw[af];simpa using ai) ⟨.d _,Q,a.fS _,⟨_,rfl⟩,V⟩) d
theorem VK (a:dt)(y h:Nat)(u:bq):kC (·.setIfInBounds h u) {cls:=.type "list",data:=.seq a.toArray y}={cls:=.type "list",data:=.seq (a.set h u).toArray y}:=by
 simp[kC]
theorem a5.aM {aj:dD}{l:ck}{Q:ar}{z:bz}{N:ba}{j:bp}(b:a5 H aj l Q z)(Y:Q N=D (.aM j)):
  ∃(a:dt) (y:Nat),b9 j a/\z.heap.get? N=D {cls:=.type "list",data:=.seq a.toArray y}/\j.length<=cA:=by
 obtain⟨G,a,y,E,e⟩:=b.cL N _ Y;exact⟨a,y,E,e,G⟩
theorem a5.VL {aj:dD}{l:ck}{Q:ar}{z:bz}{N:ba}{j aV:bp}{d a:dt}{y c:Nat}{w:l8->l8}(g:a5 H aj l Q z)(Y:Q N=D (.aM j))
  (h:z.heap.get? N=D {cls:=.type "list",data:=.seq d.toArray y}) (f:w {cls:=.type "list",data:=.seq d.toArray y}={cls:=.type "list",data:=.seq a.toArray c}) (E:b9 aV a) (k:aV.length<=cA) (n:Nat) (m:0<n:=by fail "0"):
  a5 H aj l (cq Q N (.aM aV)) {z with heap:=z.heap.update N w,toks:=n}:=by
 have e:(z.heap.update N w).get? N=D {cls:=.type "list",data:=.seq a.toArray c}:=by
  rw[Heap.get?_update_self w h (by rw[f]<;>rfl),f]
 refine g.q9 (X:=N) (e:=N) (by rw[Y];trivial) (.inl rfl) (λb u o V=>(JK _ _ (oT o)).trans V) ⟨_,e⟩ ?_ m
 exact⟨k,a,c,E,e⟩
def VM:aS->aS->aS->ar->(ar->Prop)->Prop:=λA O v Q o=>∃N j C h,A=.a0 N/\O=.c C/\Q N=D (.aM j)/\ic j.length C=D h/\o (cq Q N (.aM (j.set h v)))
theorem VN:z2 H VM:=by
 intro aj z l Q A O v x B u o d p q s Y;obtain⟨N,j,C,h,rfl,rfl,e,t,V⟩:=Y;cases p;obtain⟨n,rfl⟩:=q;obtain⟨f,y,E,a,w⟩:=d.aM e;obtain⟨af,ai,bw,g⟩:=Ag t;have b:=E.dS;have F:=uZ;have k:=
  d.VL e a (VK f y h u) (E.set s h) (by rw[wy];exact w) z.toks
 by_cases m:0<=C
 ·have c:C.toNat=h:=by
   rw[seqIndex_of m g]at af;exact kb af
  exact W.ki_setAt a m (by lia) (by rw[fa,<- b];exact g) (by rw[c];exact⟨_,k,V⟩)
 ·have c:(C+(f.toArray.size:Int)).toNat=h:=by
   rw[seqIndex_neg (by lia) bw]at af
   rw[fa,<- b];exact kb af
  exact W.ki_setBack a (by lia) (by rw[fa,<- b];exact bw) (by lia) (by rw[c];exact⟨_,k,V⟩)
theorem VO (a8 aE:eR)(y:Nat):(sliceBounds a8 aE i y).1=((HT.d3 y 0 a8:Nat):Int)/\(sliceBounds a8 aE i y).2.1=((HT.d3 y y aE:Nat):Int)/\(sliceBounds a8 aE i y).2.2=1:=by
 refine⟨?_,?_,rfl⟩
 ·cases a8 with
  |none=>simp[sliceBounds,HT.d3]|some O=>
   simp only[sliceBounds,HT.d3,JW,show(1:Int) > 0 by decide,if_true]
   by_cases Y:O<0
   ·simp only[Y,if_true]<;>lia
   ·simp only[Y,if_false]<;>lia
 ·cases aE with
  |none=>simp[sliceBounds,HT.d3]|some O=>
   simp only[sliceBounds,HT.d3,JW,show(1:Int) > 0 by decide,if_true]
   by_cases Y:O<0
   ·simp only[Y,if_true]<;>lia
   ·simp only[Y,if_false]<;>lia
theorem VP (a:dt)(a8 aE:eR):slicePick a.toArray a8 aE i=((a.drop (HT.d3 a.length 0 a8)).take (HT.d3 a.length a.length aE-HT.d3 a.length 0 a8)).toArray:=by
 obtain⟨af,ai,bw⟩:=VO a8 aE _;unfold slicePick;rw[af,ai,bw];simp only[sliceRange_one,pick_run,fa]<;>rfl
def VQ (I:bK):aS->eR->eR->ar->cm->Prop:=λX a8 aE Q o=>∃S j,X=.a0 S/\d1 I Q S j/\∀N,Q N=i->o (.a0 N) (cq Q N (.aM (rg j a8 aE)))
theorem VR:n_ H (VQ H.I):=by
 intro aj z l Q X v n p a8 aE q o a d e f g Y;obtain⟨S,j,rfl,h,V⟩:=Y;cases d;obtain⟨s,E,c,k⟩:=a.d9 h;have m:=E.dS;refine⟨"list",_,slot_list_getitem.lookup,c.isList.typeIs,?_⟩;refine wpAny_getItem_list_slice c.isList e f g .none (by simp) ?_ (by grind)
 rw[VP,<- m];refine⟨.a0 _,_,a.hx   (λb t V=>eQ _ V) (cZ _) ?_,rfl,V _ (a.cL.fK (cZ _))⟩
 exact⟨ka (Lg j a8 aE) k,_,0,(E.drop _).take _,gK _ rfl⟩
noncomputable def gN:aS->Bool
 |.a9=>ag|.aQ _=>ag|.c _=>ag|.d _=>ag|_=>aA
noncomputable def jx:aS->aS->Bool
 |.a9,.a9=>ag|.aQ S,.aQ b=>S == b|.aQ S,.c b=>(if S then 1 else 0) == b|.c S,.aQ b=>S == (if b then 1 else 0)|.c S,.c b=>S == b|.d S,.d b=>S == b|_,_=>aA
theorem Ll {r:dM} {q X:aS}(f:cw q u)(a:cw X v)(h:gN q=ag)(g:gN X=ag):DW r z u v (jx q X):=by
 cases q with
 |a9=>
  cases f;cases X with
  |a9=>cases a;exact D5 _|aQ b=>cases a;exact SeqAt.EqAt.none_bool b|c b=>obtain⟨n,rfl⟩:=a;exact SeqAt.EqAt.none_int b n|d b=>obtain⟨n,rfl⟩:=a;exact SeqAt.EqAt.none_str b n|_=>exact absurd (show aA=ag from g) pX
 |aQ S=>
  cases f;cases X with
  |a9=>cases a;exact SeqAt.EqAt.bool_none S|aQ b=>cases a;exact SeqAt.EqAt.bool_bool S b|c b=>obtain⟨n,rfl⟩:=a;exact SeqAt.EqAt.bool_int S b n|d b=>obtain⟨n,rfl⟩:=a;exact SeqAt.EqAt.bool_str S b n|_=>exact absurd (show aA=ag from g) pX
 |c S=>
  obtain⟨e,rfl⟩:=f;cases X with
  |a9=>cases a;exact SeqAt.EqAt.int_none S e|aQ b=>cases a;exact SeqAt.EqAt.int_bool S e b|c b=>obtain⟨n,rfl⟩:=a;exact SeqAt.EqAt.int_int S e b n|d b=>obtain⟨n,rfl⟩:=a;exact Ku S e b n|_=>exact absurd (show aA=ag from g) pX
 |d S=>
  obtain⟨e,rfl⟩:=f;cases X with
  |a9=>cases a;exact SeqAt.EqAt.str_none S e|aQ b=>cases a;exact SeqAt.EqAt.str_bool S e b|c b=>obtain⟨n,rfl⟩:=a;exact Kv S e b n|d b=>obtain⟨n,rfl⟩:=a;exact SeqAt.EqAt.str_str S e b n|_=>exact absurd (show aA=ag from g) pX
 |_=>exact absurd (show aA=ag from h) pX
def oa (X:aS)(u:bq):Bool:=match u with
 |.none=>jx .a9 X|.bool b=>jx (.aQ b) X|.int O _=>jx (.c O) X|.str G _=>jx (.d G) X|_=>aA
theorem Lm {X q:aS}(E:cw q u)(w:gN q=ag):oa X u=jx q X:=by
 cases q with
 |a9=>cases (E);rfl|aQ b=>cases (E);rfl|c O=>obtain⟨n,rfl⟩:=E;rfl|d G=>obtain⟨n,rfl⟩:=E;rfl|_=>trivial
theorem xb {X:aS}:∀{j:bp}{ae:dt},b9 j ae->j.all gN=ag->ae.any (oa X)=j.any λq=>jx q X
 |_,_,.nil,_=>rfl|q::j,u::ae,.cons E n,w=>by
  rw[k9,cJ]at w;rw[zr,zr,Lm E w.1,xb n w.2]
theorem xc {r:dM} {X:aS}(b:cw X v)(c:gN X=ag):∀{j:bp}{ae:dt},b9 j ae->j.all gN=ag->∀u∈ae,DW r z u v (oa X u)
 |_,_,.nil,_=>λu a=>by cases a
 |q::j,u::ae,.cons E n,w=>λd a=>by
  rw[k9,cJ]at w;rcases dn.mp a with rfl |a
  ·rw[Lm E w.1];exact Ll E b w.1 c
  exact xc b c n w.2 d a
def mX (X:aS)(j:bp):Bool:=j.any λq=>jx q X
def Ln (I:bK)(cM:Bool):ez:=λX q Q o=>∃N j,q=.a0 N/\(d1 I Q N j\/fL I Q N j)/\gN X=ag/\j.all gN=ag/\o (.aQ (if cM then !mX X j else mX X j)) Q
theorem VS:dF H (e0 .In) (Ln H.I aA):=by
 intro aj z l Q X q v u o c e g Y;obtain⟨N,j,rfl,a,f,au,V⟩:=Y;cases g;rcases a with a |a
 ·obtain⟨b,E,d,h⟩:=c.d9 a
  refine SeqAt.in_listAt _ d.isList (λp hw=>xc e f E au p (by simpa using hw)) ⟨.aQ _,Q,c,rfl,?_⟩
  rwa[show b.toArray.any (oa X)=b.any (oa X) by simp,xb E au]
 ·obtain⟨b,E,d,h⟩:=c.gC a
  refine SeqAt.in_tupleAt _ d (λp hw=>xc e f E au p (by simpa using hw)) ⟨.aQ _,Q,c,rfl,?_⟩
  rwa[show b.toArray.any (oa X)=b.any (oa X) by simp,xb E au]
theorem VT:dF H (e0 .NotIn) (Ln H.I ag):=by
 intro aj z l Q X q v u o c e g Y;obtain⟨N,j,rfl,a,f,au,V⟩:=Y;cases g;rcases a with a |a
 ·obtain⟨b,E,d,h⟩:=c.d9 a
  refine SeqAt.notIn_listAt _ d.isList (λp hw=>xc e f E au p (by simpa using hw)) ⟨.aQ _,Q,c,rfl,?_⟩
  rwa[show b.toArray.any (oa X)=b.any (oa X) by simp,xb E au]
 ·obtain⟨b,E,d,h⟩:=c.gC a
  refine SeqAt.notIn_tupleAt _ d (λp hw=>xc e f E au p (by simpa using hw)) ⟨.aQ _,Q,c,rfl,?_⟩
  rwa[show b.toArray.any (oa X)=b.any (oa X) by simp,xb E au]
theorem VU:i9 H (.builtin "len") (λj Q o=>∃N aV,j=[.a0 N]/\(d1 H.I Q N aV\/fL H.I Q N aV)/\o (.c aV.length) Q):=by
 intro aj z l Q j ae o b E Y;obtain⟨N,aV,rfl,a,V⟩:=Y;obtain⟨u,rfl,f⟩:=mV E;cases f;have k:=uZ;rcases a with a |a
 ·obtain⟨g,c,d,h⟩:=b.d9 a
  have e:=c.dS;exact Calls.call_len_list d.isList (by simp only[fa]<;>lia) ⟨.c _,Q,b.fS _,⟨z.toks+1,by rw[fa,e]⟩,V⟩
 ·obtain⟨g,c,d,h⟩:=b.gC a
  have e:=c.dS;exact len_tuple d (by simp only[fa]<;>lia) ⟨.c _,Q,b.fS _,⟨z.toks+1,by rw[fa,e]⟩,V⟩
theorem VV:i9 H (.builtin "len") (λj Q o=>∃G,j=[.d G]/\G.length<=cA/\o (.c G.length) Q):=by
 intro aj z l Q j ae o a E Y;obtain⟨G,rfl,b,V⟩:=Y;obtain⟨u,rfl,n,rfl⟩:=mV E;have c:=uZ;exact len_str (by lia) ⟨.c _,Q,a.fS _,⟨_,rfl⟩,V⟩
theorem VW:i9 H (.type "list") (λj Q o=>∃N aV,j=[.a0 N]/\(d1 H.I Q N aV\/fL H.I Q N aV)/\∀s,Q s=i->o (.a0 s) (cq Q s (.aM aV))):=by
 intro aj z l Q j ae o g E Y;obtain⟨N,aV,rfl,d,V⟩:=Y;obtain⟨u,rfl,q⟩:=mV E;cases q
 have p:∀(a:dt),b9 aV a->aV.length<=cA->∀(aF:Heap) (cS:Nat),(∀b b3,z.heap.get? b=D b3->aF.get? b=D b3) ->
   aF.get? _=D _->kG H aj l o _ _:=λa c f aF cS t e=>
  ⟨.a0 _,_,g.hx  t (cZ _) (show ix _ _ _ aF _ (.aM aV)from⟨f,a,cS,c,e⟩),rfl,V _ (g.cL.fK (cZ _))⟩
 rcases d with d |d
 ·obtain⟨a,c,h,f⟩:=g.d9 d
  have v:=c.dS;obtain⟨A,k,m,y,n⟩:=h.isList;exact call_list_seq N (.inl rfl) k m n (p a c f) (by simp only[fa]<;>lia)
 ·obtain⟨a,c,h,f⟩:=g.gC d
  have v:=c.dS;obtain⟨A,k,m,y,n⟩:=h;exact call_list_seq N (.inr rfl) k m n (p a c f) (by simp only[fa]<;>lia)
def Ah (I:bK)(T:String)(X:aS)(Q:ar):Prop:=match X with
 |.d _=>T="str"|.c _=>T="int"| .a0 N=>(T="list" /\ ∃j,d1 I Q N j)\/(T="tuple" /\ ∃A,I.lookup N=D A/\A.cls=.type "tuple" /\ A.dict=i) \/
   (T="dict" /\ ((∃bl,Q N=D (.eN bl))\/∃bl,Q N=D (.mg bl)))\/(T="set" /\ ∃a y,Q N=D (.set a y))
 |_=>False
theorem Lo {aj:dD} {Q:ar} {X:aS}(b:a5 H aj l Q z)(E:cw X v)(gd:Ah H.I T X Q):
  z.TypeIs v T/\∀S,v=.ref S->∃g,z.heap.get? S=D g/\g.dict=i:=by
 cases X with
 |d G=>
  obtain⟨n,rfl⟩:=E;cases(show T="str" from gd)
  exact⟨typeIs_str z G n,λ_ e=>nomatch e⟩
 |c O=>
  obtain⟨n,rfl⟩:=E;cases(show T="int" from gd)
  exact⟨typeIs_int z O n,λ_ e=>nomatch e⟩
 |a0 N=>
  cases E;rcases gd with⟨rfl,j,k⟩|⟨rfl,A,a,m,f⟩|⟨rfl,a⟩|⟨rfl,o,y,a⟩
  ·obtain⟨p,_,h,_⟩:=b.d9 k
   refine⟨h.isList.typeIs,λS e=>?_⟩
   cases e;obtain⟨A,y,e,R,f,_⟩:=h;exact⟨A,e,f⟩
  ·refine⟨⟨A,b.g9 N A a,m⟩,λS e=>?_⟩
   cases e;exact⟨A,b.g9 _ A a,f⟩
  ·have G:∃A,z.heap.get? N=D A/\A.ExactDict:=by
    rcases a with⟨bl,a⟩|⟨bl,a⟩
    ·obtain⟨_,_,_,_,A,_,_,e,aT,_⟩:=b.cL N _ a
     exact⟨A,e,aT⟩
    ·obtain⟨_,_,_,_,A,_,_,e,aT,_⟩:=b.cL N _ a
     exact⟨A,e,aT⟩
   obtain⟨A,e,aT⟩:=G;refine⟨⟨A,e,aT.1⟩,λS aB=>?_⟩
   cases aB;exact⟨A,e,aT.2.1⟩
  ·obtain⟨A,_,_,_,e,aT,_⟩:=b.cL N _ a
   refine⟨⟨A,e,aT.1⟩,λS aB=>?_⟩
   cases aB;exact⟨A,e,aT.2.1⟩
 |_=>exact fX gd
def Ai (I:bK)(T:String)(E:aS->bp->ar->cm->Prop)(to:b1):b1:=λl Q o=>to l Q λX aw=>Ah I T X aw/\E X [] aw o
def qe (I:bK)(T:String)(E:aS->bp->ar->cm->Prop)(to:b1)(n:fY):b1:=λl Q o=>to l Q λX aw=>Ah I T X aw/\n l aw λj a7=>E X j a7 o
variable {A e:bV}{ax:fz}{to:b1}{n:fY}{name:Str}{fE ie:Pos}{T id:String}{E:aS->bp->ar->cm->Prop}
theorem EC (b:PlainAttrs T)(c:Slot T name id)(d:typeOf (.builtin id)=pure (.type "method_descriptor"))(e:o7 H id E)(f:bu H A to)
  (g:attributeBase A name H.x (eval A H.x)=eval A H.x:=by rfl) (h:(fE.endLine == ie.line)=ag:=by rfl):bu H (.Call (.Attribute A name fE) [] [] ie) (Ai H.I T E to):=by
 intro aj z l Q o j Y;refine wpAny_Call_method0_late g h (cv (f aj z l Q _ j Y) λv bf k=>?_)
 obtain⟨X,aw,a,bI,gd,m⟩:=k;obtain⟨af,ai⟩:=Lo a bI gd;exact⟨T,id,b,c,d,af,ai,Calls.callWith_builtin rfl (PySem.evalArgs_none (e aj bf l aw X [] v [] o a bI .nil m))⟩
theorem Aj (d:PlainAttrs T)(f:Slot T name id)(g:typeOf (.builtin id)=pure (.type "method_descriptor"))(h:o7 H id E)(j:bu H A to)(k:gV H (e::ax) n)
  (m:attributeBase A name H.x (eval A H.x)=eval A H.x:=by rfl)
  (p:((iu ie (eH (e::ax) H.x)).all (λX=>!X.1) && (pU ie (pT [] H.x)).all (λX=>X.1.isSome)
   && decide ((e::ax).length+([]:List Keyword).length+(if([]:List Keyword).isEmpty then 0 else 1)<30))=ag:=by rfl)
  (q:(fE.endLine == ie.line)=ag:=by rfl) (s:eH (e::ax) H.x=(aA,eval e H.x)::eH ax H.x:=by rfl) (B:(iu ie (eH ax H.x)).any (·.1)=aA:=by rfl):
  bu H (.Call (.Attribute A name fE) (e::ax) [] ie) (qe H.I T E to n):=by
 intro aj z l Q o t Y;refine wpAny_Call_method_late m p q rfl (cv (j aj z l Q _ t Y) λv bf u=>?_)
 obtain⟨X,aw,b,bI,gd,w⟩:=u;obtain⟨af,ai⟩:=Lo b bI gd;refine⟨T,id,d,f,g,af,ai,?_⟩;have c:=k ie aj bf l aw _ b w;rw[s]at c ⊢;exact Calls.callWith_builtin (by assumption) (Calls.evalArgs_plain (cv c λae bo ⟨a,a7,x,bW,y⟩=>h aj bo l a7 X a v ae o x bI bW y))
end
def ED (H:bU)(id:String)(E:aS->bp->ar->cm->Prop):Prop:=
 ∀(aj:dD) (z:bz) (l:ck) (Q:ar) (X:aS) (j:bp) (v:bq) (ae:dt) (o:cm),a5 H aj l Q z->cw X v->b9 j ae->E X j Q o ->
  bT (model H.cu H.p) H.r (call (.builtin id) (v::ae)) (kG H aj l o) H.fm z
theorem b9.cW:∀{X:aS}{ae:dt},b9 [X] ae->∃u,ae=[u]/\cw X u
 |_,_,.cons E .nil=>⟨_,rfl,E⟩
theorem b9.dropLast (Y:b9 j ae):b9 j.dropLast ae.dropLast:=by
 induction Y with
 |nil=>exact .nil|cons E n a=>
  cases n with
  |nil=>exact .nil|cons V b=>exact .cons E a
theorem b9.eraseIdx:∀{j:bp}{ae:dt}(O:Nat),b9 j ae->b9 (j.eraseIdx O) (ae.eraseIdx O)
 |_,_,_,.nil=>.nil|_,_,0,.cons _ n=>n|_,_,O+1,.cons E n=>.cons E (b9.eraseIdx O n)
theorem b9.Ak (Y:b9 j ae):∀C:Nat,b9 (gy C j).flatten (gy C ae).flatten
 |0=>.nil|C+1=>b9.dE Y (b9.Ak Y C)
theorem Lp:∀(s:List aP) (O:Nat),(s.eraseIdx O).length<=s.length
 |[],_=>cZ _|_::_,0=>oR _|_::E,O+1=>Nat.succ_le_succ (Lp E O)
theorem Lq (a:dt):∀(C:Nat) (bA:dt),
  zt (λx1 x2=>x1++x2) bA.toArray (gy C a.toArray)=(bA++(gy C a).flatten).toArray
 |0,bA=>by simp
 |C+1,bA=>by
  have aB:(bA++a)++(gy C a).flatten=bA++(gy (C+1) a).flatten:=by
   rw[DA,Ju,n1]
  rw[<- aB,<- Lq a C _,<- (show bA.toArray++a.toArray=(bA++a).toArray by simp),DA,Jz]
section
variable {H:bU}{aj:dD}{l:ck}{Q:ar}{z:bz}{s:ba}{j aV:bp}
theorem a5.EE {b a:dt}{y:Nat}{w:me->me}{c:Nat}(d:a5 H aj l Q z)(f:Q s=D (.aM j))
  (e:z.heap.get? s=D {cls:=.type "list",data:=.seq b.toArray y}) (g:w b.toArray=a.toArray) (h:b9 aV a) (k:aV.length<=cA) (m:0<c:=by fail "0"):
  a5 H aj l (cq Q s (.aM aV)) {z with heap:=z.heap.update s (kC w),toks:=c}:=by
 have V:=PySem.IsL.update e w;rw[g]at V;exact d.q9   (by rw[f];exact trivial) (.inl rfl) (λp u n o=>(JK _ _ (oT n)).trans o) ⟨_,V⟩ ⟨k,a,_,h,V⟩ m
theorem a5.Lr {a:Nat}(b:a5 H aj l Q z)(c:b9 aV γ)(d:aV.length<=cA)(e:0<a:=by fail "0"):
  a5 H aj l (cq Q z.heap.objs.size (.aM aV)) {z with heap:=z.heap.push {cls:=.type "list",data:=.seq γ.toArray},toks:=a}:=
 b.hx (λ_ _ V=>eQ _ V) (cZ _) ⟨d,γ,0,c,gK _ rfl⟩ e
theorem a5.fK (a:a5 H aj l Q z):Q z.heap.objs.size=i:=a.cL.fK (cZ _)
theorem a5.sZ (b:a5 H aj l Q z)(c:Q s=D (.aM j)):j.length<=cA/\∃(a:dt) (y:Nat),b9 j a/\j.length=a.length/\z.heap.get? s=D {cls:=.type "list",data:=.seq a.toArray y}:=by
 obtain⟨G,a,y,E,e⟩:=b.cL s _ c;exact⟨G,a,y,E,E.dS,e⟩
theorem Ls {y:Nat}(Y:y<=cA):DZ y=aA:=decide_eq_false (by lia)
end
section
variable {H:bU}
def EF:aS->bp->ar->cm->Prop:=λX a Q o=>∃s j q,X=.a0 s/\a=[q]/\Q s=D (.aM j)/\j.length<cA/\o .a9 (cq Q s (.aM (j++[q])))
theorem EG:ED H "list.append" EF:=by
 intro aj z l Q X a v ae o b d f Y;obtain⟨s,j,q,rfl,rfl,c,h,V⟩:=Y;cases d;obtain⟨u,rfl,g⟩:=f.cW;obtain⟨G,k,y,E,m,e⟩:=b.sZ c;refine call_meets F.slot_list_append ⟨_,e,rfl⟩ F.entry_list_append (F.args_list_append_2 _ _) (PySem.list_append s _ y u (by rw[fa];lia)) ⟨e,?_⟩
 refine⟨.a9,_,b.EE  c e (by simp) (E.dE (.cons g .nil)) ?_,rfl,V⟩
 rw[dm,oP];lia
def EH:aS->bp->ar->cm->Prop:=λX a Q o=>∃s b j c,X=.a0 s/\a=[.a0 b]/\Q s=D (.aM j)/\Q b=D (.aM c)/\j.length+c.length<=cA/\o .a9 (cq Q s (.aM (j++c)))
theorem Lu:ED H "list.extend" EH:=by
 intro aj z l Q X a v ae o c h k Y;obtain⟨s,b,j,t,rfl,rfl,f,m,w,V⟩:=Y;cases h;obtain⟨u,rfl,n⟩:=k.cW;cases n;obtain⟨G,d,y,E,x,e⟩:=c.sZ f;obtain⟨A,g,d_,bW,B,aB⟩:=c.sZ m;have p:d.toArray.size+g.toArray.size<=cA:=by grind
 have q:¬(!d.toArray.isEmpty && DZ (d.toArray.size+g.toArray.size))=ag:=by
  rw[Ls p,uD];exact pX
 refine call_meets F.slot_list_extend ⟨_,e,rfl⟩ F.entry_list_extend (F.args_list_extend_2 _ _)
  (AutoSeq1.list_extend_list_list_0 s _ y b _ d_ q (by grind) (by lia)) ⟨e,aB,?_⟩
 refine⟨.a9,_,c.EE  f e (by simp) (E.dE bW) ?_,rfl,V⟩
 rw[dm];lia
def EI:aS->bp->ar->cm->Prop:=λX a Q o=>∃s j O C q,X=.a0 s/\a=[.c O]/\Q s=D (.aM j) /\ -(2 ^ 63)<=O/\O<2 ^ 63/\seqIndex? O j.length=D C/\j[C]?=D q/\o q (cq Q s (.aM (j.eraseIdx C)))
theorem Lv:ED H "list.pop" EI:=by
 intro aj z l Q X a v ae o b d f Y;obtain⟨s,j,O,C,q,rfl,rfl,c,af,ai,t,g,V⟩:=Y;cases d;obtain⟨u,rfl,h⟩:=f.cW;obtain⟨n,rfl⟩:=h;obtain⟨G,w,y,E,k,e⟩:=b.sZ c;obtain⟨p,hw,m⟩:=E.g8 g
 refine call_meets F.slot_list_pop ⟨_,e,rfl⟩ F.entry_list_pop (F.args_list_pop_2 _ _)
  (MeetsSeq.list_pop_at s _ y O n C p (fitsIndex_both af ai) (by rwa[fa,<- k]) (by simp_all) (by rw[fa];lia)) ⟨e,?_⟩
 refine⟨q,_,b.EE  c e ?_ (E.eraseIdx C) ?_,m,V⟩
 ·simp_all
 ·have:=Lp j C
  lia
def VX:ez:=λX q Q o=>∃s b j a,X=.a0 s/\q=.a0 b/\Q s=D (.aM j)/\Q b=D (.aM a)/\j.length+a.length<=cA/\∀N,Q N=i->o (.a0 N) (cq Q N (.aM (j++a)))
theorem VY:dF H (ky .Add) VX:=by
 intro aj z l Q X q v u o a f g Y;obtain⟨s,b,j,m,rfl,rfl,h,k,n,V⟩:=Y;cases f;cases g;obtain⟨G,c,y,E,p,e⟩:=a.sZ h;obtain⟨t,d,d_,bW,w,aB⟩:=a.sZ k;refine PySem.P.add_list e aB ?_ (by simp_all)
 rw[(show c.toArray++d.toArray=(c++d).toArray by simp)]
 exact⟨.a0 _,_,a.Lr  (E.dE bW) (by rw[dm];lia),rfl,V _ a.fK⟩
def VZ:ez:=λX q Q o=>∃s C j,X=.a0 s/\q=.c C/\Q s=D (.aM j) /\ -(2 ^ 63)<=C/\C<2 ^ 63/\j.length*C.toNat<=cA /\
 ∀N,Q N=i->o (.a0 N) (cq Q N (.aM (gy C.toNat j).flatten))
theorem Lw (j:List aP)(C:Nat):(gy C j).flatten.length=C*j.length:=by simp_all
theorem V0:dF H (ky .Mult) VZ:=by
 intro aj z l Q X q v u o b d f Y;obtain⟨s,C,j,rfl,rfl,g,af,ai,c,V⟩:=Y;cases d;obtain⟨n,rfl⟩:=f;obtain⟨G,a,y,E,h,e⟩:=b.sZ g;have k:a.toArray.size*C.toNat<=cA:=by rw[fa,<- h];exact c
 have p:¬a.toArray.size*C.toNat > (2 ^ 63-1) / 8:=by
  have:(cA:Nat)<=(2 ^ 63-1) / 8:=by decide
  lia
 have t:¬(!Builtin.List.listFitsIndex C)=ag:=by
  rw[fitsIndex_both af ai];exact pX
 have w:¬DZ (a.toArray.size*C.toNat)=ag:=by
  rw[Ls k];exact pX
 have x:zt (λx1 x2=>x1++x2) #[] (gy (if a.toArray.isEmpty=ag then 0 else C.toNat) a.toArray)=(gy C.toNat a).flatten.toArray:=by
  have A  := λm=>by
   have:=Lq a m [];rw[wC]at this;exact this
  rw[A];cases a with
  |nil=>simp|cons S B=>rw[if_neg (by simp)]
 refine wpAny_binaryOp_repeat_ref (T:="list") (U:="int") (by decide) ⟨_,e,rfl⟩ (λbc=>typeIs_int bc C n) noFill_list_mul F.fills_int_mul Ks repeat_list F.slot_int_index.lookup
  (call_meets Ks (typeIs_int z C n) F.entry_int_rmul (F.args_int_rmul_2 _ _) (int___rmul___int_list C n s a.toArray y)
   ⟨e,rfl,⟨_,e,rfl⟩,call_meets F.slot_list_mul ⟨_,e,rfl⟩ F.entry_list_mul (F.args_list_mul_2 _ _) (AutoListH.list___mul___list_int_3 s a.toArray y C n t p w) ⟨e,?_⟩⟩)
 rw[x];exact⟨.a0 _,_,b.Lr (a:=z.toks) (E.Ak C.toNat) (by rw[Lw,JS];exact c),rfl,V _ b.fK⟩
end
end L2
namespace Att
open PySem PySem.W PySem.Calls PyProof.Rows
theorem V1 {P:Params}{Y:Heap}:∀(c:eM) (a:dt),WellAll P Y a (c.map WData.int)->IntsAre a c:=by
 intro c;induction c with
 |nil=>
  intro a p;cases p;exact .nil
 |cons y c d=>
  intro a p;cases p with
  |cons S b=>
   cases S;exact .cons _ _ (d _ b)
theorem V2 {s:OpenLaw}{y:Nat}(e:s.most=D y){P:Params}{Y:Heap}
  (d:s.row.toRowW.claim.pre args=ag) (f:WellAll P Y vals args):
  ∃S a b,vals=[kc S]/\args=[WData.list (b.map WData.int)]/\Y.get? S=D {cls:=.type "list",data:=.seq a.toArray}/\IntsAre a b/\b.length<=y:=by
 have g:WShape.hasAll [] args [.list _]=ag:=(pre_splitW d).1;have h:s.pre.holds [] _=ag:=(pre_splitW d).2;obtain⟨t,E,rfl,af,ai⟩:=hasAllW_cons g;obtain rfl:=hasAllW_nil ai;obtain⟨j,rfl,bw⟩:=hasW_list af;obtain⟨b,rfl⟩:=items_int bw;have k:b.length<=y:=by
  have c  := by
   have c:=(holds_andW h).1;rwa[e]at c
  have p:=condW_of c (w_not (w_lt w_lit (w_len_list (w_arg rfl))));simp_all
 cases f with
 |cons l m=>
  cases m;cases l with
  |list n o=>exact⟨_,_,b,rfl,rfl,n,V1 b _ o,k⟩
theorem V3 (s:OpenLaw)(a:List WData):s.row.toRowW.claim.post a (.bool ag) a=ag:=
 postW_of
  (by rfl)
  (w_eq_bool (w_res rfl) w_lit) rfl
end Att
namespace L2
open PySem PySem.Spec PyProof.Rows
theorem u3:∀{a:dt}{b:eM},IntsAre a b->b9 (b.map aS.c) a
 |_,_,.nil=>.nil|_,_,.cons y n Y=>.cons ⟨n,rfl⟩ (u3 Y)
def EJ (Q:ar):Prop:=∀b,Q b=i\/(∃A j,Q b=D (.iw A (.aM j)))\/∃N V,Q b=D (.nz N V)
theorem V4 {P:dk}{p:cN}{I:bK}{a6 J:e2}{dN:kh}{C:Nat}{hS S:ba}{bP:i4}{X:Str}{cx:gW}{c:bz}{a:dt}{o:eM}
  (W:I.In c.heap) (Z:c.heap.Ns ft a6) (f:c.heap.Ns builtinsNs J) (an:∀X:Str,X ≠ "__name__" -> J X=oO X) (ao:c.heap.NoLimit) (ap:∃k g,a6 "__builtins__"=D (.ref k)/\k≠builtinsNs/\c.heap.get? k=D g/\g.cls=.type "module" /\ g.dict=D builtinsNs/\g.data=.plain) (as:c.gens=#[])
  (l:c.heap.get? S=D {cls:=.type "list",data:=.seq a.toArray}) (aE:IntsAre a o) (aa:o.length<=cA) (au:gD C callerA) (av:[X]=u0)
  (F:∀bj:Heap,I.In bj->bj.Ns ft a6->gX P p I a6 bj dN C hS bP [X] cx) (aw:∀(z:bz) (u:bq),BindsTo z bP ⟨[u],[]⟩ [(X,u)])
  (az:∀Q:ar,EJ Q->d1 I Q S (o.map aS.c)->cx [.a0 S] Q (λv _=>v=.aQ ag) λ_ _ _=>False)
  (aC:∀Q e bc,dN [] Q c (λ_ _ _=>False) e bc->False)
  (n:∀h pos V,p5 I=D (h,pos,V)->I.lookup h=i/\isCodeTable c.heap h/\c.heap.get? h=D {cls:=.none,data:=.fields #[]}):
  codeAny (model P p) callerA (.call (.ref hS) ⟨[.ref S],[]⟩) (λE bc=>E=.ok (.ret (.bool ag))/\OldK c.heap bc.heap/\bc.os=c.os/\AllBare bc.gens) c:=by
 have ab:=u3 aE;have aD:=aE.length
 have ac:∀Q:ar,EJ Q->d1 I Q S (o.map aS.c)->gA P p Q c.heap->w0 I Q->(∀b,Q b≠i->b=S\/∃N V,p5 I=D (b,N,V))->(Q S≠i->I.lookup S=i) ->
   codeAny (model P p) callerA (.call (.ref hS) ⟨[.ref S],[]⟩) (λE bc=>E=.ok (.ret (.bool ag))/\OldK c.heap bc.heap/\bc.os=c.os/\AllBare bc.gens) c:=by
  intro Q ae aF K aG x aH;have L:∀{b:ba}{A:l8},c.heap.get? b=D A->Q b=i->(p4 c.heap Q).get? b=D A:=λe y=>TL e y
  have aI:∀{b:ba}{A:l8}{ax:Array DictEntry}{q:Nat},c.heap.get? b=D A->A.data=.dict ax q->Q b=i:=λ{b A ax q} e t=>by
   cases V:Q b with
   |none=>rfl|some u=>
    rcases x b (by rw[V];simp)with d |⟨fh,dq,d⟩
    ·subst d
     rw[l]at e;cases e;have eh:Data.seq a.toArray _=Data.dict ax q:=t;cases eh
    ·have G:=(n _ _ _ d).2.2
     rw[G]at e;cases e;cases t
  have B:∀{b:ba}{m:e2},c.heap.Ns b m->(p4 c.heap Q).Ns b m:=λ{b m} ⟨A,ax,q,e,t,E⟩=>⟨A,ax,q,L e (aI e t),t,E⟩
  have ah:I.In (p4 c.heap Q):=λb A e=>L (W b A e) (by
   cases V:Q b with
   |none=>rfl|some u=>
    rcases x b (by rw[V];simp)with d |⟨fh,dq,d⟩
    ·subst d
     rw[aH (by rw[V];simp)]at e;cases e
    ·rw[(n _ _ _ d).1]at e;cases e)
  have aK:Mod I a6 (p4 c.heap Q):=⟨ah,B Z,⟨J,B f,an⟩,let⟨aL,af,ai⟩:=ao;⟨aL,B af,ai⟩,by
   obtain⟨k,g,lP,ki,s,M,aM,aO⟩:=ap;refine⟨k,g,lP,ki,L s ?_,M,aM,aO⟩;cases V:Q k with
   |none=>rfl|some u=>
    rcases x k (by rw[V];simp)with d |⟨fh,dq,d⟩
    ·subst d
     rw[l]at s;cases s;have G:p2 "list"=p2 "module":=M;injection G with G;exact absurd G (by decide)
    ·have G:=(n _ _ _ d).2.2
     rw[G]at s;cases s;cases M⟩
  have aP:rb P p I a6 (p4 c.heap Q) callerA [] c Q:=⟨rfl,aK,λb A e=>TM e,uF (TK _ _),trivial,λb f=>absurd (show b∈([]:List ba)from f) (by simp),K,.of_eq as,aG⟩
  refine codeAny_mono ((F _ ah (B Z)).f7 callerA [] c Q ⟨[.ref S],[]⟩ [.ref S] [.a0 S] _ _ au aP (.inr av) (aw c (.ref S)) (.cons rfl .nil) (az Q ae aF)) λE bc Y=>?_
  cases E with
  |error e=>exact(aC Q e bc Y).elim|ok aQ=>
   cases aQ with
   |next=>exact fX Y|brk=>exact fX Y|cont=>exact fX Y|ret u=>
    obtain⟨v,ay,aT,aU,O,aj,_,aV,V⟩:=Y;have dq:v=.aQ ag:=V;subst dq;obtain rfl:u=sC ag:=aV;have ak:∀b A,c.heap.get? b=D A->asItWas c.heap bc.heap b A/\∃b3,bc.heap.get? b=D b3:=λb A e=>by
     cases V:Q b with
     |none=>
      have G:=O.fb b A e V (by intro G;exact absurd (show b∈([]:List ba)from G) (by simp)) (by simp)
      exact⟨.inl G,_,G⟩
     |some u=>
      rcases ae b with G |⟨g,j,G⟩|⟨fh,dq,G⟩
      ·rw[V]at G;cases G
      ·have aW:=O.sM b g _ G
       obtain⟨aR,_⟩:=K b _ G;obtain⟨aB,_⟩:=aj b _ aW;rw[e]at aR;cases aR;exact⟨.inl aB,_,aB⟩
      ·obtain⟨aJ,aB,_⟩:=aj b _ (O.ra b fh dq G)
       rcases x b (by rw[V];simp)with d |⟨aZ,a0,d⟩
       ·subst d
        obtain⟨a1,w,_⟩:=K b _ G;rw[l]at w;cases w
       ·obtain⟨_,aX,w⟩:=n _ _ _ d
        rw[e]at w;cases w;exact⟨.inr (.inl ⟨aX,rfl,#[],aJ,rfl,by rw[Array.empty_append];exact aB⟩),_,aB⟩
    exact⟨rfl,⟨λb A e=>(ak b A e).1,λb A e=>(ak b A e).2⟩,aT,aU⟩
 obtain⟨T,eJ,cR,al⟩:∃T:ar,w0 I T/\(∀b u,T b=D u->∃N V,p5 I=D (b,N,V)/\u=.nz N V)/\T S=i:=by
  cases R:p5 I with
  |none=>exact⟨λ_=>i,λ_ _ _ e=>(by rw[R]at e;cases e),λ_ _ e=>(by cases e),rfl⟩|some G=>
   obtain⟨h,pos,V⟩:=G;have aY:S≠h:=λG=>by
    have e:=(n _ _ _ R).2.2;rw[<- G,l]at e;cases e
   refine⟨λb=>if b=h then D (.nz pos V)else i,λ_ _ _ e=>(by rw[R]at e;cases e;exact if_pos rfl),λb u e=>?_,if_neg aY⟩
   by_cases f:b=h
   ·have d:=(if_pos f).symm.trans e
    cases d;exact⟨pos,V,by rw[f],rfl⟩
   ·have d:=(if_neg f).symm.trans e
    cases d
 have am:∀(Q:ar) b N V,p5 I=D (b,N,V)->ix P p Q c.heap b (.nz N V):=λQ b N V e=>
  ⟨#[],(n _ _ _ e).2.2,mQ,λa2 G=>by cases G⟩
 cases U:I.lookup S with
 |some A=>
  have e:=W S A U;rw[l]at e;cases e;refine ac T (λb=>?_) (.inr ⟨_,a.toArray,_,U,rfl,rfl,rfl,by rw[fa,aD];exact aa,by simpa using ab⟩) (λb u G=>?_) eJ (λb G=>?_) λG=>absurd al G
  ·cases V:T b with
   |none=>exact .inl rfl|some u=>obtain⟨fh,dq,_,rfl⟩:=cR b u V;exact .inr (.inr ⟨fh,dq,rfl⟩)
  ·obtain⟨fh,dq,aR,rfl⟩:=cR b u G;exact am _ _ _ _ aR
  ·cases V:T b with
   |none=>exact absurd V G|some u=>obtain⟨fh,dq,aR,rfl⟩:=cR b u V;exact .inr ⟨fh,dq,aR⟩
 |none=>
  refine ac (cq T S (.iw {cls:=.type "list",data:=.seq a.toArray} (.aM (o.map aS.c)))) (λb=>?_) (.inl (.inr ⟨{cls:=.type "list",data:=.seq a.toArray},jL⟩)) (λb u G=>?_) (λfh pos V e=>?_) (λb G=>?_) λ_=>U
  ·by_cases f:b=S
   ·rw[f];exact .inr (.inl ⟨_,_,jL⟩)
   ·rw[f6 f]
    cases V:T b with
    |none=>exact .inl rfl|some u=>obtain⟨fh,dq,_,rfl⟩:=cR b u V;exact .inr (.inr ⟨fh,dq,rfl⟩)
  ·by_cases f:b=S
   ·subst f
    rw[jL]at G;cases G;exact⟨l,by rw[cE];exact aa,a,_,ab,l⟩
   ·rw[f6 f]at G
    obtain⟨fh,dq,aR,rfl⟩:=cR b u G;exact am _ _ _ _ aR
  ·have G:=eJ fh pos V e
   rw[f6 (λp=>by rw[p,al]at G;cases G)];exact G
  ·by_cases f:b=S
   ·exact .inl f
   ·rw[f6 f]at G
    cases V:T b with
    |none=>exact absurd V G|some u=>obtain⟨fh,dq,aR,rfl⟩:=cR b u V;exact .inr ⟨fh,dq,aR⟩
def Al (V:dk)(I:bK):Bool:=match p5 I with
 |none=>ag|some (P,_,_)=>(I.lookup P).isNone && ((recsOf V).find? λe=>e.name==(sE "put_in_order")).isSome
theorem V5 {N:dk}{I:bK}{Y:Heap}{d:c_}{f:ExcName->zV}{a6 g:e2}(T:Top N d f a6 g Y)(H:I.In Y)(c:Al N I=ag):
  ∀a pos V,p5 I=D (a,pos,V)->I.lookup a=i/\isCodeTable Y a/\Y.get? a=D {cls:=.none,data:=.fields #[]}:=λa pos V e=>by
 unfold Al at c;rw[e]at c;obtain⟨af,ai⟩:=lJ.mp c;obtain⟨t,h⟩:=wK.mp ai;obtain⟨R,j⟩:∃R,DU I "put_in_order"=D (R,a):=by
  obtain⟨dq,bw,e⟩:=hv.mp e;obtain⟨bP,_,e⟩:=hv.mp e;obtain⟨fh,_,e⟩:=iR.mp e;grind
 obtain⟨S,b⟩:=W.tab_of T H h j;exact⟨sx.mp af,(S.tab b).isCodeTable,b⟩
noncomputable def u4 (z:er)(h:Nat):er:=match z with
 |.ClassDef _ _ _ body _ _ _ _ _ _ _=>body.getD h (.Pass ⟨0,0,0,0⟩)|_=>.Pass ⟨0,0,0,0⟩
noncomputable def lp (z:er):Arguments:=match z with
 |.FunctionDef _ S _ _ _ _ _ _ _ _=>S|_=>{posonlyargs:=[],args:=[],vararg:=i,kwonlyargs:=[],kw_defaults:=[],kwarg:=i,defaults:=[]}
noncomputable def jo (z:er):List er:=match z with
 |.FunctionDef _ _ b _ _ _ _ _ _ _=>b|_=>[]
noncomputable def gg (z:er):Scope:=match z with
 |.FunctionDef _ _ _ _ _ _ a _ _ _=>a|_=>{kind:=.function,names:=[],isGenerator:=aA,isCoroutine:=aA}
abbrev fv:kh:=λ_ _ _ _ _ _=>False
abbrev jO:cg:=λ_ _ _=>False
structure hz (I:bK)(X a:Str)(aX:er)(w:ba)(bP:i4):Prop where
 aT:∃(c:bq) (d:jl) (e f g:bq) (h:jl) (b j:bq) (k:sH),
  bP=W.fnOf X a (lp aX) (jo aX) (gg aX) .none e f g h b j/\I.lookup w=D ⟨c,d,.func bP,k⟩/\p0 I b a=ag
 mj:k_ I (.ref w)=ag
section
variable {I:bK}
theorem hz.EK {X g:Str}{aX:er}{w:ba}{bP:i4}{aJ:c_}(F:hz I X g aX w bP)
  (Y:∀(a b c:bq) (d:jl) (e f:bq) (ae:dt),ae.length=aJ.length->bindArgs (W.fnOf X g (lp aX) (jo aX) (gg aX) .none a b c d e f) ⟨ae,[]⟩=pure (aJ.zip ae)):iC I bP aJ []:=by
 obtain⟨h,j,a,b,c,d,e,f,k,rfl,lk,l⟩:=F.aT;exact .all (Y a b c d e f)
theorem Lx {X a:Str}{aX:er}{w:ba}{h:bq}{j c:jl}{k:sH}{d e f b g:bq}(s:I.lookup w=D ⟨h,j,.func (W.fnOf X a (lp aX) (jo aX) (gg aX) .none d e f c b g),k⟩)
  (R:p0 I b a=ag) (C:k_ I (.ref w)=ag):hz I X a aX w (W.fnOf X a (lp aX) (jo aX) (gg aX) .none d e f c b g):=⟨⟨h,j,d,e,f,c,b,g,k,rfl,s,R⟩,C⟩
end
def bx (Q ay:ar):Prop:=∀b A,Q b=D A->ay b=D A
theorem bx.fu (Q:ar):bx Q Q:=λ_ _ Y=>Y
theorem bx.ct {Q aw a7:ar}(S:bx Q aw)(b:bx aw a7):bx Q a7:=λR A Y=>b R A (S R A Y)
theorem bx.cz {Q ay:ar}(e:bx Q ay){s:ba}(Y:ay s=JY):Q s=JY:=by
 cases V:Q s with
 |none=>rfl|some A=>
  rw[e s A V]at Y;cases Y
theorem bx.seq {I:bK}{Q ay:ar}{S:ba}{j:bp}(e:bx Q ay)(Y:d1 I Q S j):d1 I ay S j:=by
 rcases Y with(Y |⟨A,Y⟩)|Y
 ·exact .inl (.inl (e _ _ Y))
 ·exact .inl (.inr ⟨A,e _ _ Y⟩)
 exact .inr Y
noncomputable def Am (y:Nat)(w:Nat->aS):kg:=⟨λO _=>O<y,λO Q X ay=>ay=Q/\X=w O,λO _=>y<=O⟩
noncomputable def Ly:List String:=["enumerate", "zip", "dict_itemiterator", "dict_reverseitemiterator", "odict_iterator", "itertools.zip_longest", "itertools.pairwise"]
theorem V6 {P:dk}{p:cN}{I:bK}{bZ:bV}{c:ba}{y:Nat}{w:Nat->aS}{K:Nat->bq->Prop}{d:Nat->Heap->Prop}
  (L:∀r:dM,r.handled=i->Walks P p r c [c] [c] y K d) (N:∀O v,O<y->K O v->cw (w O) v)
  (S:∀O Y,d O Y->∃A cV a,Y.get? c=D A/\A.cls=.type cV/\A.data=.fields a/\Ly.contains cV=aA)
  (T:∀(r:dM) (O:Nat) (z:bz) (o:bq->bz->Prop) (k:bq->bz->Prop),d O z.heap->o (.ref c) z->bT (model P p) r (pyIter (.ref c)) o k z)
  (U:∀O Y aF,d O Y->(∀b∈[c],∀A,Y.get? b=D A->aF.get? b=D A)->d O aF):
  p9 P p I bZ (Am y w) [c] c (λO Y=>O<=y/\d O Y) where
 mem:=by simp
 dV:=λO Y aX b f=>by
  grind
 fb:=λO Y aF aX C=>⟨aX.1,U O Y aF aX.2 C⟩
 item:=by
  intro H j hw m q O aj z l Q k g h aX u;subst j hw m;obtain⟨x,B,V,E,F,G⟩:=h c (by simp)
  have aE:O<y:=u;refine kE ((L H.r (g.f.gB q)).item O z _ _ aE aX.2 λv aF J W M iz X=>?_)
  have Z:a5 H aj l Q {z with heap:=aF,toks:=J}:=g.n7 (λb A f e=>iz b A (by simpa using f) e) x B E F G
  obtain⟨A,cV,a,e,R,t,aa⟩:=S _ _ M;exact⟨_,rfl,z4 (z:={z with heap:=aF,toks:=J}) (y:=cV) e R t aa ⟨w O,Q,Z,N O v aE W,⟨rfl,rfl⟩,⟨aE,M⟩,λb f=>(h b f).1⟩⟩
 done:=by
  intro H j hw m q O aj z l Q k g h aX u;subst j hw m;obtain⟨x,B,V,E,F,G⟩:=h c (by simp)
  have aE:y<=O:=u;have e:O=y:=Nat.le_antisymm aX.1 aE;subst e;exact kE ((L H.r (g.f.gB q)).done z _ _ aX.2 λaF J iz X=>⟨rfl,g.n7 (λb A f e=>iz b A (by simpa using f) e) x B E F G⟩)
 sV:=λr O z o k aX Y=>T r O z o k aX.2 Y
noncomputable def mm (X:Str)(O:Nat):aS:=.d ⟨#[X.cps.getD O 0]⟩
theorem V7 {P:dk}{p:cN} {X:Str}{n:Tok}(r:dM)(a:r.handled=i):Walks P p r it [it] [it] X.cps.size (SignAt X) (λO Y=>Y.IsStrIter it (ir X) X n O):=by
 cases b:X.cps.all (·<128)
 ·have e:ir X="str_iterator":=by simp[ir,b]
  rw[e];exact Walks.strWide a it X n
 ·have e:ir X="str_ascii_iterator":=by simp[ir,b]
  rw[e];exact Walks.strAscii a it X n
theorem Lz {X:Str}{O:Nat}(Y:SignAt X O v):cw (mm X O) v:=by
 obtain⟨R,u,e,rfl⟩:=Y;refine⟨u,?_⟩;simp_all
theorem V8 (X:Str):Ly.contains (ir X)=aA:=by
 unfold ir;split<;>decide
theorem V9 {P:dk}{p:cN}{I:bK}{bZ:bV}(a:ba)(X:Str)(n:Tok):p9 P p I bZ (Am X.cps.size (mm X)) [a] a (λO Y=>O<=X.cps.size/\Y.IsStrIter a (ir X) X n O):=by
 refine V6  (V7) (λO v _ Y=>Lz Y) (λO Y aX=>?_) (λr O z o k aX Y=>?_) (λO Y aF aX C=>?_)
 ·obtain⟨A,e,R,t⟩:=aX
  exact⟨A,_,_,e,R,t,V8 X⟩
 ·cases b:X.cps.all (·<128)
  ·have e:ir X="str_iterator":=by simp[ir,b]
   rw[e]at aX;exact wpAny_pyIter_striter_wide aX Y
  ·have e:ir X="str_ascii_iterator":=by simp[ir,b]
   rw[e]at aX;exact wpAny_pyIter_striter_ascii aX Y
 ·obtain⟨A,e,E⟩:=aX
  exact⟨A,C a (by simp) A e,E⟩
theorem a5.EL {H:bU}{aj:dD}{l:ck}{Q:ar}{z:bz}{aF:Heap}{g:Nat}{c:n4}(d:a5 H aj l Q z)(C:∀b A,b∉c->z.heap.get? b=D A->aF.get? b=D A)
  (f:∀b∈c,kK H aj Q b) (j:0<g:=by fail "0"):a5 H aj l Q {z with heap:=aF,toks:=g}:=by
 have h:∀b u,Q b=D u->b∉c:=λb u e G=>by rw[(f b G).1]at e;cases e
 refine d.step    (λb k=>?_) (λb A _ _ a e _=>C b A a e) (λb A _ _ a e _=>⟨A.slots,C b A a e⟩) (λ_ _ _ _ y=>y)
  (λb A a e=>⟨A,C b A a e⟩) (λ_ _ e=>e) (λ_ _ _ e=>e) (λ_ _ _ e=>e) (λm n=>?_) (λb u e=>?_) d.lN j
 ·obtain⟨q,s,t,w,x,B⟩:=f b k
  trivial
 ·obtain⟨A,ax,o,p,E⟩:=n
  exact⟨A,ax,o,C _ A (λG=>(f _ G).2.1 rfl) p,E⟩
 ·refine(d.cL b u e).uP (λR v a V=>C R v ?_ V) (λ_ V=>V) λ_ _ V=>V
  rcases a with G |G
  ·rw[G];exact h b u e
  exact h R _ G
theorem V_ {H:bU}{aj:dD}{l:ck}{Q:ar}{z:bz}{af:Heap}{d:Nat}{f:Tok}{e a:ba}{O:Nat}{X:bq}{q:aS}{ck:Heap->Prop}{ri:fz}{iz:Nat}{pos:Pos}{k:bq->bz->Prop}
  (h:a5 H aj l Q z) (n:∀b∈[e,a],kK H aj Q b) (o:e<z.heap.objs.size) (p:a<z.heap.objs.size) (P:e≠a) (t:IsEnumOut af e a ((O:Int)+1) X z.heap.objs.size) (v:cw q X)
  (w:af.get? z.heap.objs.size=D {cls:=.type "tuple",data:=.seq #[.int O f,X]}) (R:af.objs.size=z.heap.objs.size+1) (x:∀b A,b≠e->b≠a->z.heap.get? b=D A->af.get? b=D A)
  (y:∀ai,sq e af ai->ck ai) (S:0<d:=by fail "0"):
  bT (model H.cu H.p) H.r (letOwnedTupleGo (.Tuple ri iz pos) (.ref e) (.ref z.heap.objs.size)) (λ_ bo=>∃G ay,a5 H aj l ay bo/\cw G (.ref z.heap.objs.size) /\
   (∃N,Q N=i/\G=.a0 N/\ay=cq Q N (.bb [.c O,q]))/\(IsEnum bo.heap e a ((O+1:Nat):Int) X/\ck bo.heap)/\∀b∈[e,a],ay b=i) k {z with heap:=af,toks:=d}:=by
 refine wpAny_letOwnedTupleGo_enum t λai B g=>?_
 replace g:sq e af ai:=g;have C:Q z.heap.objs.size=i:=h.cL.fK (cZ _);have F:z.heap.objs.size≠e:=su o;have I:z.heap.objs.size≠a:=su p;have J:a5 H aj l (cq Q z.heap.objs.size (.bb [.c O,q])) {z with heap:=z.heap.push {cls:=.type "tuple",data:=.seq #[.int O f,X]},toks:=d}:=by
  refine h.hx (λb u V=>eQ _ V) (cZ _) ⟨?_,[.int O f,X],.cons ⟨_,rfl⟩ (.cons v .nil),⟨_,gK _ rfl,rfl,_,rfl⟩⟩
  show 2<=cA
  decide
 have j:∀b∈[e,a],kK H aj (cq Q z.heap.objs.size (.bb [.c O,q])) b:=λb c=>by
  obtain⟨K,E⟩:=n b c;refine⟨?_,E⟩;rw[f6 (by rcases dn.mp c with rfl |c;exact F.symm;rcases dn.mp c with rfl |c;exact I.symm;cases c)]
  exact K
 have L:a5 H aj l (cq Q z.heap.objs.size (.bb [.c O,q])) {z with heap:=ai,toks:=d}:=by
  refine a5.EL (z:={z with heap:=z.heap.push {cls:=.type "tuple",data:=.seq #[.int O f,X]},toks:=d}) (c:=[e,a]) J (λb A c V=>?_) j
  have m:b≠e:=λG=>c (by simp[G])
  have M:b≠a:=λG=>c (by simp[G])
  refine(g.2 b m).trans ?_;rcases JL V with⟨rfl,rfl⟩|dq
  ·exact w
  ·exact x b A m M dq
 refine⟨.a0 z.heap.objs.size,_,L,rfl,⟨z.heap.objs.size,C,rfl,rfl⟩,⟨?_,y ai g⟩,λb c=>(j b c).1⟩
 have:((O+1:Nat):Int)=(O:Int)+1:=by push_cast;rfl
 rw[this];exact B
def An (I:bK)(s:ba):kg:=
 ⟨λO Q=>∃j X,d1 I Q s j/\j[O]?=D X,λO Q q ay=>∃N X,(∀j,d1 I Q s j->j[O]?=D X)/\Q N=i/\q=.a0 N/\ay=cq Q N (.bb [.c O,X]),λO Q=>∃j,d1 I Q s j/\j.length<=O⟩
theorem Wa {P:dk}{p:cN}{I:bK}{ri:fz}{iz:Nat}{pos:Pos}(e c s:ba)(m:e≠c):
  p9 P p I (.Tuple ri iz pos) (An I s) [e,c] e (λO Y=>(∃d,IsEnum Y e c (O:Nat) d)/\Y.IsListIter c s O) where
 mem:=by simp
 dV:=λO Y aX b B=>by
  obtain⟨⟨d,a⟩,A,E,R,t⟩:=aX;grind
 fb:=λO Y aF aX C=>by
  obtain⟨⟨d,a⟩,g⟩:=aX;exact⟨⟨d,C e (by simp) _ a⟩,g.at λA V=>C c (by simp) A V⟩
 item:=by
  intro H n hw o F O aj z l Q k f q aX v;subst n hw o;obtain⟨j,X,h,w⟩:=v;obtain⟨J,y,N,K⟩:=f.d9 h;obtain⟨u,L,M⟩:=y.g8 w;obtain⟨⟨d,a⟩,g⟩:=aX;refine wpAny_pyNext_enum_item a g N.isList (x:=u) (by simpa using L) m λaf S T U W Z=>?_
  refine⟨_,rfl,?_⟩;have aa:e<z.heap.objs.size:=e1 a;have ab:c<z.heap.objs.size:=by obtain⟨A,E,_⟩:=id g;exact e1 E
  refine cv (V_ (ck:=λai=>ai.IsListIter c s (O+1)) f q aa ab m S M U W Z λai ac=>T.extBut ac.extBut m.symm) λ_ bo V=>?_
  obtain⟨G,ay,ae,ah,⟨N,ak,rfl,rfl⟩,⟨al,am⟩,bN⟩:=V;exact⟨.a0 N,_,ae,ah,⟨N,X,λaV an=>by rw[f.sS an h];exact w,ak,rfl,rfl⟩,⟨⟨u,al⟩,am⟩,bN⟩
 done:=by
  intro H n hw o F O aj z l Q k f q aX v;subst n hw o;obtain⟨j,h,w⟩:=v;obtain⟨J,y,N,K⟩:=f.d9 h;obtain⟨⟨d,a⟩,g⟩:=aX;have aw:=y.dS;obtain⟨ao,ap,ax,ar,as,au⟩:=q c (by simp)
  exact wpAny_pyNext_enum_end (f.f.gB F) a g N.isList (by simp;lia) λaF av=>⟨rfl,f.n7 (d:=z.toks) (λb A B e=>av b A B e) ao ap ar as au⟩
 sV:=λ_ _ _ _ _ aX Y=>by
  obtain⟨⟨d,a⟩,_⟩:=aX;exact wpAny_pyIter_enum a Y
theorem LA {P:dk}{p:cN} {X:Str}{n:Tok}(r:dM)(a:r.handled=i):Draws P p r it [it] X.cps.size (λO v=>∃R u,X.cps[O]?=D R/\v=.str ⟨#[R]⟩ u) (λO Y=>Y.IsStrIter it (ir X) X n O):=by
 cases b:X.cps.all (·<128)
 ·have e:ir X="str_iterator":=by simp[ir,b]
  rw[e];exact Draws.strWide a it X n
 ·have e:ir X="str_ascii_iterator":=by simp[ir,b]
  rw[e];exact Draws.strAscii a it X n
section
variable {H:bU}{ri:fz}{iz:Nat}{LB:Pos}
def Wb (I:bK)(bG:fY):p_:=λl Q a3=>bG l Q λa aw=>∃S,a=[.a0 S]/\(∃j,d1 I aw S j)/\a3 (An I S) aw
theorem Wc {S:bV}{bG:fY}{N pos:Pos}(h:i6 H "enumerate")(k:H.a6 "enumerate"=i)(m:gV H [S] bG)(n:eH [S] H.x=[(aA,eval S H.x)]:=by rfl):
  o3 H (.Tuple ri iz LB) (.Call (.Name "enumerate" N) [S] [] pos) (Wb H.I bG):=by
 intro aj z l Q a3 d Y;refine Call_ (sR d h k (u:=.type "enumerate") (by rfl) (wM (cv (m pos aj z l Q _ d Y) λae bf o=>?_) n rfl))
 obtain⟨a,aw,c,bI,p⟩:=o;obtain⟨s,e,⟨j,q⟩,V⟩:=p;subst e;cases bI with
 |cons E kJ=>
  cases kJ;cases E;obtain⟨x,y,N,A⟩:=c.d9 q;refine call_enumerate_list N.isList λaF f t B v=>?_
  refine wpAny_pyIter_enum (s:={bf with heap:=aF}) f ?_;have w:a5 H aj l aw {bf with heap:=aF}:=c.jm (a:=bf.toks) v;refine⟨bf.heap.objs.size+1,[bf.heap.objs.size+1,bf.heap.objs.size],_,_,aw,rfl,w,Wa _ _ s (by simp),⟨⟨_,f⟩,t⟩,λb C=>?_,V⟩
  have g:bf.heap.objs.size<=b:=by
   grind
  exact c.sU g (c.cL.fK g)
variable {prog:dk}{p:cN}{r:dM}{a3:Result->bz->Prop}{z:bz}
theorem Wd (a:Nat->bz->Prop)
  (l:∀y z,a y z->bT (model prog p) r (pyNext it) (λE c=>match E with
   |none=>a3 (.ok .next) c| some v=>bT (model prog p) r (letOwnedTupleGo γ it v) (λ_ e=>bT (model prog p) r (assign γ x v) (λ_ f=>
     bT (model prog p) r (forIn ifs ag λR E=>if E=ag then do let b <- isTrue R x (eval R x);pure (ForInStep.yield b)else pure (ForInStep.yield E)) (λb d=>
      if b=ag then bT (model prog p) r (eval iV x) (λX g=>
       bT (model prog p) r (call (.builtin "list.append") [bA,X]) (λ_ h=>∃m,m<y/\a m h) (λ_ _=>False) g) (λ_ _=>False) d
      else∃m,m<y/\a m d) (λ_ _=>False) f) (λ_ _=>False) e) (λ_ _=>False) c) (λ_ _=>False) z)
  (y:Nat) (Y:a y z):
  codeAny (model prog p) r (.compLoop (.ListComp iV [⟨γ,iter,ifs,0⟩] scope pos) 0 it bA x) a3 z:=by
 refine codeAny_loop rfl a (λy z n=>?_) y Y
 show bT _ r _ _ _ z
 refine wpAny_noted ?_;rw[compTurn_list];refine bR (wpAny_standAt (bR (kx (l y z n) (λE c j=>?_) λ_ _ aF=>aF.elim)))
 cases E with
 |none=>exact dQ j|some v=>
  refine bR (kx j (λ_ e o=>?_) λ_ _ aF=>aF.elim)
  refine bR (kx o (λ_ f q=>bR (kx q (λb d k=>?_) λ_ _ aF=>aF.elim)) λ_ _ aF=>aF.elim)
  cases b with
  |false=>exact dQ ⟨rfl,k⟩|true=>
   exact bR (bR (kx k (λX g s=>bR (kx s (λ_ h t=>dQ (dQ ⟨rfl,t⟩)) λ_ _ aF=>aF.elim)) λ_ _ aF=>aF.elim))
end
noncomputable def nD (a:lL):List (Str×n0)->lL->Option lL
 |[],bA=>D bA|(y,C)::E,bA=>if(C == .free)=ag then(match a.lookup y with |some R=>nD a E ((y,R)::bA)|none=>i)else nD a E bA
theorem EM {w:Str×n0->lL->Sem (ForInStep lL)}
  (b:∀y C c,w (y,C) c=if(C == NameKind.free)=ag then(do let R <- cellOf x y;pure (ForInStep.yield ((y,R)::c)))else pure (ForInStep.yield c)):
  ∀(d:uN) (bA b7:lL),nD x.cells d bA=D b7->(forIn d bA w:Sem lL)=pure b7
 |[],bA,b7,Y=>by cases (Y);rfl
 |(y,C)::E,bA,b7,Y=>by
  rw[zq,b];unfold nD at Y;by_cases a:(C == NameKind.free)=ag
  ·rw[if_pos a]at Y
   rw[if_pos a];cases e:x.cells.lookup y with
   |none=>simp_all|some R=>
    rw[e]at Y;rw[(show cellOf x y=pure R by unfold cellOf;rw[e])]
    exact EM b E _ b7 Y
  ·rw[if_neg a]at Y
   rw[if_neg a];exact EM b E _ b7 Y
theorem LC {b7:lL}(Y:nD x.cells scope.names []=D b7):closureFor scope x=pure b7:=by
 unfold closureFor;dsimp only;rw[EM  (λy C a=>rfl) _ [] b7 Y]
 rfl
theorem Ao:∀(d:uN) (bA b7:lL),nD cells d bA=D b7->(∀X R,bA.lookup X=D R->cells.lookup X=D R) ->
  (∀X R,b7.lookup X=D R->cells.lookup X=D R)
 |[],bA,b7,Y,a=>by cases Y;exact a
 |(y,C)::E,bA,b7,Y,a=>by
  unfold nD at Y;by_cases b:(C == NameKind.free)=ag
  ·rw[if_pos b]at Y
   cases c:cells.lookup y with
   |none=>rw[c]at Y;cases Y|some R=>
    rw[c]at Y;refine Ao E _ b7 Y λX cS e=>?_
    grind
  ·rw[if_neg b]at Y
   exact Ao E _ b7 Y a
theorem Ap:∀(b:uN) (bA b7:lL),nD cells b bA=D b7->∀X,((X,NameKind.free)∈b\/∃R,bA.lookup X=D R)->∃R,b7.lookup X=D R
 |[],bA,b7,Y,X,a=>by
  cases Y;rcases a with a |a
  ·cases a
  ·exact a
 |(y,C)::E,bA,b7,Y,X,a=>by
  unfold nD at Y;by_cases c:(C == NameKind.free)=ag
  ·rw[if_pos c]at Y
   cases d:cells.lookup y with
   |none=>rw[d]at Y;cases Y|some R=>
    rw[d]at Y;refine Ap E _ b7 Y X ?_;grind
  ·rw[if_neg c]at Y
   refine Ap E _ b7 Y X ?_;grind
theorem Aq {X:Str}{C:n0}(Y:(relabel scope x).names.lookup X=D C)(a:C=.cell\/C=.free)(b:∀q∈scope.names,q.2≠.cell):(X,NameKind.free)∈scope.names:=by
 have m:=sa Y;obtain⟨⟨y,c⟩,d,e⟩:=fk.mp m;grind
def kM (H:bU)(scope:Scope)(b7:lL)(aO:ba)(bB:c_)(a:n4)(bo:bz)(a7:ar):bU where
 cu:=H.cu
 p:=H.p
 I:=H.I
 a6:=H.a6
 bj:=H.bj
 r:=H.r
 bB:=bB
 jM:=bo
 uR:=a7
 x:=compEnvC scope b7 aO H.x
 mh:=H.hN
 hN:=H.hN
 aT:=a
 hO:=λ_=>aA
 fD:=H.fD
 aD:=[]
 fm:=λ_ _=>False
structure u5 (H:bU)(scope:Scope)(b7:lL)(b2:c_)(bN:jJ):Prop where
 xd:nD H.x.cells scope.names []=D b7
 lj:∀q∈scope.names,q.2≠.cell
 hP:scope.kind=.function
 names:∀G∈scope.names,G.2=.local->scope.names.lookup G.1=D .local
 bN:∀V∈bN,H.bB[V.2]?=D V.1/\(V.1,NameKind.free)∈scope.names/\(H.x.kindOf V.1=D .cell\/H.x.kindOf V.1=D .free) /\
  ((relabel scope H.x).names.lookup V.1=D .cell\/(relabel scope H.x).names.lookup V.1=D .free)
noncomputable def ig (b2:c_)(bN:jJ):List Str:=b2++bN.map (·.1)
def o8 (b2:c_)(bN:jJ)(l:ck):ck:=b2.map (λ_=>i)++bN.map λV=>(l[V.2]?).join
theorem We {H:bU}{aj:dD} {b7:lL} {bN:jJ} {y:Nat}
  (a:a5 H aj l a7 bo) (f:u5 H scope b7 b2 bN) (o:∀b∈fp,kK H aj a7 b) (B:∀b∈fp,b<bo.heap.objs.size) (C:h4.Ns (bo.heap.objs.size+1) m) (F:h4.get? bo.heap.objs.size=D {cls:=.type "list",data:=.seq #[] y})
  (k:∀b A,bo.heap.get? b=D A->h4.get? b=D A) (I:0<tk:=by fail "0"):
  a5 (kM H scope b7 (bo.heap.objs.size+1) (ig b2 bN) fp bo a7) [] (o8 b2 bN l) (cq a7 bo.heap.objs.size (.aM [])) {bo with heap:=h4,toks:=tk}:=by
 have g:=Ao scope.names [] b7 f.xd (λX R e=>by cases e)
 have w:=Ap scope.names [] b7 f.xd;have J:a7 bo.heap.objs.size=i:=a.cL.fK (cZ _);have K:a7 (bo.heap.objs.size+1)=i:=a.cL.fK (oR _);have L:bo.heap.objs.size+1≠bo.heap.objs.size:=su (wI _);have M:∀b∈fp,(b∈H.aT\/H.jM.heap.objs.size<=b):=λb d=>(o b d).2.2.2.1
 have P:∀X R,b7.lookup X=D R->R<bo.heap.objs.size:=λX R e=>by
  obtain⟨v,A,h,_⟩:=a.lj X R (g X R e);exact e1 h
 refine⟨⟨a.f.es,f.hP,a.f.p6,a.f.uQ,oR _,λX q R af ai=>a.f.inj X q R (g X R af) (g q R ai),λX Q=>?_,λX R S=>(by cases S),a.f.gB,a.f.frames,.inl rfl,λb d=>?_,a.c6,ka a.f.p7 a.z0,λb A e d=>?_,λb d G=>?_,a.hN,a.KD,a.dr⟩,
  rfl,a.lN,?_,⟨m,C,λO X v af ai bw=>?_⟩,λX R e=>?_,?_,λX R e=>?_,λN T=>absurd (show N∈([]:dD)from T) (by simp),?_,?_,I⟩
 ·-- zW
  have U:(relabel scope H.x).names.lookup X=D .cell\/(relabel scope H.x).names.lookup X=D .free:=Q;have W:(X,NameKind.free)∈scope.names:=U.elim (λG=>Aq G (.inl rfl) f.lj) λG=>Aq G (.inr rfl) f.lj
  exact w X (.inl W)
 ·-- D9
  obtain⟨Y,x,z,ao,Z,ap⟩:=o b d;refine⟨λG=>?_,λX R e=>Z X R (g X R e)⟩
  have aa:b=bo.heap.objs.size+1:=G;have:=B b d;rw[aa]at this;exact absurd this (Nat.not_lt.mpr (oR _))
 ·rcases M b d with G |G
  ·exact a.f.sN b A e G
  ·exact absurd (iq (iq (e1 e) a.f.p7) G) (sr _)
 ·obtain⟨Y,x,z,_⟩:=o b d
  rcases dn.mp (a.z1 b G)with V |V
  ·exact x V
  ·exact z V
 ·exact iS.hx k (cZ _) J
 ·-- kF
  have j:(b2++bN.map (·.1))[O]?=D X:=af;have n:(b2.map (λ_=>i)++bN.map λV=>(l[V.2]?).join:ck)[O]?=D (D v):=ai
  by_cases aE:O<b2.length
  ·grind
  ·rw [pV (by simpa using aE),gS]at n
   rw[pV (by lia),gS]at j
   simp only[cE]at n;cases p:bN[O-b2.length]? with
   |none=>rw[p]at j;cases j|some V=>
    rw[p]at j n;have aR:V.1=X:=kb j;have aB:(l[V.2]?).join=D v:=kb n;have ab:l[V.2]?=D (D v):=by
     grind
    obtain⟨ac,ae,c,ah⟩:=f.bN V (qX p);obtain⟨ar,as,ak⟩:=a.kF;have al:uS H.x.scope V.1:=by
     rcases c with c |c
     ·exact .inr (.inl c)
     ·exact .inr (.inr c)
    obtain⟨u,E,s⟩:=ak V.2 V.1 v ac ab al;refine⟨u,E,.inr ⟨?_,?_⟩⟩
    ·rw[<- aR];exact ah
    ·rcases s with⟨lk,_⟩|⟨_,R,ec,am⟩
     ·rcases c with c |c<;>(rw[lk]at c;cases c)
     ·obtain⟨cS,an⟩:=w V.1 (.inl ae)
      have:cS=R:=by
       grind
      subst this;obtain⟨A,h,t⟩:=am;exact⟨cS,by rw[<- aR];exact an,A,k _ _ h,t⟩
 ·obtain⟨v,A,h,t⟩:=a.lj X R (g X R e)
  exact⟨v,A,k _ _ h,t⟩
 ·show cq a7 _ _ (bo.heap.objs.size+1)=i
  rw[f6 L];exact K
 ·have:=P X R e
  rw[f6 (gz this)];exact a.oX X R (g X R e)
 ·exact a.cL.hx k (cZ _) ⟨mc _,[],y,.nil,F⟩
 ·show(o8 b2 bN l).length=(ig b2 bN).length
  simp[o8,ig]
def o9 (H:bU)(ifs:fz)(n:hQ):Prop:=
 ∀(aj:dD) (z:bz) (l:ck) (Q:ar) (o:Bool->ar->Prop),a5 H aj l Q z->n l Q o ->
  bT (model H.cu H.p) H.r (forIn ifs ag λR E=>if E=ag then do let a <- isTrue R H.x (eval R H.x);pure (ForInStep.yield a)else pure (ForInStep.yield E)) (Ee H aj l o) H.fm z
def Ar:hQ:=λ_ Q o=>o ag Q
theorem Wf {H:bU}:o9 H [] Ar:=λaj z l Q o a Y=>wpAny_tests_nil ⟨Q,a,Y⟩
theorem Wg {H:bU}{R:bV}{n:hQ}(Y:hR H R n):o9 H [R] n:=λaj z l Q o a hw=>wpAny_tests_one (Y aj z l Q o a hw)
def LD (d:kg)(g:i7)(jq:hQ)(eC:b1)(p:ck)(aw:ar)(o:cm):Prop:=
 ∀ a,aw a=i->∃e:Nat->Nat->bp->ck->ar->Prop,(∃m,e 0 m [] p (cq aw a (.aM [])))/\∀O m aV l Q,e O m aV l Q ->
  (d.p8 O Q/\o (.a0 a) Q)\/(d.eU O Q/\∃bB:bp->ck->ar->Prop,(∀f h ay,bB f h ay->∃j,j<m/\e (O+1) j f h ay) /\
   ∀X ay,d.z3 O Q X ay->g X l ay λc a7=>jq c a7 λb k=>if b=ag then eC c k λv n=>n a=D (.aM aV)/\aV.length<cA/\bB (aV++[v]) c (cq n a (.aM (aV++[v])))else bB aV c k)
section
variable {H:bU}{scope:Scope}{b7:lL}{b2:c_}{bN:jJ}{iV bZ iter:bV}{ifs:fz}{pos:Pos}{g:i7}{jq:hQ}{eC:b1}
theorem LF {aj:dD} {M:Nat->Heap->Prop}
  (P:a5 H aj l a7 bo) (Z:u5 H scope b7 b2 bN) (T:p9 H.cu H.p H.I bZ J a it M) (aX:M 0 bo.heap) (af:∀b∈a,kK H aj a7 b) (a3:H.fD=ag)
  (a4:∀aO a bo a7,kf (kM H scope b7 aO (ig b2 bN) a bo a7) bZ g) (a6:∀aO a bo a7,o9 (kM H scope b7 aO (ig b2 bN) a bo a7) ifs jq) (a8:∀aO a bo a7,bu (kM H scope b7 aO (ig b2 bN) a bo a7) iV eC)
  (a9:LD J g jq eC (o8 b2 bN l) a7 o)
  (a_:∀ao aO s ay bc,a5 H (aj++[(aO,s)]) l ay bc->(∀Y:Heap,Y.get? aO=D s->∃m,Y.Ns aO m)->kK H aj ay aO->o (.a0 ao) ay->compPost (model H.cu H.p) H.r k use Q' (.ref ao) aO (.ok .next) bc):
  bT (model H.cu H.p) H.r (newList []) (λbA Q=>bT (model H.cu H.p) H.r (newFunctionEnv scope H.x.globals b7 [] H.x.qual i .none (D H.x)) (λap ba=>
   codeAny (model H.cu H.p) H.r (.compStart (.ListComp iV [⟨bZ,iter,ifs,0⟩] scope pos) 0 (.ref it) bA {ap with scope:=relabel scope H.x}) (compPost (model H.cu H.p) H.r k use Q' bA ap.locals) ba) k Q) k bo:=by
 have as:∀b∈a,b<bo.heap.objs.size:=λb c=>by
  obtain⟨A,bb,_⟩:=T.dV 0 _ aX b c;exact e1 bb
 refine wpAny_newList (wpAny_newFunctionEnv Z.lj (by intro q bd;simp at bd) (λS ah aa=>?_) Z.hP)
 dsimp only at ah aa ⊢;have be:(bo.heap.push {cls:=.type "list",data:=.seq ([]:List bq).toArray}).objs.size=bo.heap.objs.size+1:=q4 ..;rw[be]at ah aa ⊢;have au:∀b A,bo.heap.get? b=D A->S.get? b=D A:=λb A e=>aa.extBut b A (gz (wH (e1 e))) (eQ _ (eQ _ e))
 have bf:S.get? bo.heap.objs.size=D {cls:=.type "list",data:=.seq #[]}:=aa.extBut _ _ (gz (wI _)) (eQ _ (gK _ rfl));have av:a5 (kM H scope b7 (bo.heap.objs.size+1) (ig b2 bN) a bo a7) [] (o8 b2 bN l) (cq a7 bo.heap.objs.size (.aM [])) {bo with heap:=S,toks:=bo.toks+([]:List (Str×bq)).length}:=
  We P Z af as ah bf au
 generalize d:kM H scope b7 (bo.heap.objs.size+1) (ig b2 bN) a bo a7=X' at av
 have z:X'.cu=H.cu:=by rw[<- d];rfl
 have B:X'.p=H.p:=by rw[<- d];rfl
 have aw:X'.I=H.I:=by rw[<- d];rfl
 have C:X'.r=H.r:=by rw[<- d];rfl
 have ec:X'.fD=ag:=by rw[<- d];exact a3
 have aT:X'.fm=λ_ _=>False:=by rw[<- d];rfl
 have w:X'.x=compEnvC scope b7 (bo.heap.objs.size+1) H.x:=by rw[<- d];rfl
 have bg:kf X' bZ g:=d ▸ a4 _ _ _ _;have bh:o9 X' ifs jq:=d ▸ a6 _ _ _ _;have bi:bu X' iV eC:=d ▸ a8 _ _ _ _;obtain⟨az,⟨bj,bk⟩,bl⟩:=a9 bo.heap.objs.size (P.cL.fK (cZ _));have aB:M 0 S:=T.fb _ _ _ aX λb _ A e=>au b A e
 have F:∀b∈a,kK X' [] (cq a7 bo.heap.objs.size (.aM [])) b:=λb c=>by
  obtain⟨aC,ai,aD,aE,F,aF⟩:=af b c;have:=as b c;refine⟨?_,?_,?_,.inl ?_,?_,?_⟩
  ·rw[f6 (gz this)];exact aC
  ·rw[w];exact gz (wH this)
  ·intro G
   have bm:b∈mS H.hN:=by rw[<- d]at G;exact G
   rcases dn.mp (P.z1 b bm)with V |V
   ·exact ai V
   ·exact aD V
  ·rw[<- d];exact c
  ·intro X R e
   rw[w]at e;exact F X R (Ao scope.names [] b7 Z.xd (λX R e=>by cases e) X R e)
  ·intro N j
   rw[<- d]at j;exact absurd (show N∈([]:dD)from j) (by simp)
 have ak:∀{ay:ar},(∀b∈a,ay b=i)->∀b∈a,kK X' [] ay b:=λab b c=>⟨ab b c,(F b c).2⟩
 have aG:∀Q:bz,Q={bo with heap:=S,toks:=bo.toks+([]:List (Str×bq)).length} ->
   codeAny (model H.cu H.p) H.r (.compLoop (.ListComp iV [⟨bZ,iter,ifs,0⟩] scope pos) 0 (.ref it) (.ref bo.heap.objs.size) (compEnvC scope b7 (bo.heap.objs.size+1) H.x))
    (compPost (model H.cu H.p) H.r k use Q' (.ref bo.heap.objs.size) (bo.heap.objs.size+1)) Q:=by
  rintro Q rfl;refine Wd (λy bc=>∃O aV U ay,a5 X' [] U ay bc/\M O bc.heap/\(∀b∈a,ay b=i)/\az O y aV U ay) ?_ bj ⟨0,[],_,_,av,aB,λb c=>(F b c).1,bk⟩
  rintro y aH ⟨O,aV,ac,h,aI,aJ,aK,bn⟩;rcases bl O y aV ac h bn with⟨br,bs⟩|⟨bt,bB,bv,bw⟩
  ·have W:=T.done X' z B aw ec O [] aH ac h (λ_ _=>False) aI (ak aK) aJ br
   rw[C]at W;refine cv W λE n f=>?_
   obtain⟨al,I⟩:=f;subst al;have bx:iS (mS H.hN) a a7 h bo.heap n.heap:=by
    have:=I.bj;rw[<- d]at this;exact this
   have bC:n.os=bo.os:=by
    have:=I.os;rw[<- d]at this;exact this
   have bD:gA H.cu H.p h n.heap:=by
    have:=I.cL;rw[<- d]at this;exact this
   have aL:a5 H aj l h n:=P.TZ bC bx bD I.lN λb c=>by
    obtain⟨aC,ai,aD,aE,F,aF⟩:=af b c;exact⟨aE,ai,F,aF⟩
   obtain⟨m,ab,_⟩:=I.kF;have bE:n.heap.Ns (bo.heap.objs.size+1) m:=by rw[w]at ab;exact ab
   have aM:h (bo.heap.objs.size+1)=i:=by
    have:=I.cz;rw[w]at this;exact this
   have am:kK H aj h (bo.heap.objs.size+1):=P.sU (oR _) aM;obtain⟨s,ax,bF,bG,aP,bH⟩:=id bE;have bI:a5 H (aj++[(bo.heap.objs.size+1,s)]) l h n:=aL.Ed λN j=>by
    rcases hu.mp j with j |j
    ·exact aL.e5 N (kA _ j)
    ·have e:N=(bo.heap.objs.size+1,s):=by simpa using j
     subst e;exact⟨bG,aM,am.2.1,am.2.2.1,λv G=>by rw[aP]at G;cases G⟩
   exact a_ _ _ s h n bI (λY e=>⟨m,s,ax,bF,e,aP,bH⟩) am bs
  ·have W:=T.item X' z B aw ec O [] aH ac h (λ_ _=>False) aI (ak aK) aJ bt
   rw[C]at W;refine cv W λE n f=>?_
   obtain⟨u,al,bJ⟩:=f;subst al;refine cv bJ λ_ aQ f=>?_
   obtain⟨X,aR,bK,bL,bM,an,bO⟩:=f;have bP:=bK.KV (ak bO) (T.dV _ _ an);have aU:=bg _ aQ ac aR X u _ bP bL (bw X aR bM);rw[z,B,C,w,aT]at aU;refine cv aU λ_ bQ f=>?_
   obtain⟨p,bR,bS,bU⟩:=f;have aW:=bh _ bQ p bR _ bS bU;rw[z,B,C,w,aT]at aW;refine cv aW λbV K f=>?_
   obtain⟨x,L,aY⟩:=f;have aZ:∀{ae:bp}{x:ar}{K:bz},a5 X' ([]++w7 a aQ.heap) p x K->bB ae p x->∃m,m<y/\∃O aV U ay,a5 X' [] U ay K/\M O K.heap/\(∀b∈a,ay b=i)/\az O m aV U ay:=λ{ae x K} L bW=>by
    obtain⟨bX,bY,b0⟩:=bv ae p x bW;refine⟨bX,bY,O+1,ae,p,x,L.uY,T.fb _ _ _ an λb c A e=>(L.e5 (b,A) (kA _ (kA _ (z5 c e)))).1,λb c=>?_,b0⟩
    obtain⟨A,e,t⟩:=T.dV _ _ an b c;exact(L.e5 (b,A) (kA _ (kA _ (z5 c e)))).2.1
   cases bV with
   |false=>exact aZ L aY|true=>
    have a0:=bi _ K p x _ L aY;rw[z,B,C,w,aT]at a0;refine cv a0 λq b1 f=>?_
    obtain⟨v,b3,b4,b5,b6,b9,b_⟩:=f;have a1:=EG (H:=X') _ b1 p b3 (.a0 bo.heap.objs.size) [v] (.ref bo.heap.objs.size) [q] (λ_ a2=>bB (aV++[v]) p a2) b4 rfl (.cons b5 .nil) ⟨_,_,_,rfl,rfl,b6,b9,b_⟩
    rw[z,B,C,aT]at a1;refine cv a1 λ_ cc f=>?_
    obtain⟨cd,a2,ca,_,cb⟩:=f;exact aZ ca cb
 exact codeAny_compStart_list (aG _ rfl) (T.sV _ 0 _ _ _ aB (aG _ rfl))
def xe (b2:c_)(bN:jJ)(a:p_)(g:i7)(jq:hQ)(eC:b1):b1:=λl Q o=>a l Q λb aw=>LD b g jq eC (o8 b2 bN l) aw o
theorem Wh (h:H.fD=ag)(d:u5 H scope b7 b2 bN)(aE:o3 H bZ iter wi)
  (j:∀aO a bo a7,kf (kM H scope b7 aO (ig b2 bN) a bo a7) bZ g) (k:∀aO a bo a7,o9 (kM H scope b7 aO (ig b2 bN) a bo a7) ifs jq) (n:∀aO a bo a7,bu (kM H scope b7 aO (ig b2 bN) a bo a7) iV eC)
  (p:∀X,foldedSetIterable iter H.x X=pure X:=by intro _;rfl):bu H (.ListComp iV [⟨bZ,iter,ifs,0⟩] scope pos) (xe b2 bN wi g jq eC):=by
 intro aj z l Q o q Y;refine wpAny_comprehension_free  rfl p (LC d.xd) d.hP d.names ?_;refine cv (aE aj z l Q _ q Y) λv bf af=>cv af λF bo ai=>?_
 obtain⟨G,a,I,J,a7,e,s,T,t,u,V⟩:=ai;subst e;refine LF s d T t u h j k n V λw aO K ay bc f x c y=>?_
 obtain⟨m,B⟩:=x _ (f.e5 _ (kA _ (kA _ (fy.mpr rfl)))).1;exact⟨m,B,λaF C=>⟨.a0 w,ay,f.uY.n7  (λb A E e=>(C.2 b E).trans e) c.1 c.2.1 c.2.2.2.1 c.2.2.2.2.1 c.2.2.2.2.2,rfl,y⟩⟩
theorem Wi (p:H.fD=ag)(d:u5 H scope b7 b2 bN)(aE:o3 H bZ iter wi)
  (s:∀aO a bo a7,kf (kM H scope b7 aO (ig b2 bN) a bo a7) bZ g) (t:∀aO a bo a7,o9 (kM H scope b7 aO (ig b2 bN) a bo a7) ifs jq) (u:∀aO a bo a7,bu (kM H scope b7 aO (ig b2 bN) a bo a7) iV eC)
  (w:kf H (.Name q py) (o1 h))
  (x:swapsWith (.ListComp iV [⟨bZ,iter,ifs,0⟩] scope pos) (D (.Name q py)) dU.line H.x=pure ag:=by rfl)
  (y:∀X,foldedSetIterable iter H.x X=pure X:=by intro _;rfl):jN H (.Assign [.Name q py] (.ListComp iV [⟨bZ,iter,ifs,0⟩] scope pos) dU) (o2 (xe b2 bN wi g jq eC) (o1 h)):=by
 intro aj z l Q B C Y;rw[exec_Assign_Name_used _ _ _ _ x];refine bR (wpAny_standAt (bR ?_));show bT _ H.r (do let _ <- comprehension (.ListComp iV [⟨bZ,iter,ifs,0⟩] scope pos) scope H.x _ (newList []) aA (eval iter H.x) (D (assign (.Name q py) H.x))) _ _ z
 refine bR (kx (wpAny_comprehension_free (use:=D (assign (.Name q py) H.x)) (Q:=λ_ bc=>sQ H aj B .next bc) rfl y (LC d.xd) d.hP d.names ?_) (λ_ bc E=>dQ (dQ E)) λ_ _ e=>e)
 refine cv (aE aj z l Q _ C Y) λv bf af=>cv af λZ bo ai=>?_
 obtain⟨aa,a,ab,ac,a7,e,F,T,G,I,V⟩:=ai;subst e;refine LF F d T G I p s t u V λf aO J ay bc K L M N=>?_
 show bT _ H.r (assign (.Name q py) H.x (.ref f)) _ _ _
 refine cv (w _ bc l ay (.a0 f) (.ref f) _ K rfl N) λ_ j O=>?_
 obtain⟨P,k,n,R⟩:=O;have o:=n.e5 (aO,J) (kA _ (kA _ (fy.mpr rfl)));obtain⟨m,S⟩:=L j.heap o.1;refine⟨m,S,λaF U=>?_⟩
 have c:kK H aj k aO:=⟨o.2.1,M.2⟩;exact⟨P,k,n.uY.n7 (d:=j.toks) (λb A W e=>(U.2 b W).trans e) c.1 c.2.1 c.2.2.2.1 c.2.2.2.2.1 c.2.2.2.2.2,R⟩
end
noncomputable abbrev eX (s:bt):aS:=.d ⟨s.toArray⟩
def cP (b:Bool)(r a:Prop):Prop:=(b=ag->r)/\(b=aA->a)
theorem xf (S b:Str):S++b=⟨(S.cps.toList++b.cps.toList).toArray⟩:=by
 show Str.mk _=_
 simp
theorem EN (S:Str):S=⟨S.cps.toList.toArray⟩:=by cases S;simp
def mY (s:bt)(a8 aE:eR):List Nat:=(s.drop (HT.d3 s.length 0 a8)).take (HT.d3 s.length s.length aE-HT.d3 s.length 0 a8)
theorem LG (a8 aE:eR)(y:Nat):q6 a8 aE 1 y=sliceRange ((HT.d3 y 0 a8:Nat):Int) ((HT.d3 y y aE:Nat):Int) 1:=by
 unfold q6;simp only[show(1:Int) > 0 by decide,if_true]
 congr 1
 ·cases a8 with
  |none=>simp[HT.d3]|some O=>
   simp only[HT.d3];by_cases Y:O<0
   ·simp only[Y,if_true]
    rw[J7,zJ (by lia),J8]
   ·simp only[Y,if_false]
    obtain⟨m,rfl⟩:=wN (J_.mp Y);show max 0 (min (m:Int) y)=(min m y:Nat)
    rcases JT m y with G |G
    ·rw[zv G,zJ (zK.mpr G)];exact zI (wO _)
    ·rw[DK G,J6 (zK.mpr G)];exact zI (wO _)
 ·cases aE with
  |none=>simp[HT.d3]|some O=>
   simp only[HT.d3];by_cases Y:O<0
   ·simp only[Y,if_true]
    rw[J7,zJ (by lia),J8]
   ·simp only[Y,if_false]
    obtain⟨m,rfl⟩:=wN (J_.mp Y);show max 0 (min (m:Int) y)=(min m y:Nat)
    rcases JT m y with G |G
    ·rw[zv G,zJ (zK.mpr G)];exact zI (wO _)
    ·rw[DK G,J6 (zK.mpr G)];exact zI (wO _)
theorem Wj (X:Str)(a8 aE:eR):(q6 a8 aE 1 X.length).filterMap (X.cps[·]?)=mY X.cps.toList a8 aE:=by
 rw[LG,sliceRange_one,pick_run];trivial
theorem Wk (s:bt)(a8 aE:eR):(mY s a8 aE).length<=s.length:=by
 unfold mY;rw[l9,qZ];lia
theorem Wl {s:bt}{a8 aE:eR}(Y:(mY s a8 aE).length=s.length):mY s a8 aE=s:=by
 unfold mY at Y ⊢;rw[l9,qZ]at Y;have af:HT.d3 _ _ aE<=s.length:=HT.Ey _ _ (cZ _) _;by_cases a:s.length=0
 ·grind
 ·have ai:HT.d3 s.length 0 a8=0:=by lia
  simp_all
section
variable {H:bU}
def Wm:aS->eR->eR->ar->cm->Prop:=λX a8 aE Q o=>match X with |.d G=>G.length<=cA/\o (eX (mY G.cps.toList a8 aE)) Q |_=>False
theorem EO (N:IsPart v A):∃s:Option (Int×Tok),v=partValue s/\s.map (·.1)=A:=by
 cases N with
 |none=>exact⟨i,rfl,rfl⟩|int O n=>exact⟨D (O,n),rfl,rfl⟩
theorem Wn:n_ H Wm:=by
 intro aj z l Q X v p q a8 aE t o a b c f g Y;cases X with
 |d G=>
  obtain⟨h,V⟩:=Y;obtain⟨n,rfl⟩:=b;obtain⟨s,rfl,rfl⟩:=EO f;obtain⟨u,rfl,rfl⟩:=EO g;refine⟨"str",_,Kp.lookup,typeIs_str _ _ _,?_⟩;refine wpAny_getItem_str_slice (l:=s) (u:=u) (st:=i) c rfl ?_;unfold sliceMade;have e:slicePicked G s u i=q6 (s.map (·.1)) (u.map (·.1)) 1 G.length:=rfl;rw[e];have j:(q6 (s.map (·.1)) (u.map (·.1)) 1 G.length).length=(mY G.cps.toList (s.map (·.1)) (u.map (·.1))).length:=by
   rw[LG,sliceRange_one,cE,qY];unfold mY;rw[l9,qZ];have af:HT.d3 G.length G.length (u.map (·.1))<=G.length:=HT.Ey _ _ (cZ _) _;have ai:G.cps.toList.length=G.length:=by simp[ny]
   rw[ai];lia
  split
  ·rename_i k
   have m:(mY G.cps.toList (s.map (·.1)) (u.map (·.1))).length=G.cps.toList.length:=by
    rw[<- j]
    simpa [ny]using k
   rw[Wl m]at V;have dq:o (.d G) Q:=by rw[EN G];exact V
   exact⟨.d G,Q,a,⟨_,rfl⟩,dq⟩
  ·rw[Wj]
   have bw:=Wk G.cps.toList (s.map (·.1)) (u.map (·.1));have ai:G.cps.toList.length=G.length:=by simp[ny]
   refine⟨?_,eX (mY G.cps.toList (s.map (·.1)) (u.map (·.1))),Q,a.fS _,⟨_,rfl⟩,V⟩;show(mY G.cps.toList (s.map (·.1)) (u.map (·.1))).toArray.size<=cA
   rw[fa];exact ka bw (by rw[ai];exact h)
 |_=>exact Y.elim
end
def o_ (O:Nat):b1:=λl Q o=>match l[O]? with |some (D v)=>o v Q |_=>False
section
variable {H:bU}{S b R:bV}{bG dr i8:b1}{pos:Pos}
theorem Wo (O:Nat){X:Str}(a:H.bB[O]?=D X:=by rfl)(b:uS H.x.scope X:=by first |exact Or.inl rfl |exact Or.inr (Or.inl rfl)|exact Or.inr (Or.inr rfl))(c:(X==("__debug__":Str))=aA:=by decide)
  (d:(X==("__classdict__":Str))=aA:=by decide):bu H (.Name X pos) (o_ O):=by
 intro aj z l Q o f Y;unfold o_ at Y;cases e:l[O]? with
 |none=>simp_all|some A=>
  rw[e]at Y;cases A with
  |none=>exact Y.elim|some v=>exact T5 a b c d aj z l Q o f ⟨v,e,Y⟩
theorem Wq {X:Str}{s:bt}{h pos}(Y:X=⟨s.toArray⟩:=by rfl):bu H (.Constant (.str X) h pos) (hy (eX s)):=Y ▸ T8
def EP:ez:=λX q Q o=>match X,q with
 |.c O,.c h=>o (.c (O+h)) Q|.d S,.d b=>S.cps.toList.length+b.cps.toList.length<=cA/\o (eX (S.cps.toList++b.cps.toList)) Q|.a0 S,.a0 b=>∃j a,Q S=D (.aM j)/\Q b=D (.aM a)/\j.length+a.length<=cA/\∀N,Q N=i->o (.a0 N) (cq Q N (.aM (j++a)))|_,_=>False
theorem Wr:dF H (ky .Add) EP:=by
 intro aj z l Q X q v u o a b c Y
 cases X<;>cases q<;>first
  |exact Y.elim
  |exact UE aj z l Q _ _ v u o a b c ⟨_,_,rfl,rfl,Y⟩
  |exact UT aj z l Q _ _ v u o a b c ⟨_,_,rfl,rfl,by simpa [ny]using Y.1,by rw[xf];exact Y.2⟩
  |(obtain⟨j,d,af,ai,bw,e⟩:=Y;exact VY aj z l Q _ _ v u o a b c ⟨_,_,j,d,rfl,rfl,af,ai,bw,e⟩)
def xg (aO:Int->Int->Prop)(g:q8):ez:=λX q Q o=>match X,q with |.c O,.c h=>aO O h/\o (g O h) Q |_,_=>False
def s6 (g:q8):ez:=λX q Q o=>match X,q with |.c O,.c h=>o (g O h) Q |_,_=>False
theorem ER {w:sI} {g:q8}(Y:dF H w (Er aO g)):dF H w (xg aO g):=by
 intro aj z l Q X q v u o a b c V;cases X<;>cases q<;>first |exact V.elim |exact Y aj z l Q _ _ v u o a b c ⟨_,_,rfl,rfl,V.1,V.2⟩
theorem xh {w:sI}{g:q8}(Y:dF H w (qa g)):dF H w (s6 g):=by
 intro aj z l Q X q v u o a b c V;cases X<;>cases q<;>first |exact V.elim |exact Y aj z l Q _ _ v u o a b c ⟨_,_,rfl,rfl,V⟩
abbrev ES:ez:=s6 λO h=>.c (O-h)
abbrev ET:ez:=xg (λ_ h=>0<h) λO h=>.c (O % h)
theorem Ws:dF H (ky .Sub) ES:=xh UG
theorem Wt:dF H (ky .Mod) ET:=ER UH
abbrev EU:ez:=s6 λO h=>.aQ (decide (O<h))
abbrev EV:ez:=s6 λO h=>.aQ (decide (O<=h))
abbrev EW:ez:=s6 λO h=>.aQ (decide (h<O))
abbrev EX:ez:=s6 λO h=>.aQ (decide (h<=O))
theorem Wu:dF H (e0 .Lt) EU:=xh UK
theorem Wv:dF H (e0 .LtE) EV:=xh UL
theorem Ww:dF H (e0 .Gt) EW:=xh UM
theorem Wx:dF H (e0 .GtE) EX:=xh UN
noncomputable def LH (X q:aS):Option Bool:=match q with
 |.a9=>D (decide (X=.a9))|.aQ b=>(match X with |.aQ S=>D (decide (S=b))|_=>i)|_=>i
def EY:ez:=λX q Q o=>match LH X q with |some b=>o (.aQ b) Q |none=>False
def EZ:ez:=λX q Q o=>match LH X q with |some b=>o (.aQ (!b)) Q |none=>False
theorem Wy {a:Model}{r:dM}{k:bq->bz->Prop}{z:bz}{S b:Bool}{o:bq->bz->Prop}(Y:o (.bool (decide (S=b))) z):bT a r (e0 .Is (.bool S) (.bool b)) o k z:=by
 cases S<;>cases b<;>exact dQ Y
theorem Wz {a:Model}{r:dM}{k:bq->bz->Prop}{z:bz}{S b:Bool}{o:bq->bz->Prop}(Y:o (.bool (!decide (S=b))) z):bT a r (e0 .IsNot (.bool S) (.bool b)) o k z:=by
 cases S<;>cases b<;>exact dQ Y
theorem WA:dF H (e0 .Is) EY:=by
 intro aj z l Q X q v u o a c d Y;cases q with
 |a9=>exact UP aj z l Q X _ v u o a c d ⟨rfl,Y⟩|aQ b=>
  cases X with
  |aQ S=>cases c;cases d;exact Wy ⟨.aQ _,Q,a,rfl,Y⟩|_=>exact Y.elim
 |_=>exact Y.elim
theorem WB:dF H (e0 .IsNot) EZ:=by
 intro aj z l Q X q v u o a c d Y;cases q with
 |a9=>exact UQ aj z l Q X _ v u o a c d ⟨rfl,Y⟩|aQ b=>
  cases X with
  |aQ S=>cases c;cases d;exact Wz ⟨.aQ _,Q,a,rfl,Y⟩|_=>exact Y.elim
 |_=>exact Y.elim
noncomputable def u6 (s:bt)(n:bt):Bool:=match s with |[R]=>decide (R∈n)|_=>!(uI ⟨n.toArray⟩ ⟨s.toArray⟩ 0 n.length 1).isEmpty
theorem LI (S b:Str):(!(uI b S 0 b.length 1).isEmpty)=u6 S.cps.toList b.cps.toList:=by
 unfold u6;split
 ·rename_i R a
  rw[(show S=⟨#[R]⟩ by rw[EN S,a])]
  exact StrLaws.found_one b R
 trivial
def xi (I:bK)(cM:Bool):ez:=λX q Q o=>match q with
 |.d b=>(match X with |.d S=>o (.aQ (if cM then !u6 S.cps.toList b.cps.toList else u6 S.cps.toList b.cps.toList)) Q |_=>False)|.a0 N=>∃j,(d1 I Q N j\/fL I Q N j)/\gN X=ag/\j.all gN=ag/\o (.aQ (if cM then !mX X j else mX X j)) Q|_=>False
theorem WC:dF H (e0 .In) (xi H.I aA):=by
 intro aj z l Q X q v u o a c e Y;cases q with
 |d b=>
  cases X with
  |d S=>exact UO aj z l Q _ _ v u o a c e ⟨_,_,rfl,rfl,by rwa[LI]⟩|_=>exact Y.elim
 |a0 N=>
  obtain⟨j,af,ai,bw,f⟩:=Y;exact VS aj z l Q _ _ v u o a c e ⟨_,j,rfl,af,ai,bw,f⟩
 |_=>exact Y.elim
theorem WD:dF H (e0 .NotIn) (xi H.I ag):=by
 intro aj z l Q X q v u o a c e Y;cases q with
 |d b=>
  cases X with
  |d S=>exact UR aj z l Q _ _ v u o a c e ⟨_,_,rfl,rfl,by rwa[LI]⟩|_=>exact Y.elim
 |a0 N=>
  obtain⟨j,af,ai,bw,f⟩:=Y;exact VT aj z l Q _ _ v u o a c e ⟨_,j,rfl,af,ai,bw,f⟩
 |_=>exact Y.elim
def lQ (n:b1):hQ:=λl Q o=>n l Q λX ay=>match X with |.aQ C=>o C ay |_=>False
def s7 (bG dr:b1):b1:=λl Q o=>bG l Q λX aw=>match X with |.aQ R=>cP R (dr l aw o) (o (.aQ aA) aw)|_=>False
def rj (bG dr:b1):b1:=λl Q o=>bG l Q λX aw=>match X with |.aQ R=>cP R (o (.aQ ag) aw) (dr l aw o)|_=>False
def u7 (bG:b1):b1:=λl Q o=>bG l Q λX aw=>match X with |.aQ R=>o (.aQ (!R)) aw |_=>False
def E0 (n u:hQ):hQ:=λl Q o=>n l Q λR aw=>cP R (u l aw o) (o aA aw)
def WE (n u:hQ):hQ:=λl Q o=>n l Q λR aw=>cP R (o ag aw) (u l aw o)
variable {d2:fz}{mU As:hQ}
theorem LJ (d:bu H S bG)(e:bu H (.BoolOp .And (b::d2) pos) dr):bu H (.BoolOp .And (S::b::d2) pos) (s7 bG dr):=by
 intro aj z l Q o f Y;refine BoolOp_and (cv (d aj z l Q _ f Y) λv bf g=>?_)
 obtain⟨X,aw,c,bI,a⟩:=g;cases X with
 |aQ R=>
  cases bI;refine lI ?_;cases R with
  |true=>exact e aj bf l aw o c (a.1 rfl)|false=>exact⟨.aQ aA,aw,c,rfl,a.2 rfl⟩
 |_=>exact a.elim
theorem LK (d:bu H S bG)(e:bu H (.BoolOp .Or (b::d2) pos) dr):bu H (.BoolOp .Or (S::b::d2) pos) (rj bG dr):=by
 intro aj z l Q o f Y;refine BoolOp_or (cv (d aj z l Q _ f Y) λv bf g=>?_)
 obtain⟨X,aw,c,bI,a⟩:=g;cases X with
 |aQ R=>
  cases bI;refine lI ?_;cases R with
  |false=>exact e aj bf l aw o c (a.2 rfl)|true=>exact⟨.aQ ag,aw,c,rfl,a.1 rfl⟩
 |_=>exact a.elim
theorem WG (b:bu H S bG):bu H (.UnaryOp .Not S pos) (u7 bG):=by
 intro aj z l Q o c Y;refine UnaryOp_ (cv (b aj z l Q _ c Y) λv bf d=>?_)
 obtain⟨X,aw,e,bI,a⟩:=d;cases X with
 |aQ R=>cases bI;exact not_of (lI ⟨.aQ _,aw,e,rfl,a⟩)|_=>exact a.elim
theorem E1 (d:hR H S mU)(e:oY H (.BoolOp .And (b::d2) pos) As):oY H (.BoolOp .And (S::b::d2) pos) (E0 mU As):=by
 intro f aj z l Q o g Y;refine isTrue_and (cv (d aj z l Q _ g Y) λR bf h=>?_)
 obtain⟨aw,a,c⟩:=h;cases R with
 |true=>exact e f aj bf l aw o a (c.1 rfl)|false=>exact⟨aw,a,c.2 rfl⟩
theorem LL (d:hR H S mU)(e:oY H (.BoolOp .Or (b::d2) pos) As):oY H (.BoolOp .Or (S::b::d2) pos) (WE mU As):=by
 intro f aj z l Q o g Y;refine isTrue_or (cv (d aj z l Q _ g Y) λR bf h=>?_)
 obtain⟨aw,a,c⟩:=h;cases R with
 |true=>exact⟨aw,a,c.1 rfl⟩|false=>exact e f aj bf l aw o a (c.2 rfl)
theorem WH {e:bV}{n:b1}(Y:bu H e n)(c:∀a,isTrue e H.x a=(do let v <- a;standAt e.pos;holding [v] (truthy v)):=by intro _;rfl):hR H e (lQ n):=by
 intro aj z l Q o d hw;refine isTrue_plain (cv (Y aj z l Q _ d hw) λv bf f=>?_) (c _)
 obtain⟨X,aw,g,bI,b⟩:=f;cases X with
 |aQ R=>cases bI;exact lI ⟨aw,g,b⟩|_=>exact b.elim
theorem WI {a:CmpOp}{E:ez}(d:dF H (e0 a) E)(e:bu H S bG)(f:bu H b dr)(g:behindInMarks a b=aA:=by fail "2"):hR H (.Compare S [a] [b] pos) (lQ (n9 E bG dr)):=by
 intro aj z l Q o h hw;refine wpAny_isTrue_Compare1 (z6 e f h hw λv u bo X q a7 j k m V=>?_) g
 refine cv (d aj bo l a7 X q v u _ j k m V) λR w n=>?_
 obtain⟨G,p,s,t,c⟩:=n;cases G with
 |aQ C=>cases t;exact lI ⟨p,s,c⟩|_=>exact c.elim
theorem WJ {a:CmpOp}{E:ez}(c:dF H (e0 a) E)(d:bu H S bG)(e:bu H b dr)(f:behindInMarks a b=aA:=by fail "2"):bu H (.Compare S [a] [b] pos) (n9 E bG dr):=US c d e f
def Au (n:hQ)(bG dr:b1):b1:=λl Q o=>n l Q λR aw=>cP R (bG l aw o) (dr l aw o)
theorem WK {R:bV}(d:hR H R mU)(e:bu H S bG)(f:bu H b dr):bu H (.IfExp R S b pos) (Au mU bG dr):=by
 intro aj z l Q o g Y;refine wpAny_IfExp (cv (d aj z l Q _ g Y) λt bf h=>?_)
 obtain⟨aw,a,c⟩:=h;cases t with
 |true=>exact e aj bf l aw o a (c.1 rfl)|false=>exact f aj bf l aw o a (c.2 rfl)
def s8 (R:hQ)(n u:gf):gf:=λa l Q=>R l Q λb aw=>cP b (n a l aw) (u a l aw)
theorem Av {R:bV}{S b:lb}{i8:hQ}{n u:gf}(e:hR H R i8)(f:mT H S n)(g:mT H b u):jN H (.If R S b pos) (s8 i8 n u):=by
 intro aj z l Q a h Y;refine wpAny_If (cv (e aj z l Q _ h Y) λt bf j=>?_)
 obtain⟨aw,c,d⟩:=j;cases t with
 |true=>exact f aj bf l aw a c (d.1 rfl)|false=>exact g aj bf l aw a c (d.2 rfl)
def xj (E b:ez)(bG dr i8:b1):b1:=λl Q o=>bG l Q λX aw=>dr l aw λq a7=>E X q a7 λG a=>match G with |.aQ C=>cP C (i8 l a λp c=>b q p c o) (o (.aQ aA) a)|_=>False
theorem WL {a c:CmpOp}{E e:ez}(h:dF H (e0 a) E)(j:dF H (e0 c) e)(k:bu H S bG)(m:bu H b dr)(n:bu H R i8)
  (p:lastMarks [a,c] [b,R]=aA:=by with_unfolding_all rfl):bu H (.Compare S [a,c] [b,R] pos) (xj E e bG dr i8):=by
 intro aj z l Q o s Y;refine Compare_chain (cv (k aj z l Q _ s Y) λv bf ⟨X,aw,w,bI,x⟩=>chain_link (cv (m aj bf l aw _ w x) λu bo ⟨q,a7,y,bW,A⟩=>
  cv (h aj bo l a7 X q v u _ y bI bW A) λt B ⟨G,f,g,F,d⟩=>?_)) p
 cases G with
 |aQ C=>
  cases F;refine lI ?_;cases C with
  |false=>exact ite_ff ⟨.aQ aA,f,g,rfl,d.2 rfl⟩|true=>exact ite_tt (chain_last (cv (n aj B l f _ g (d.1 rfl)) λI J ⟨K,L,M,N,O⟩=>j aj J l L q K u I o M bW N O))
 |_=>exact d.elim
theorem WM {a c:CmpOp}{E e:ez}(j:dF H (e0 a) E)(k:dF H (e0 c) e)(m:bu H S bG)(n:bu H b dr)(p:bu H R i8)
  (s:lastMarks [a,c] [b,R]=aA:=by with_unfolding_all rfl):hR H (.Compare S [a,c] [b,R] pos) (lQ (xj E e bG dr i8)):=by
 intro aj z l Q o w Y;refine isTrue_chain (cv (m aj z l Q _ w Y) λv bf ⟨X,aw,x,bI,y⟩=>test_link (cv (n aj bf l aw _ x y) λu bo ⟨q,a7,A,bW,B⟩=>
  cv (j aj bo l a7 X q v u _ A bI bW B) λt F ⟨G,f,g,I,d⟩=>?_)) s
 cases G with
 |aQ C=>
  cases I;refine lI ?_;cases C with
  |false=>exact ite_ff ⟨f,g,d.2 rfl⟩|true=>
   refine ite_tt (test_last (cv (p aj F l f _ g (d.1 rfl)) λJ K ⟨L,M,N,O,P⟩=>cv (k aj K l M q L u J _ N bW O P) λeh aa T=>?_))
   obtain⟨U,V,W,Z,h⟩:=T;cases U with
   |aQ ab=>cases Z;exact lI ⟨V,W,h⟩|_=>exact h.elim
 |_=>exact d.elim
end
section
variable {H:bU}{S b R e:bV}{bG:b1}{n:fY}
def Aw (I:bK):ez:=λX q Q o=>match q with
 |.c O=>(match X with
  |.a0 N=>∃j,(d1 I Q N j\/fL I Q N j)/\(match dW j O with |some v=>o v Q |none=>False)|.d G=>G.cps.toList.length<=cA/\(match dW G.cps.toList O with |some R=>o (eX [R]) Q |none=>False)|_=>False)
 |_=>False
theorem WN:sY H (Aw H.I):=by
 intro kL f aj z l Q X q v u o g h k Y m;cases q with
 |c O=>
  cases X with
  |a0 N=>
   obtain⟨j,b,Y⟩:=Y;cases a:dW j O with
   |none=>simp_all|some e=>
    rw[a]at Y;rcases b with b |b
    ·exact VG kL f aj z l Q _ _ v u o g h k ⟨N,j,O,e,rfl,rfl,b,a,Y⟩ m
    exact VH kL f aj z l Q _ _ v u o g h k ⟨N,j,O,e,rfl,rfl,b,a,Y⟩ m
  |d G=>
   obtain⟨n,Y⟩:=Y;cases a:dW G.cps.toList O with
   |none=>simp_all|some e=>
    rw[a]at Y;exact VJ kL f aj z l Q _ _ v u o g h k ⟨G,O,e,rfl,rfl,by trivial,a,Y⟩ m
  |_=>exact Y.elim
 |_=>exact Y.elim
def LM (I:bK):aS->eR->eR->ar->cm->Prop:=λX a8 aE Q o=>match X with
 |.d G=>G.cps.toList.length<=cA/\o (eX (mY G.cps.toList a8 aE)) Q|.a0 S=>∃j,d1 I Q S j/\∀N,Q N=i->o (.a0 N) (cq Q N (.aM (rg j a8 aE)))|_=>False
theorem WO:n_ H (LM H.I):=by
 intro aj z l Q X v a b a8 aE c o e f g h k Y;cases X with
 |d G=>exact Wn aj z l Q _ v a b a8 aE c o e f g h k ⟨by simpa [ny]using Y.1,Y.2⟩|a0 N=>
  obtain⟨j,af,ai⟩:=Y;exact VR aj z l Q _ v a b a8 aE c o e f g h k ⟨N,j,rfl,af,ai⟩
 |_=>exact Y.elim
def Ax (n:b1):qd:=λl Q o=>n l Q λX aw=>match X with |.c O=>o (D O) aw |_=>False
theorem LN (Y:bu H e bG):sX H (D e) (Ax bG):=by
 intro aj z l Q o b hw;refine cv (Y aj z l Q _ b hw) λu bf d=>?_
 obtain⟨X,aw,f,bI,a⟩:=d;cases X with
 |c O=>obtain⟨n,rfl⟩:=bI;exact⟨D O,aw,f,.int O n,a⟩|_=>exact a.elim
def Ay (I:bK):List aS->ar->cm->Prop:=λj Q o=>match j with
 |[.d G]=>G.cps.toList.length<=cA/\o (.c G.cps.toList.length) Q|[.a0 N]=>∃aV,(d1 I Q N aV\/fL I Q N aV)/\o (.c aV.length) Q|_=>False
theorem WQ {I:bK}{j:bp}{Q:ar}{o:cm}(Y:Ay I j Q o):(∃G,j=[.d G]/\G.cps.toList.length<=cA/\o (.c G.cps.toList.length) Q)\/∃N aV,j=[.a0 N]/\(d1 I Q N aV\/fL I Q N aV)/\o (.c aV.length) Q:=by
 rcases j with _ |⟨X,_ |⟨q,n⟩⟩
 ·exact fX Y
 ·cases X with
  |d G=>exact .inl ⟨G,rfl,Y⟩|a0 N=>obtain⟨aV,Y⟩:=Y;exact .inr ⟨N,aV,rfl,Y⟩|_=>exact fX Y
 cases X<;>exact fX Y
theorem WR:i9 H (.builtin "len") (Ay H.I):=by
 intro aj z l Q j ae o a E Y;rcases WQ Y with⟨G,rfl,Y⟩|⟨N,aV,rfl,af,ai⟩
 ·exact VV aj z l Q _ ae o a E ⟨_,rfl,by simpa [ny]using Y.1,by simpa [ny]using Y.2⟩
 exact VU aj z l Q _ ae o a E ⟨_,aV,rfl,af,ai⟩
def Az (g:Int->Int->Int):List aS->ar->cm->Prop:=λj Q o=>match j with |[.c O,.c h]=>o (.c (g O h)) Q |_=>False
theorem WS {g:Int->Int->Int} {Q:ar}(Y:Az g j Q o):∃O h,j=[.c O,.c h]/\o (.c (g O h)) Q:=by
 rcases j with _ |⟨X,_ |⟨q,_ |⟨p,n⟩⟩⟩
 ·exact fX Y
 ·cases X<;>exact fX Y
 ·cases X with
  |c O=>cases q with
   |c h=>exact⟨O,h,rfl,Y⟩|_=>exact fX Y
  |_=>exact fX Y
 cases X with
|c O=>cases q<;>exact fX Y
|_=>exact fX Y
theorem WT (a:H.fD=ag):i9 H (.builtin "min") (Az min):=by
 intro aj z l Q j ae o b E Y;obtain⟨O,h,rfl,Y⟩:=WS Y;refine UU a aj z l Q _ ae o b E ⟨O,h,rfl,?_⟩;lia
def E2 (I:bK)(Q:ar):aS->String->Prop:=λX T=>match X with
 |.a9=>T="NoneType" |.aQ _=>T="bool" |.c _=>T="int" |.d _=>T="str"
 |.a0 N=>(T="list" /\ ∃j,Q N=D (.aM j))\/(T="tuple" /\ ∃j,Q N=D (.bb j))|_=>False
theorem WU {I:bK}{Q:ar}{X:aS}{T:String}(Y:E2 I Q X T):mW I Q X (.type T):=by
 cases X with
 |a9=>subst Y;exact .a9|aQ b=>subst Y;exact .aQ b|c O=>subst Y;exact .c O|d G=>subst Y;exact .d G|a0 N=>
  rcases Y with⟨rfl,j,Y⟩|⟨rfl,j,Y⟩
  ·exact .aM Y
  exact .bb Y
 |_=>exact Y.elim
noncomputable def AA (T R:String):Option Bool:=
 if T=R then D ag else if T="bool" /\ R="int" then D ag
 else if(T="bool" \/ T="int" \/ T="str" \/ T="list" \/ T="tuple" \/ T="NoneType")/\(R="bool" \/ R="int" \/ R="str" \/ R="list" \/ R="tuple" \/ R="dict")then D aA else i
theorem WV {I:bK}{T R:String}{b:Bool}(Y:AA T R=D b):zC I (.type T) (.type R)=D b:=by
 unfold AA at Y;split at Y
 ·rename_i e;subst e;cases Y
  unfold zC;rw[if_pos (by simp)]
 ·split at Y
  ·rename_i e;obtain⟨rfl,rfl⟩:=e;cases (Y);rfl
  ·split at Y
   ·rename_i af ai e
    cases Y;obtain⟨aR,aB⟩:=e;rcases aR with rfl |rfl |rfl |rfl |rfl |rfl<;>rcases aB with rfl |rfl |rfl |rfl |rfl |rfl<;>first |rfl |exact absurd rfl af |exact absurd ⟨rfl,rfl⟩ ai
   cases Y
noncomputable def nE (s:bt)(n:bt):Int:=Txt.find ⟨s.toArray⟩ ⟨n.toArray⟩
theorem WW (s:bt)(R:Nat):nE s [R]=(match s.findIdx? (· == R)with |some O=>(O:Int)|none => -1):=by
 unfold nE;rcases find_whole _ _ with⟨af,ai⟩|⟨O,af,ai,bw⟩
 ·rw[af]
  have:s.findIdx? (· == R)=i:=by
   rw[List.findIdx?_eq_none_iff];intro X d;obtain⟨h,a⟩:=Jn.mp d;by_cases b:X=R
   ·subst b
    exact absurd ((zO _ X h).mpr (by simpa using a)) (ai h)
   simpa using b
  rw[this]
 ·rw[af]
  have aE  := by simpa using(zO _ R O).mp ai
  have:s.findIdx? (· == R)=D O:=by
   obtain⟨c,e⟩:=ia.mp aE;rw[List.findIdx?_eq_some_iff_getElem];refine⟨c,by simp[e],λh a=>?_⟩
   have f  := JU a c;intro g;have j:s[h]=R:=by simpa using g
   exact(bw h a) ((zO _ R h).mpr (by simp[f,j]))
  rw[this]
def AB:aS->bp->ar->cm->Prop:=λX j Q o=>match X,j with |.d s,[.d n]=>o (.c (nE s.cps.toList n.cps.toList)) Q |_,_=>False
theorem WX {X:aS} {Q:ar}(Y:AB X j Q o):∃s n,X=.d s/\j=[.d n]/\o (.c (nE s.cps.toList n.cps.toList)) Q:=by
 cases X with
 |d s=>
  rcases j with _ |⟨q,_ |⟨G,n⟩⟩
  ·exact fX Y
  ·cases q with
   |d n=>exact⟨s,n,rfl,rfl,Y⟩|_=>exact fX Y
  cases q<;>exact fX Y
 |_=>exact fX Y
theorem WY:o7 H "str.find" AB:=by
 intro aj z l Q X j v ae o a b c Y;obtain⟨s,n,rfl,rfl,Y⟩:=WX Y;obtain⟨C,rfl⟩:=b;obtain⟨u,rfl,d⟩:=c.cW;obtain⟨e,rfl⟩:=d;exact SC.find ⟨.c _,Q,a.fS _,⟨_,rfl⟩,Y⟩
def AD:aS->bp->ar->cm->Prop:=λX j Q o=>match X,j with |.d s,[.d n]=>nE s.cps.toList n.cps.toList ≠ -1/\o (.c (nE s.cps.toList n.cps.toList)) Q |_,_=>False
theorem WZ:o7 H "str.index" AD:=by
 intro aj z l Q X j v ae o b c d Y;unfold AD at Y;split at Y
 ·rename_i s n
  obtain⟨C,rfl⟩:=c;obtain⟨u,rfl,f⟩:=d.cW;obtain⟨g,rfl⟩:=f;have e:Txt.find s n=nE _ _:=rfl;rw[<- e]at Y;unfold Txt.find at Y;cases a:uI s n 0 _ 1 with
  |nil=>rw[a]at Y;exact absurd rfl Y.1|cons O d2=>
   rw[a]at Y;exact SC.index a ⟨.c _,Q,b.fS _,⟨_,rfl⟩,Y.2⟩
 exact Y.elim
noncomputable def pa:bp->Option c_
 |[]=>D []|.d G::E=>(pa E).map (G::·)|_::_=>i
theorem W0:pa a=D γ->a=γ.map aS.d:=by
 induction a generalizing γ with
 |nil=>intro Y;cases (Y);rfl
 |cons v E b=>
  intro Y;cases v with
  |d G=>
   unfold pa at Y;cases e:pa E with
   |_=>grind
  |_=>cases Y
noncomputable def xk (a:bt)(b:c_):List Nat:=(Txt.join ⟨a.toArray⟩ b).cps.toList
def AE (I:bK):aS->bp->ar->cm->Prop:=λX j Q o=>match X,j with
 |.d s,[.a0 c]=>∃a,(d1 I Q c a)/\(match pa a with |some b=>JoinOk s b=ag/\o (eX (xk s.cps.toList b)) Q |none=>False)|_,_=>False
theorem LO:∀{a:c_}{ae:dt},b9 (a.map aS.d) ae->∃s:List (Str×Tok),ae=strValues s/\s.map (·.1)=a
 |[],ae,E=>by cases E;exact⟨[],rfl,rfl⟩
 |G::a,ae,E=>by
  cases E with
  |cons E kJ=>
   obtain⟨n,rfl⟩:=E;obtain⟨s,rfl,b⟩:=LO kJ;exact⟨(G,n)::s,rfl,by rw[eW,b]⟩
theorem W2 {I:bK}{X:aS}{j:bp}{Q:ar}{o:cm}(Y:AE I X j Q o):∃s b,X=.d s/\j=[.a0 b]/\∃a,(d1 I Q b a)/\(match pa a with |some c=>JoinOk s c=ag/\o (eX (xk s.cps.toList c)) Q |none=>False):=by
 cases X with
 |d s=>
  rcases j with _ |⟨q,_ |⟨G,n⟩⟩
  ·exact fX Y
  ·cases q with
   |a0 n=>exact⟨s,n,rfl,rfl,Y⟩|_=>exact fX Y
  cases q<;>exact fX Y
 |_=>exact fX Y
theorem W3:o7 H "str.join" (AE H.I):=by
 intro aj z l Q X j v ae o c d e Y;obtain⟨s,m,rfl,rfl,Y⟩:=W2 Y
 ·obtain⟨C,rfl⟩:=d
  obtain⟨u,rfl,f⟩:=e.cW;cases f;obtain⟨a,g,Y⟩:=Y;cases b:pa a with
  |none=>rw[b]at Y;exact Y.elim|some n=>
   rw[b]at Y;have h:=W0 b;subst h;obtain⟨p,E,N,q⟩:=c.d9 g;obtain⟨t,aR,aB⟩:=LO E;subst aR;refine kE (SC.join N.isList aB Y.1 λk w x=>⟨eX _,Q,c.fS _,⟨k,?_⟩,Y.2⟩)
   rfl
end
def AF (P:dk)(p:cN)(I:bK)(a6:e2)(bj:Heap)(dN:kh)(C:Nat)(X:Str)(aJ:c_)(cx:gW):Prop:=
 ∃w bP,gX P p I a6 bj dN C w bP aJ cx/\a6 X=D (.ref w)/\k_ I (.ref w)=ag/\iC I bP aJ []
def u9 (a6:e2)(X:Str)(v:aS):Prop:=∃u,a6 X=D u/\cw v u
abbrev s9 (a6:e2)(X:Str):Prop:=a6 X=i
section
variable {H:bU}{X:Str}{N pos:Pos}{e:bV}{ax:fz}{n:fY}{bZ:bV}
theorem LP (Y:u9 H.a6 X v)(a:i6 H X:=by rfl)(b:(X==("__debug__":Str))=aA:=by decide):bu H (.Name X pos) (hy v):=by
 obtain⟨u,c,E⟩:=Y;exact T9 a c E b
theorem W4 (T:String)(a:s9 H.a6 X)(b:i6 H X:=by rfl)(c:oO X=D (.type T):=by rfl)(d:X ≠ "__name__":=by decide)(e:(X==("__debug__":Str))=aA:=by decide):bu H (.Name X pos) (hy (.gd T)):=
 T_ b a c rfl d e
theorem u_ {id:String}{E:bp->ar->cm->Prop}(a:i9 H (.builtin id) E)(b:s9 H.a6 X)(c:gV H (e::ax) n)(d:i6 H X:=by rfl)(f:oO X=D (.builtin id):=by rfl)(g:X ≠ "__name__":=by decide)(h:(X==("__debug__":Str))=aA:=by decide)
  (j:eH (e::ax) H.x=(aA,eval e H.x)::eH ax H.x:=by rfl) (k:(iu pos (eH ax H.x)).any (·.1)=aA:=by rfl):bu H (.Call (.Name X N) (e::ax) [] pos) (lO E n):=
 Vr a d b f c g h j k
theorem va {A:bV}{to:b1}{name:Str}{id:String}{E:aS->bp->ar->cm->Prop}{fE ie:Pos}(a:Slot "str" name id)(b:typeOf (.builtin id)=pure (.type "method_descriptor"))(c:o7 H id E)(d:bu H A to)(f:gV H (e::ax) n)
  (af:attributeBase A name H.x (eval A H.x)=eval A H.x:=by rfl) (ai:((((iu ie (eH (e::ax) H.x)).all λX=>!X.fst) && (pU ie (pT [] H.x)).all λX=>X.fst.isSome) && decide (((e::ax).length+([]:List Keyword).length+if([]:List Keyword).isEmpty=ag then 0 else 1)<30))=ag:=by rfl)
  (bw:(fE.endLine == ie.line)=ag:=by rfl) (g:eH (e::ax) H.x=(aA,eval e H.x)::eH ax H.x:=by rfl) (h:((iu ie (eH ax H.x)).any λX=>X.fst)=aA:=by rfl):
  bu H (.Call (.Attribute A name fE) (e::ax) [] ie) (qe H.I "str" E to n):=Aj Ko a b c d f af ai bw g h
def LQ (I:bK)(iU:b1):p_:=λl Q a3=>iU l Q λX aw=>match X with
 |.d G=>a3 (Am G.cps.toList.length (λO=>eX [G.cps.toList.getD O 0])) aw|.a0 S=>((∃j,d1 I aw S j)/\a3 (Em I S) aw)\/((∃j,fL I aw S j)/\a3 (En I S) aw)|_=>False
theorem W5 (G:Str):mm G=λO=>eX [G.cps.toList.getD O 0]:=by
 funext O;unfold mm;simp_all
theorem W6 {s:bV}(k:bu H s iU):o3 H bZ s (LQ H.I iU):=by
 intro aj z l Q a3 m Y;refine cv (k aj z l Q _ m Y) λv bf o=>?_
 obtain⟨X,aw,a,bI,f⟩:=o;have t:∀(v:aS),bu H s (hy v)->bu H s (hy v):=λ_ Y=>Y
 cases X with
 |d G=>
  obtain⟨n,rfl⟩:=bI;refine wpAny_pyIter_strU ?_;have V:a3 (Am G.cps.size (mm G)) aw:=by
   have e:G.cps.toList.length=G.cps.size:=by simp
   rw[W5,<- e];exact f
  refine⟨bf.heap.objs.size,[bf.heap.objs.size],_,_,aw,rfl,a.jm (a:=bf.toks) λb A e=>eQ _ e,V9 _ G n,⟨mc _,⟨_,gK _ rfl,rfl,rfl⟩⟩,λb c=>?_,V⟩
  have e:b=bf.heap.objs.size:=by simpa using c
  subst e;exact a.sU (cZ _) (a.cL.fK (cZ _))
 |a0 S=>
  cases bI;rcases f with⟨⟨j,g⟩,V⟩|⟨⟨j,g⟩,V⟩
  ·obtain⟨h,p,N,q⟩:=a.d9 g
   refine wpAny_pyIter_list N.isList ?_;refine⟨bf.heap.objs.size,[bf.heap.objs.size],_,_,aw,rfl,a.jm (a:=bf.toks) λb A e=>eQ _ e,Ux S _,⟨_,gK _ rfl,rfl,rfl⟩,λb c=>?_,V⟩
   have e:b=bf.heap.objs.size:=by simpa using c
   subst e;exact a.sU (cZ _) (a.cL.fK (cZ _))
  ·obtain⟨h,p,N,q⟩:=a.gC g
   refine wpAny_pyIter_tuple (show bf.heap.IsTuple S h.toArray from N) ?_
   refine⟨bf.heap.objs.size,[bf.heap.objs.size],_,_,aw,rfl,a.jm (a:=bf.toks) λb A e=>eQ _ e,Uy S _,⟨_,gK _ rfl,rfl,rfl⟩,λb c=>?_,V⟩
   have e:b=bf.heap.objs.size:=by simpa using c
   subst e;exact a.sU (cZ _) (a.cL.fK (cZ _))
 |_=>exact f.elim
def W7 (bG:fY):p_:=λl Q a3=>bG l Q λa aw=>match a with |[.c h] => -(2 ^ 62)<=h/\h<2 ^ 62/\a3 (o4 0 h.toNat) aw |_=>False
def W8 (bG:fY):p_:=λl Q a3=>bG l Q λa aw=>match a with |[.c O,.c h]=>(-(2 ^ 62)<=O/\O<2 ^ 62 /\ -(2 ^ 62)<=h/\h<2 ^ 62)/\a3 (o4 O (h-O).toNat) aw |_=>False
end
section
variable {H:bU}{bZ:bV}
theorem W9 (d:s9 H.a6 "range")(e:gV H [S] bG)(f:i6 H "range":=by rfl)(g:eH [S] H.x=[(aA,eval S H.x)]:=by rfl):o3 H bZ (.Call (.Name "range" N) [S] [] pos) (W7 bG):=by
 intro aj z l Q a3 c Y;refine Call_ (sR c f d boot_range (wM (cv (e pos aj z l Q _ c Y) λae bf h=>?_) g rfl))
 obtain⟨a,aw,j,bI,b⟩:=h
 try dsimp only at b
 split at b
 ·obtain⟨k,m,V⟩:=b
  cases bI with
  |cons E kJ=>
   cases kJ;obtain⟨n,rfl⟩:=E;exact call_range_1 (KU j (by lia) (by lia) k m (by simpa using V))
 exact b.elim
theorem W_ (f:s9 H.a6 "range")(g:gV H [S,b] bG)(h:i6 H "range":=by rfl)(j:eH [S,b] H.x=[(aA,eval S H.x),(aA,eval b H.x)]:=by rfl)(d:eH [b] H.x=[(aA,eval b H.x)]:=by rfl):
  o3 H bZ (.Call (.Name "range" N) [S,b] [] pos) (W8 bG):=by
 intro aj z l Q a3 e Y;refine Call_ (sR e h f boot_range (wM (cv (g pos aj z l Q _ e Y) λae bf k=>?_) (by rw[j,d]) (by rw[d];rfl)))
 obtain⟨a,aw,m,bI,c⟩:=k
 try dsimp only at c
 split at c
 ·obtain⟨⟨c,o,p,q⟩,V⟩:=c
  cases bI with
  |cons E kJ=>
   cases kJ with
   |cons s kJ=>
    cases kJ;obtain⟨n,rfl⟩:=E;obtain⟨t,rfl⟩:=s;exact call_range_2 (KU m c o p q V)
 exact c.elim
def LR:kH:=λa l Q o=>match a with |[]=>o l Q |_=>False
def LS (n:i7)(u:kH):kH:=λa l Q o=>match a with |v::E=>n v l Q λb ay=>u E b ay o |[]=>False
theorem Xa:n8 H [] LR:=by
 intro aj z l Q a ae o b E Y;cases a with
 |nil=>exact Ur aj z l Q [] ae o b E ⟨rfl,Y⟩|cons _ _=>exact Y.elim
theorem Xb {e:bV} {n:i7}(af:kf H e n)(ai:n8 H ax u)
  (b:(j8 (e::ax) H.x).map (·.2)=assign e H.x::(j8 ax H.x).map (·.2):=by rfl):n8 H (e::ax) (LS n u):=by
 intro aj z l Q a ae o c E Y;cases a with
 |nil=>exact Y.elim|cons v d=>exact Us af ai b aj z l Q _ ae o c E ⟨v,d,rfl,Y⟩
def LU (I:bK)(y:Nat)(n:kH):i7:=λv l Q o=>match v with |.a0 S=>∃j,fL I Q S j/\j.length=y/\n j l Q o |_=>False
theorem Xc {C:Nat}{n:kH}{y:Nat}(a:H.fD=ag)(Y:n8 H ax n)
  (b:(j8 ax H.x).length=y:=by rfl) (c:(j8 ax H.x).findIdx? (·.1)=i:=by rfl):kf H (.Tuple ax C pos) (LU H.I y n):=by
 intro aj z l Q v u o d E hw;cases v with
 |a0 S=>
  obtain⟨j,af,ai,bw⟩:=hw;exact Uu a Y b c aj z l Q _ u o d E ⟨S,j,rfl,af,ai,bw⟩
 |_=>exact hw.elim
def AG (bG:b1):b1:=λl Q o=>bG l Q λX aw=>match X with |.c O=>o (.c (-O)) aw |_=>False
theorem LV (b:bu H S bG):bu H (.UnaryOp .USub S pos) (AG bG):=by
 intro aj z l Q o d Y;refine UnaryOp_ (cv (b aj z l Q _ d Y) λv bf e=>?_)
 obtain⟨X,aw,f,bI,a⟩:=e;cases X with
 |c O=>exact UJ aj bf l aw _ v o f bI ⟨O,rfl,a⟩|_=>exact a.elim
end
theorem pb {Q:ar}(Y:Q N=i)(A:lM):bx Q (cq Q N A):=λb u V=>by rwa[f6 (sL V Y)]
theorem bx.bb {I:bK}{Q ay:ar}{S:ba}{j:bp}(e:bx Q ay)(Y:fL I Q S j):fL I ay S j:=by
 rcases Y with(Y |⟨A,Y⟩)|Y
 ·exact .inl (.inl (e _ _ Y))
 ·exact .inl (.inr ⟨A,e _ _ Y⟩)
 exact .inr Y
theorem lR {y:Nat}(Y:y<=100000):y<=cA:=by rw[sizeLine_eq];lia
section
variable {H:bU}
def LW:uX:=λA O v Q o=>match O with
 |.c C=>(match A with
  |.a0 N=>∃j,Q N=D (.aM j)/\(match ic j.length C with |some h=>o (cq Q N (.aM (j.set h v)))|none=>False)|_=>False)
 |_=>False
theorem Xd:z2 H LW:=by
 intro aj z l Q A O v a b u o d f g k Y;cases O with
 |c C=>
  cases A with
  |a0 N=>
   obtain⟨j,af,Y⟩:=Y;cases e:ic j.length C with
   |none=>simp_all|some h=>
    rw[e]at Y;exact VN aj z l Q _ _ v a b u o d f g k ⟨N,j,C,h,rfl,rfl,af,e,Y⟩
  |_=>exact Y.elim
 |_=>exact Y.elim
noncomputable def cH (O:Int):List Nat:=(sE (toString O)).cps.toList
def AH:bp->ar->cm->Prop:=λj Q o=>match j with |[.c O]=>O.natAbs.log2<1920/\o (eX (cH O)) Q |_=>False
theorem Xe:i9 H (.type "str") AH:=by
 intro aj z l Q j ae o a E Y;unfold AH at Y;split at Y
 ·rename_i O
  exact UW aj z l Q _ ae o a E ⟨O,rfl,Y.1,Y.2⟩
 exact Y.elim
variable {X:Str}{N pos:Pos}{e:bV}{ax:fz}{n:fY}
theorem xl (T:String){E:bp->ar->cm->Prop}(a:i9 H (.type T) E)(b:s9 H.a6 X)(c:gV H (e::ax) n)(d:i6 H X:=by rfl)(f:oO X=D (.type T):=by rfl)(g:X ≠ "__name__":=by decide)(h:(X==("__debug__":Str))=aA:=by decide)
  (j:eH (e::ax) H.x=(aA,eval e H.x)::eH ax H.x:=by rfl) (k:(iu pos (eH ax H.x)).any (·.1)=aA:=by rfl):bu H (.Call (.Name X N) (e::ax) [] pos) (lO E n):=
 Vs a d b f c g h j k
end
def Xf (X aO:ba)(t:jl)(Y:Heap):Prop:=∃A a,Y.get? X=D A/\A.cls=.ref aO/\A.dict=t/\A.data=.fields a/\a[2]?=D .none
noncomputable abbrev Xg (X aO:ba)(t:jl):lM:=.ext (Xf X aO t)
def Xh (bS:ba)(au:n5)(Y:Heap):Prop:=∃fA,Y.Ns1 bS fA/\(∀w,lh (au.lookup w) (fA w))/\zc fA (au.map (·.1))
abbrev Xi (bS:ba)(au:n5):lM:=.ext (Xh bS au)
def dz (I:bK)(X:Str):ba:=match gL I ft X with |some (D (.ref R))=>R |_=>0
theorem s_ {I:bK}{X:Str}{R:ba}(Y:gL I ft X=D (D (.ref R))):dz I X=R:=by unfold dz;rw[Y]
section
variable {H:bU}{S:bV}{bG:b1}{pos:Pos}
def E3:aS->ar->cm->Prop:=λX Q o=>match X with |.d G=>G.length<=cA/\o (.d G) Q |.c O=>O.natAbs.log2<1920/\o (eX (cH O)) Q |_=>False
theorem Xj (e:bu H S bG):bu H (.FormattedValue S (-1) i pos) (Ep E3 bG):=by
 intro aj z l Q o f Y;refine wpAny_FormattedValue_plain (cv (e aj z l Q _ f Y) λv bf g=>?_)
 obtain⟨X,aw,b,bI,a⟩:=g;cases X with
 |d G=>
  obtain⟨C,rfl⟩:=bI;exact wpAny_formatField_str ⟨.d G,aw,b,⟨_,rfl⟩,a.2⟩ ⟨.d G,aw,b.fS _,⟨_,rfl⟩,a.2⟩ a.1
 |c O=>
  obtain⟨C,rfl⟩:=bI;refine wpAny_formatField_int a.1 ⟨eX _,aw,b.fS _,⟨bf.toks+1,?_⟩,a.2⟩;trivial
 |_=>exact a.elim
abbrev ta:=Str->ck->ar->(Str->ar->Prop)->Prop
def xm (H:bU)(a:fz)(n:ta):Prop:=∀(bA:Str) (aj:dD) (z:bz) (l:ck) (Q:ar) (o:Str->bz->Prop) (a3:Str->ar->Prop),a5 H aj l Q z->n bA l Q a3->(∀b bf aw,a5 H aj l aw bf->a3 b aw->o b bf) ->
 Joins (model H.cu H.p) H.r H.fm (evalEach a H.x) bA o z
def E4:ta:=λbA _ Q a3=>a3 bA Q
def E5 (bG:b1)(a:ta):ta:=λbA l Q a3=>bG l Q λX aw=>match X with |.d G=>(bA++G).length<=cA/\a (bA++G) l aw a3 |_=>False
theorem Xk:xm H [] E4:=λbA aj z l Q o a3 a Y b=>b bA z Q a Y
theorem Xl (c:bu H S bG)(e:xm H a jy)(j:evalEach (S::a) H.x=eval S H.x::evalEach a H.x:=by rfl):xm H (S::a) (E5 bG jy):=by
 intro bA aj z l Q o a3 f Y g;refine kx (c aj z l Q _ f Y) (λv bf V=>?_) λ_ _ q=>q
 obtain⟨X,aw,h,bI,b⟩:=V;cases X with
 |d G=>
  obtain⟨C,rfl⟩:=bI;exact⟨G,C,rfl,b.1,e _ aj bf l aw o a3 h b.2 g⟩
 |_=>exact b.elim
def E6 (b:ta):b1:=λl Q o=>b zL l Q λa aw=>a.length<=cA/\o (.d a) aw
theorem Xm (Y:xm H (S::b::a) tj):bu H (.JoinedStr (S::b::a) pos) (E6 tj):=by
 intro aj z l Q o d V;refine wpAny_JoinedStr (Y _ aj z l Q _ _ d V λe bf aw f c=>⟨c.1,.d e,aw,f.fS _,⟨_,rfl⟩,c.2⟩)
end
def LY (I:bK)(a:ba)(R:bq):Option Bool:=
 if(jw I (.ref a) "__getattribute__"==D (D (.builtin "BaseException.__getattribute__")) && jw I (.ref a) "__getattr__"==D i && sy I a (.type "BaseException")==D ag) && uG I a && jw I (.ref a) "__class__"==D (D (.builtin "object.__class__")) && zz I (.builtin "object.__class__") "__get__"==D (D (.builtin "getset_descriptor.__get__"))
  && W.takesIn I (.builtin "object.__class__")==D ag && sy I a (.type "object")==D ag then zC I (.ref a) R else i
end L2
namespace LX
open PySem PySem.W PySem.Calls PyProof.Rows Builtin Builtin.ObjectAttr Builtin.Getset_descriptor
end LX
namespace L2
open PySem PySem.Spec PyProof.Rows
def Xn (I:bK)(aO a:ba):Bool:=
 DT I (.ref a)==D (.type "type") && (W.clsIn I a).isSome && sy I a (.type "BaseException")==D ag && sy I aO (.ref a)==D aA
def Xo (I:bK)(aO a:ba):Bool:=
 DT I (.ref a)==D (.type "type") && (W.clsIn I a).isSome && sy I a (.type "BaseException")==D ag && sy I aO (.ref a)==D ag
structure Xp (C:Nat)(r:dM):Prop where
 w8:r.depth+3*C+5<recursionLimit
 aK:r.units+16*C+200<cLine
structure Xq (P:dk)(p:cN)(I:bK)(a6:e2)(bj:Heap)(C:Nat)(w:ba)(bP:i4)(aJ:c_)(cx:gW):Prop where
 cn:∀a Q o k,cx a Q o k->a.length=aJ.length
 f7:∀(r:dM) (b:mf) (z:bz) (Q:ar) (c:Args) (ae:dt) (a:bp) (o:cm) (k:cg),Xp C r->rb P p I a6 bj r b z Q->0<z.toks\/aJ=u0->BindsTo z bP c (aJ.zip ae)->b9 a ae->cx a Q o k ->
  codeAny (model P p) r (.call (.ref w) c) (K4 fv b P p Q z o k) z
def Xr (P:dk)(p:cN)(I:bK)(a6:e2)(bj:Heap)(C:Nat)(X:Str)(aJ:c_)(cx:gW):Prop:=
 ∃w bP,Xq P p I a6 bj C w bP aJ cx/\a6 X=D (.ref w)/\k_ I (.ref w)=ag/\iC I bP aJ []
section
variable {H:bU}
def AI (I:bK):List aS->ar->cm->Prop:=λj Q o=>match j with |[.a0 N]=>∃c6:q7,d1 I Q N (c6.map aS.aQ)/\o (.aQ (c6.all id)) Q |_=>False
theorem LZ:∀{c6:q7}{ae:dt},b9 (c6.map aS.aQ) ae->ae=c6.map sC
 |[],_,.nil=>rfl|b::c6,_,.cons E n=>by rw[LZ n];cases (E);rfl
theorem Xs {P:dk}{p:cN}{r:dM}{c6:q7}:TruthOf P p r (λO v=>(c6.map sC).toArray[O]?=D v) (λO=>c6.getD O aA):=by
 intro O v z o k Y V;have aF:(c6.map sC)[O]?=D v:=by simpa using Y
 rw[gS]at aF;cases e:c6[O]? with
 |none=>simp_all|some b=>
  rw[e]at aF;cases aF;have:c6.getD O aA=b:=by simp_all
  have V:o (c6.getD O aA) z:=V;rw[this]at V;exact lI V
theorem Xt (c6:q7):(fW c6.length).all (λO=>c6.getD O aA)=c6.all id:=by
 rw[Bool.eq_iff_iff,nx,nx];constructor
 ·intro Y b a
  obtain⟨O,aE,e⟩:=Dz a;have:=Y O (ma.mpr aE);rw[nv,gx aE]at this;rwa[<- e]
 ·intro Y O aE
  have aE:=ma.mp aE;rw[nv,gx aE];exact Y _ (si aE)
theorem Xu (d:H.fD=ag):i9 H (.builtin "all") (AI H.I):=by
 intro aj z l Q j ae o c E Y;unfold AI at Y;split at Y
 ·rename_i N
  obtain⟨c6,f,V⟩:=Y;obtain⟨u,rfl,g⟩:=mV E;cases g;obtain⟨k,h,a,m⟩:=c.d9 f;rw[LZ h]at a;refine kE (call_all_walk (wpAny_pyIter_list a.isList ⟨_,_,_,_,_,_,_,rfl,Walks.list (A:=H.r.in1) (c.f.gB d) _ N (gz (e1 a.isList.choose_spec.1)) _,⟨⟨_,gK _ rfl,rfl,rfl⟩,a.isList.at λA e=>eQ _ e⟩,Xs,λaF n iz p=>?_⟩))
  refine⟨.aQ _,Q,c.jm  λb A e=>iz b A (by simpa using gz (e1 e)) (eQ _ e),?_,V⟩
  show sC _=_
  rw[fa,cE,Xt]
 exact Y.elim
def AJ:bp->ar->cm->Prop:=λj Q o=>match j with
 |[.c h]=>∀N,Q N=i->o (.a0 N) (cq Q N (.sJ 0 h))|[.c O,.c h]=>∀N,Q N=i->o (.a0 N) (cq Q N (.sJ O h))|_=>False
theorem Xv:i9 H (.type "range") AJ:=by
 intro aj z l Q j ae o a E Y;unfold AJ at Y;split at Y
 ·obtain⟨u,rfl,n,rfl⟩:=mV E
  refine call_range_1 ⟨.a0 _,_,a.hx  (λb c V=>eQ _ V) (cZ _) ?_,rfl,Y _ (a.cL.fK (cZ _))⟩
  exact⟨_,_,_,gK _ rfl⟩
 ·obtain⟨u,d,rfl,⟨n,rfl⟩,⟨e,rfl⟩⟩:=z_ E
  refine call_range_2 ⟨.a0 _,_,a.hx  (λb c V=>eQ _ V) (cZ _) ?_,rfl,Y _ (a.cL.fK (cZ _))⟩
  exact⟨_,_,_,gK _ rfl⟩
 exact Y.elim
noncomputable def xn (a8 aE:Int):List aS:=(fW (aE-a8).toNat).map λ(O:Nat)=>aS.c (a8+O)
def AK (I:bK):List aS->ar->cm->Prop:=λj Q o=>match j with
 | [.a0 N]=>(∃aV,(d1 I Q N aV\/fL I Q N aV)/\∀s,Q s=i->o (.a0 s) (cq Q s (.aM aV))) \/
   (∃a8 aE,Q N=D (.sJ a8 aE)/\(-50000<=a8/\a8<=50000 /\ -50000<=aE/\aE<=50000)/\∀s,Q s=i->o (.a0 s) (cq Q s (.aM (xn a8 aE))))
 |_=>False
theorem Xw {a8:Int}:∀{y:Nat}{ae:dt},ae.length=y->(∀(h:Nat) (v:bq),ae[h]?=D v->∃n,v=zH (a8+h) n)->b9 ((fW y).map λ(O:Nat)=>aS.c (a8+O)) ae
 |y,ae,c,Y=>by
  refine L0 (by simp_all) λh X u a f=>?_
  rw[gS]at a;cases e:(fW y)[h]? with
  |none=>simp_all|some O=>
   rw[e]at a;cases a;have:=ia.mp e;obtain⟨g,d⟩:=this;rw[Js]at d;subst d;exact Y h u f
 where L0:∀{j:bp}{ae:dt},j.length=ae.length->(∀(h:Nat) X u,j[h]?=D X->ae[h]?=D u->cw X u)->b9 j ae
 |[],[],_,_=>.nil|X::j,u::ae,c,Y=>.cons (Y 0 X u rfl rfl) (L0 (fP c) λh X u S b=>Y (h+1) X u S b)
theorem L1 (c:H.fD=ag):i9 H (.type "list") (AK H.I):=by
 intro aj z l Q j ae o a E Y;have b:∃N,j=[.a0 N]:=by
  rcases j with _ |⟨q,_ |⟨G,n⟩⟩
  ·exact fX Y
  ·cases q with
   |a0 N=>exact⟨N,rfl⟩|_=>exact fX Y
  ·cases q<;>exact fX Y
 obtain⟨N,rfl⟩:=b
 ·rcases Y with⟨aV,d,V⟩|⟨a8,aE,f,⟨af,ai,bw,y⟩,V⟩
  ·exact VW aj z l Q _ ae o a E ⟨N,aV,rfl,d,V⟩
  ·obtain⟨u,rfl,g⟩:=mV E
   cases g;obtain⟨n,u,v,e⟩:=a.cL N _ f;have k:Kt a8 aE 1=(((aE-a8).toNat:Nat):Int):=by rw[rangeSize_one];split<;>lia
   refine kE (call_list_range (a.f.gB c) e (small_one (by lia) (by lia) (by lia) (by lia)) k (by lia) λaF m bA cS p s ⟨t,w⟩ A=>?_)
   refine⟨.a0 z.heap.objs.size,_,a.hx (A:=.aM (xn a8 aE)) (d:=m) p (cZ _) ?_,rfl,V _ (a.cL.fK (cZ _))⟩;refine⟨?_,bA.toList,cS,Xw (by simpa using t) (λh v b=>?_),by simpa using s⟩
   ·unfold xn;rw[cE,qY];exact lR (by lia)
   ·obtain⟨n,x⟩:=w h v (by simpa using b)
    exact⟨n,by rw[x];simp⟩
end
inductive hg (I:bK) (Q:ar):Nat->aS->aS->Bool->Prop
 |tb {X q:aS}(g:gN X=ag) (c:gN q=ag):hg I Q 0 X q (jx X q)
 |aM {y:Nat}{N V:ba}{j aV:List aS}(e:Nat->Bool) (a:d1 I Q N j) (d:d1 I Q V aV) (f:j.length=aV.length) (Y:∀(O:Nat) X q,j[O]?=D X->aV[O]?=D q->hg I Q y X q (e O)):hg I Q (y+1) (.a0 N) (.a0 V) ((fW j.length).all e)
 |rk {y:Nat}{N V:ba}{j aV:List aS}(a:d1 I Q N j) (d:d1 I Q V aV) (f:j.length≠aV.length):hg I Q y (.a0 N) (.a0 V) aA
 |bb {y:Nat}{N V:ba}{j aV:List aS}(e:Nat->Bool) (a:fL I Q N j) (d:fL I Q V aV) (Y:∀(O:Nat) X q,j[O]?=D X->aV[O]?=D q->hg I Q y X q (e O)):hg I Q (y+1) (.a0 N) (.a0 V) ((fW (min j.length aV.length)).all e && j.length == aV.length)
 |iy {y:Nat}{N V:ba}{j aV:List aS}(a:d1 I Q N j) (d:fL I Q V aV):hg I Q y (.a0 N) (.a0 V) aA
 |iU {y:Nat}{N V:ba}{j aV:List aS}(a:fL I Q N j) (d:d1 I Q V aV):hg I Q y (.a0 N) (.a0 V) aA
 |vb {y:Nat}{N:ba}{j:List aS}{q:aS}(a:d1 I Q N j) (c:gN q=ag):hg I Q y (.a0 N) q aA
 |vc {y:Nat}{N:ba}{j:List aS}{q:aS}(a:d1 I Q N j) (c:gN q=ag):hg I Q y q (.a0 N) aA
 |vd {y:Nat}{N:ba}{j:List aS}{q:aS}(a:fL I Q N j) (c:gN q=ag):hg I Q y (.a0 N) q aA
 |mZ {y:Nat}{N:ba}{j:List aS}{q:aS}(a:fL I Q N j) (c:gN q=ag):hg I Q y q (.a0 N) aA
 |i_ {y:Nat}{X q:aS}{b:Bool}(Y:hg I Q y X q b):hg I Q (y+1) X q b
section
variable {H:bU}{aj:dD}{l:ck}{Q:ar}{z:bz}
theorem rm (E:b9 j ae){O:Nat}(Y:O<ae.toArray.size):∃X,j[O]?=D X/\cw X ae.toArray[O]:=by
 have aE:O<ae.length:=by simpa using Y
 have a:=E.dS;obtain⟨u,b,c⟩:=E.g8 (gx (show O<j.length by lia))
 grind
theorem L3 (g:a5 H aj l Q z){y:Nat}{X q:aS}(Y:hg H.I Q y X q b):X=q->b=ag:=by
 induction Y with
 |tb o f=>
  rename_i X q
  rintro rfl;cases X<;>first |(cases o;done)|(simp[jx];done)|rfl
 |aM e a c m Y h=>
  rename_i y N V j aV
  intro d;cases d;have n:=g.sS a c;subst n;rw[nx];intro O aE;have aE:=ma.mp aE;exact h O _ _ (gx aE) (gx aE) rfl
 |rk a c m=>
  intro d;cases d;exact absurd (by rw[g.sS a c]) m
 |bb e a c Y h=>
  rename_i y N V j aV
  intro d;cases d;have n:=g.Ef a c;simp_all
 |iy a c=>
  intro d;cases d;obtain⟨p,bI,k,s⟩:=g.d9 a;obtain⟨t,bW,dI,u⟩:=g.gC c;exact absurd rfl (Ka k.isList dI)
 |iU a c=>
  intro d;cases d;obtain⟨p,bI,k,s⟩:=g.gC a;obtain⟨t,bW,dI,u⟩:=g.d9 c;exact absurd rfl (Ka dI.isList k)
 |vb a f=>rintro rfl;cases f
 |vc a f=>rintro rfl;cases f
 |vd a f=>rintro rfl;cases f
 |mZ a f=>rintro rfl;cases f
 |i_ Y h=>exact h
theorem tc (m:a5 H aj l Q z){y:Nat}{X q:aS}(Y:hg H.I Q y X q b):∀(r:dM) (v u:bq),r.units+y<cLine->cw X v->cw q u ->
  DW r z v u b/\(∀N V,X=.a0 N->q=.a0 V->oS r z v u b):=by
 induction Y with
 |tb L o=>
  intro r v u _ a f;refine⟨Ll a f L o,λN V e _=>?_⟩
  subst e;cases L
 |aM e k p M Y B=>
  rename_i y N V j aV
  intro r v u s a f;cases a;cases f;obtain⟨t,bI,g,w⟩:=m.d9 k;obtain⟨C,bW,dI,F⟩:=m.d9 p;have G:=bI.dS;have I:=bW.dS;have x:oS r z (.ref N) (.ref V) ((fW j.length).all e):=by
   have:=SeqAt.RcAt.lists (A:=r) (e:=e) g.isList dI.isList (by simp only[fa];lia) (by lia) (λh af ai=>by
    obtain⟨X,aT,a⟩:=rm bI af;obtain⟨q,J,f⟩:=rm bW ai;exact(B h X q aT J r.in1 _ _ (by show r.units+1+y<_;lia) a f).1)
   rw[fa,<- G]at this;exact this
  refine⟨?_,λ_ _ _ _=>x⟩
  by_cases E:N=V
  ·subst E
   have K:=m.sS k p;subst K;have:(fW j.length).all e=ag:=by
    rw[nx];intro O aE;have aE:=ma.mp aE;exact L3 m (Y O _ _ (gx aE) (gx aE)) rfl
   rw[this];exact D5 _
  ·exact .of_refs E x
 |rk k p M=>
  rename_i y N V j aV
  intro r v u s a f;cases a;cases f;obtain⟨t,bI,g,w⟩:=m.d9 k;obtain⟨C,bW,dI,F⟩:=m.d9 p;have G:=bI.dS;have I:=bW.dS;have x:oS r z (.ref N) (.ref V) aA:=SeqAt.RcAt.lists_lengths g.isList dI.isList (by simp only[fa,bne_iff_ne,ne_eq];lia) (by lia)
  refine⟨.of_refs (λe=>?_) x,λ_ _ _ _=>x⟩
  subst e;exact M (by rw[m.sS k p])
 |bb e k p Y B=>
  rename_i y N V j aV
  intro r v u s a f;cases a;cases f;obtain⟨t,bI,g,w⟩:=m.gC k;obtain⟨C,bW,dI,F⟩:=m.gC p;have G:=bI.dS;have I:=bW.dS;have x:oS r z (.ref N) (.ref V) ((fW (min j.length aV.length)).all e && j.length == aV.length):=by
   have:=SeqAt.RcAt.tuples (A:=r) (e:=e) (show z.heap.IsTuple N t.toArray from g) (show z.heap.IsTuple V C.toArray from dI) (by lia) (λh af ai=>by
    obtain⟨X,aT,a⟩:=rm bI af;obtain⟨q,J,f⟩:=rm bW ai;exact(B h X q aT J r.in1 _ _ (by show r.units+1+y<_;lia) a f).1)
   rw[fa,fa,<- G,<- I]at this;exact this
  refine⟨?_,λ_ _ _ _=>x⟩
  by_cases E:N=V
  ·subst E
   have K:=m.Ef k p;subst K;have:((fW (min j.length j.length)).all e && j.length == j.length)=ag:=by
    rw[cJ,nx];refine⟨?_,by simp⟩
    intro O aE;have aE:=ma.mp aE;have aE:O<j.length:=by lia
    exact L3 m (Y O _ _ (gx aE) (gx aE)) rfl
   rw[this];exact D5 _
  ·exact .of_refs E x
 |iy k p=>
  intro r v u s a f;cases a;cases f;obtain⟨t,bI,g,w⟩:=m.d9 k;obtain⟨C,bW,dI,F⟩:=m.gC p;exact⟨.list_tuple g.isList dI (by lia),λ_ _ _ _=>.list_tuple g.isList dI (by lia)⟩
 |iU k p=>
  intro r v u s a f;cases a;cases f;obtain⟨t,bI,g,w⟩:=m.gC k;obtain⟨C,bW,dI,F⟩:=m.d9 p;exact⟨.tuple_list g dI.isList (by lia),λ_ _ _ _=>.tuple_list g dI.isList (by lia)⟩
 |vb k o=>
  rename_i y N j q
  intro r v u s a f;cases a;obtain⟨t,bI,g,w⟩:=m.d9 k;refine⟨?_,λ_ _ _ e=>by subst e;cases o⟩
  cases q with
  |a9=>cases f;exact .list_none g.isList (by lia)|aQ b=>cases f;exact .list_bool b g.isList (by lia)|c b=>obtain⟨n,rfl⟩:=f;exact .list_int b n g.isList (by lia)|d b=>obtain⟨n,rfl⟩:=f;exact .list_str b n g.isList (by lia)|_=>cases o
 |vc k o=>
  rename_i y N j q
  intro r v u s a f;cases f;obtain⟨t,bI,g,w⟩:=m.d9 k;refine⟨?_,λ_ _ e _=>by subst e;cases o⟩
  cases q with
  |a9=>cases a;exact .none_list g.isList (by lia)|aQ b=>cases a;exact .bool_list b g.isList (by lia)|c b=>obtain⟨n,rfl⟩:=a;exact .int_list b n g.isList (by lia)|d b=>obtain⟨n,rfl⟩:=a;exact .str_list b n g.isList (by lia)|_=>cases o
 |vd k o=>
  rename_i y N j q
  intro r v u s a f;cases a;obtain⟨t,bI,g,w⟩:=m.gC k;refine⟨?_,λ_ _ _ e=>by subst e;cases o⟩
  cases q with
  |a9=>cases f;exact .tuple_none g (by lia)|aQ b=>cases f;exact .tuple_bool b g (by lia)|c b=>obtain⟨n,rfl⟩:=f;exact .tuple_int b n g (by lia)|d b=>obtain⟨n,rfl⟩:=f;exact .tuple_str b n g (by lia)|_=>cases o
 |mZ k o=>
  rename_i y N j q
  intro r v u s a f;cases f;obtain⟨t,bI,g,w⟩:=m.gC k;refine⟨?_,λ_ _ e _=>by subst e;cases o⟩
  cases q with
  |a9=>cases a;exact .none_tuple g (by lia)|aQ b=>cases a;exact .bool_tuple b g (by lia)|c b=>obtain⟨n,rfl⟩:=a;exact .int_tuple b n g (by lia)|d b=>obtain⟨n,rfl⟩:=a;exact .str_tuple b n g (by lia)|_=>cases o
 |i_ Y B=>
  intro r v u s a f;exact B r v u (by lia) a f
theorem xo (f:a5 H aj l Q z){y:Nat}{X q:aS}(Y:hg H.I Q y X q b):∀(r:dM) (v u:bq),r.units+y<cLine->cw X v->cw q u->∀N V,X=.a0 N->q=.a0 V->sF r z v u (!b):=by
 induction Y with
 |tb E n=>intro r v u _ a c N V e _;subst e;cases E
 |aM e d g F Y x=>
  rename_i y N V j aV
  intro r v u k a c _ _ _ _;cases a;cases c;obtain⟨o,bI,m,s⟩:=f.d9 d;obtain⟨p,bW,dI,t⟩:=f.d9 g;have w:=bI.dS;have B:=bW.dS;have:=Tq (A:=r) (e:=e) m.isList dI.isList (by simp only[fa];lia) (by lia) (λh af ai=>by
   obtain⟨X,aT,a⟩:=rm bI af;obtain⟨q,C,c⟩:=rm bW ai;exact(tc f (Y h X q aT C) r.in1 _ _ (by show r.units+1+y<_;lia) a c).1)
  rw[fa,<- w]at this;exact this
 |rk d g F=>
  intro r v u k a c _ _ _ _;cases a;cases c;obtain⟨o,bI,m,s⟩:=f.d9 d;obtain⟨p,bW,dI,t⟩:=f.d9 g;have w:=bI.dS;have B:=bW.dS;exact SO m.isList dI.isList (by simp only[fa,bne_iff_ne,ne_eq];lia) (by lia)
 |bb e d g Y x=>
  rename_i y N V j aV
  intro r v u k a c _ _ _ _;cases a;cases c;obtain⟨o,bI,m,s⟩:=f.gC d;obtain⟨p,bW,dI,t⟩:=f.gC g;have w:=bI.dS;have B:=bW.dS;have:=Tp (A:=r) (e:=e) (show z.heap.IsTuple N o.toArray from m) (show z.heap.IsTuple V p.toArray from dI) (by lia) (λh af ai=>by
   obtain⟨X,aT,a⟩:=rm bI af;obtain⟨q,C,c⟩:=rm bW ai;exact(tc f (Y h X q aT C) r.in1 _ _ (by show r.units+1+y<_;lia) a c).1)
  rw[fa,fa,<- w,<- B]at this;exact this
 |iy d g=>
  intro r v u k a c _ _ _ _;cases a;cases c;obtain⟨o,bI,m,s⟩:=f.d9 d;obtain⟨p,bW,dI,t⟩:=f.gC g;exact .list_tuple m.isList dI (by lia)
 |iU d g=>
  intro r v u k a c _ _ _ _;cases a;cases c;obtain⟨o,bI,m,s⟩:=f.gC d;obtain⟨p,bW,dI,t⟩:=f.d9 g;exact .tuple_list m dI.isList (by lia)
 |vb d n=>intro r v u k a c _ _ _ e;subst e;cases n
 |vc d n=>intro r v u k a c _ _ e _;subst e;cases n
 |vd d n=>intro r v u k a c _ _ _ e;subst e;cases n
 |mZ d n=>intro r v u k a c _ _ e _;subst e;cases n
 |i_ Y x=>intro r v u k a c;exact x r v u (by lia) a c
end
noncomputable def fc (R:Nat):List Nat->kd
 |[]=>[[]]|t::E=>if t=R then[]::fc R E else match fc R E with |N::aJ=>(t::N)::aJ |[]=>[[t]]
theorem E7 (R:Nat):∀s,fc R s≠[]
 |[]=>by simp[fc]
 |t::E=>by unfold fc;split;simp;split<;>simp
noncomputable def oc (R:Nat):List bt->bt
 |[]=>[]|[N]=>N|N::V::E=>N++R::oc R (V::E)
theorem ve (R:Nat):∀(s:bt),R∉s->fc R s=[s]
 |[],_=>rfl|t::E,Y=>by
  unfold fc;rw[if_neg (λe=>Y (by rw[e];exact eI)),ve R E (λe=>Y (f5 _ e))]
theorem xp (R:Nat):∀(N:bt) (s:bt),R∉N->fc R (N++R::s)=N::fc R s
 |[],s,_=>by show fc R (R::s)=_;rw[fc,if_pos rfl]
 |t::E,s,Y=>by
  show fc R (t::(E++R::s))=_
  rw[fc,if_neg (λe=>Y (by rw[e];exact eI)),xp R E s (λe=>Y (f5 _ e))]
theorem E8 (R:Nat):∀(aJ:kd),aJ≠[]->(∀N∈aJ,R∉N)->fc R (oc R aJ)=aJ
 |[],Y,_=>absurd rfl Y|[N],_,a=>ve R N (a N eI)|N::V::E,_,a=>by
  show fc R (N++R::oc R _)=_
  rw[xp R N _ (a N eI),E8 R _ (by simp) (λN b=>a N (f5 _ b))]
theorem E9 (R:Nat):∀(aJ:c_),(zM ⟨#[R]⟩ aJ).cps.toList=oc R (aJ.map λN=>N.cps.toList)
 |[]=>rfl|[N]=>rfl|N::V::E=>by
  show(N++⟨#[R]⟩++zM _ _).cps.toList=_
  show _=N.cps.toList++R::oc R ((V::E).map λN=>N.cps.toList)
  rw[<- (E9 R _),xf,xf];simp
theorem L4 (X:Str)(R:Nat):(Txt.split X ⟨#[R]⟩).map (λN=>N.cps.toList)=fc R X.cps.toList:=by
 have af:=E9 R (Txt.split X ⟨#[R]⟩);rw[(Kb X _)]at af;rw[af,E8]
 ·have:=J5 X ⟨#[R]⟩
  intro e;simp_all
 ·intro N a
  obtain⟨G,b,rfl⟩:=fk.mp a;exact StrLaws.split_free X R G b
end L2
namespace LX
open PySem Builtin Builtin.Str
section
variable {prog:dk}{p:cN}{r:dM}{k:bq->bz->Prop}{z:bz}{X:Str}{n:Tok}{o:bq->bz->Prop}
theorem Xx (c:(q.length == 0)=aA)
  (b:∀(s:List (Str×Tok)) (C:Nat),s.map (·.1)=Txt.split X q->o (.ref z.heap.objs.size) {z with toks:=C,heap:=z.heap.push {cls:=.type "list",data:=.seq (strValues s).toArray}})
  (d:X.length<=cA) (e:(partsBetween X (occurrences X q 0 X.length (X.length+1)) q.length).length<=cA):
  bT (model prog p) r (call (.builtin "str.split") [.str X n,.str q u]) o k z:=by
 cases af:(decide (X.length<q.length)||decide (strKind X<strKind q))
 ·cases a:(occurrences X q 0 _ _).isEmpty
  ·refine call_meets D3 (typeIs_str _ _ _) D2 (D1 _ _) (meets_str_split_sep X q n u af c a d e) ?_
   rw[strsFrom_eq];exact b _ _ ((numbered_texts _ _).trans ((if_neg (ne_true_of_eq_false af)).trans (if_neg (ne_true_of_eq_false a))).symm)
  exact call_meets D3 (typeIs_str _ _ _) D2 (D1 _ _) (meets_str_split_not_found X q n u af c a)
   (b [(X,n)] _ ((if_neg (ne_true_of_eq_false af)).trans (if_pos a)).symm)
 exact call_meets D3 (typeIs_str _ _ _) D2 (D1 _ _) (meets_str_split_cannot_occur X q n u af)
  (b [(X,n)] _ (if_pos af).symm)
end
end LX
namespace L2
open PySem PySem.Spec PyProof.Rows
section
theorem L5:∀(s:List (Str×Tok)),b9 (s.map λN=>eX N.1.cps.toList) (strValues s)
 |[]=>.nil|(G,n)::E=>.cons ⟨n,rfl⟩ (L5 E)
variable {H:bU}{S b R t:bV}{bG dr i8 mn:b1}{pos:Pos}
def xq (E c d:ez)(bG dr i8 mn:b1):b1:=λl Q o=>bG l Q λX aw=>dr l aw λq a7=>E X q a7 λG a=>match G with
 |.aQ C=>cP C (i8 l a λp e=>c q p e λf b=>match f with |.aQ g=>cP g (mn l b λh j=>d p h j o) (o (.aQ aA) b)|_=>False) (o (.aQ aA) a)|_=>False
theorem Xy {a c d:CmpOp}{E g h:ez}(x:dF H (e0 a) E)(y:dF H (e0 c) g)(A:dF H (e0 d) h)(B:bu H S bG)(F:bu H b dr)(I:bu H R i8)(J:bu H t mn)
  (K:lastMarks [a,c,d] [b,R,t]=aA:=by with_unfolding_all rfl):bu H (.Compare S [a,c,d] [b,R,t] pos) (xq E g h bG dr i8 mn):=by
 intro aj z l Q o L Y;refine Compare_chain (cv (B aj z l Q _ L Y) λv bf ⟨X,aw,M,bI,N⟩=>chain_link (cv (F aj bf l aw _ M N) λu bo ⟨q,a7,O,bW,P⟩=>
  cv (x aj bo l a7 X q v u _ O bI bW P) λt T ⟨G,j,k,U,e⟩=>?_)) K
 cases G with
 |aQ C=>
  cases U;refine lI ?_;cases C with
  |false=>exact ite_ff ⟨.aQ aA,j,k,rfl,e.2 rfl⟩|true=>
   refine ite_tt (chain_link (cv (I aj T l j _ k (e.1 rfl)) λm V ⟨n,W,Z,p,aa⟩=>cv (y aj V l W q n u m _ Z bW p aa) λeh ab ac=>?_))
   obtain⟨ae,s,w,af,f⟩:=ac;cases ae with
   |aQ ah=>
    cases af;refine lI ?_;cases ah with
    |false=>exact ite_ff ⟨.aQ aA,s,w,rfl,f.2 rfl⟩|true=>exact ite_tt (chain_last (cv (J aj ab l s _ w (f.1 rfl)) λai ak ⟨al,am,an,ao,ap⟩=>A aj ak l am n al m ai o an p ao ap))
   |_=>exact f.elim
 |_=>exact e.elim
end
section
variable {fR:Type}[DecidableEq fR]
noncomputable def hB (bl:List (fR×aS))(C:fR):Option aS:=(bl.find? λa=>decide (a.1=C)).map (·.2)
noncomputable def jP (bl:List (fR×aS))(C:fR)(v:aS):List (fR×aS):=
 if(bl.any λa=>decide (a.1=C))=ag then bl.map (λa=>if a.1=C then(a.1,v)else a)else bl++[(C,v)]
theorem E_ {E:List (fR×aS)}{C:fR}(e:N.1=C):hB (N::E) C=D N.2:=by simp[hB,q3,e]
theorem Fb {E:List (fR×aS)}{C:fR}(e:¬N.1=C):hB (N::E) C=hB E C:=by simp[hB,q3,e]
theorem L6 (C:fR):∀bl:List (fR×aS),(bl.any λa=>decide (a.1=C))=(hB bl C).isSome
 |[]=>rfl|N::E=>by
  rw[zr];by_cases e:N.1=C
  ·simp only[E_ e,decide_eq_true e,Bool.true_or,Option.isSome_some]
  rw[Fb e,decide_eq_false e];exact L6 C E
theorem Fc (bl:List (fR×aS))(C:fR)(v:aS):(jP bl C v).length<=bl.length+1:=by
 unfold jP;grind
theorem lh.xr (E:lh A u):A.isSome=u.isSome:=by
 cases A with
 |none=>cases u with
  |none=>rfl|some _=>trivial
 |some _=>cases u with
  |none=>trivial|some _=>rfl
theorem jK.b4 (E:jK bl a)(C:fR):lh (hB bl C) (valueAt a C):=by
 unfold jK at E;induction E with
 |nil=>exact mQ| @cons N V aJ c Y n f=>
  obtain⟨af,ai⟩:=Y;by_cases e:N.1=C
  ·have d:V.1=C:=af.symm.trans e
   have b:valueAt (V::c) C=D V.2:=by simp[valueAt,q3,d]
   rw[E_ e,b];exact ai
  ·have d:¬V.1=C:=λG=>e (af.trans G)
   have b:valueAt (V::c) C=valueAt c C:=by simp[valueAt,q3,d]
   rw[Fb e,b];exact f
theorem jK.dw (E:jK bl a)(C:fR):(bl.any λb=>decide (b.1=C))=a.any λb=>decide (b.1=C):=by
 induction E with
 |nil=>rfl|cons Y n c=>simp_all
theorem jK.m1 (E:jK bl a)(C:fR)(d:cw q u):
  jK (bl.map λb=>if b.1=C then(b.1,q)else b) (a.map λb=>if b.1=C then(b.1,u)else b):=by
 unfold jK at E ⊢;induction E with
 |nil=>exact .nil| @cons N V aJ e Y n c=>
  rw[eW,eW];refine .cons ?_ c;grind
theorem jK.gE (E:jK bl a)(C:fR)(b:cw q u):jK (jP bl C q) (stored a C u):=by
 unfold jP stored;rw[E.dw C];by_cases e:(a.any λc=>decide (c.1=C))=ag
 ·rw[if_pos e,if_pos e];exact E.m1 C b
 rw[if_neg e,if_neg e];exact Paired.snoc E ⟨rfl,b⟩
theorem jK.dS {bl:List (fR×aS)}{a:List (fR×bq)}(E:jK bl a):bl.length=a.length:=Paired.length E
end
theorem vf {P:dk}{p:cN}{C:ey}(E:cw (iv C) u):(lg P p).is C u=ag:=by
 cases C with
 |inl O=>obtain⟨n,e⟩:=(E);subst e;exact TF P p O n|inr X=>obtain⟨n,e⟩:=(E);subst e;exact TG P p X n
theorem L7 {P:dk}{p:cN}:∀{a:kD}{ae:dt},b9 (a.map iv) ae->ItemsAre (lg P p) a ae
 |[],_,E=>by cases E;exact .nil
 |C::a,_,E=>by
  cases E with
  |cons Y n=>exact .cons (vf Y) (L7 n)
abbrev mq (Q:ar):List (kD×aS)->Ky->Prop:=Paired λN V=>N.1=V.1/\Q V.2.1=D (.bb (N.1.map iv))/\cw N.2 V.2.2
theorem mq.b4 {Q:ar}(E:mq Q bl j)(C:kD):lh (hB bl C) ((atKey j C).map (·.2)):=by
 induction E with
 |nil=>exact mQ| @cons N V aJ a Y n d=>
  obtain⟨af,_,ai⟩:=Y;by_cases e:N.1=C
  ·have c  := af.symm.trans e
   have b:atKey (V::a) C=D V.2:=by simp[atKey,q3,c]
   rwa[E_ e,b]
  ·have c:¬V.1=C:=λG=>e (af.trans G)
   have b:atKey (V::a) C=atKey a C:=by simp[atKey,q3,c]
   rwa[Fb e,b]
theorem mq.m1 {Q:ar}(E:mq Q bl j)(C:kD)(c:cw q u):
  mq Q (bl.map λa=>if a.1=C then(a.1,q)else a) (j.map (putAt C u)):=by
 induction E with
 |nil=>exact .nil| @cons N V aJ d Y n b=>
  rw[eW,eW];refine .cons ?_ b;obtain⟨af,ai,bw⟩:=Y;unfold putAt;grind
theorem mq.gE {Q:ar}(E:mq Q bl j)(C:kD)(c:Q b=D (.bb (C.map iv)))(a:cw q u):
  mq Q (jP bl C q) (storedH j C b u):=by
 have e:(bl.any λd=>decide (d.1=C))=(atKey j C).isSome:=by
  rw[L6,(E.b4 C).xr,zx]
 unfold jP storedH;rw[e];by_cases V:(atKey j C).isSome=ag
 ·rw[if_pos V,if_pos V];exact E.m1 C a
 rw[if_neg V,if_neg V];exact Paired.snoc E ⟨rfl,c,a⟩
theorem mq.keeps {Q ay:ar}(E:mq Q bl j)(a:∀b aV,Q b=D (.bb aV)->ay b=D (.bb aV)):mq ay bl j:=
 Paired.D8 E λ_ _ G=>⟨G.1,a _ _ G.2.1,G.2.2⟩
section
variable {P:dk}{p:cN}{Q:ar}{Y:Heap}{S:ba}
theorem L8 (a:gA P p Q Y)(e:eg Q S u):ix P p Q Y S u:=e.f a
theorem qf (b:gA P p Q Y)(e:eg Q S (.eN bl)):bl.length<=cA/\(S == sysModules)=aA/\∃a,jK bl a/\Y.DictOf (lg P p) S a:=
 L8 b e
theorem L9 (b:gA P p Q Y)(e:Q S=D (.eN bl)):bl.length<=cA/\(S == sysModules)=aA/\∃a,jK bl a/\Y.DictOf (lg P p) S a:=qf b (.inl e)
theorem xt (a:gA P p Q Y)(e:Q S=D (.bb (ks.map iv))):(tupleKind (lg P p)).is Y ks S:=by
 obtain⟨_,b,E,A,af,ai,y,bw⟩:=(show ix P p Q Y S (.bb (ks.map iv))from a S _ e)
 exact⟨A,b.toArray,y,af,ai,bw,by simpa using L7 E⟩
theorem vg (b:gA P p Q Y)(e:eg Q S (.mg bl)):bl.length<=cA/\(S == sysModules)=aA /\
  ∃j,mq Q bl j/\Y.DictOfH (tupleKind (lg P p)) S j:=by
 obtain⟨G,q,j,E,A,ax,c,af,ai,bw,d,f⟩:=(L8 b e);refine⟨G,q,j,E,A,ax,c,af,ai,bw,d,λX a=>?_,f⟩
 have g:∀{s:List _}{m:List _},mq Q s m->∀X∈m,(tupleKind (lg P p)).is Y X.1 X.2.1:=by
  intro s m V;induction V with
  |nil=>simp_all| @cons N V aJ k l n h=>
   intro X a;rcases dn.mp a with e |a
   ·exact xt b (by simp_all)
   exact h X a
 exact g E X a
theorem Xz (a:gA P p Q Y)(e:Q S=D (.mg bl)):bl.length<=cA/\(S == sysModules)=aA /\
  ∃j,mq Q bl j/\Y.DictOfH (tupleKind (lg P p)) S j:=vg a (.inl e)
end
def xu (Q:ar)(S:ba)(q:aS)(E:i5):Prop:=
 (∃bl C,eg Q S (.eN bl)/\q=iv C/\E=hB bl C)\/∃bl C b,eg Q S (.mg bl)/\q=.a0 b/\Q b=D (.bb (C.map iv))/\E=hB bl C
def AL (Q:ar)(S:ba)(q v:aS)(ay:ar):Prop:=
 (∃bl C,Q S=D (.eN bl)/\q=iv C/\bl.length<cA/\ay=cq Q S (.eN (jP bl C v))) \/
 ∃bl C b,Q S=D (.mg bl)/\q=.a0 b/\Q b=D (.bb (C.map iv))/\bl.length<cA/\ay=cq Q S (.mg (jP bl C v))
theorem AL.C {Q:ar}{S:ba}{bl:oW}{C:ey}{v:aS}(e:Q S=D (.eN bl))(a:bl.length<cA):AL Q S (iv C) v (cq Q S (.eN (jP bl C v))):=.inl ⟨bl,C,e,rfl,a,rfl⟩
section
variable {H:bU}{aj:dD}{l:ck}{Q:ar}{z:bz}{S:ba}{q v:aS}{u E:bq}{A:i5}{r:dM}{k:bq->bz->Prop}
theorem a5.XA (a:a5 H aj l Q z):sysModules<z.heap.objs.size:=JU (by decide) (a.es.p6.keeps a.gU).lt
theorem XB (p:r.units+1<cLine)(d:a5 H aj l Q z)(g:xu Q S q (D v))(n:cw q u)(Y:∀c bc,a5 H aj l Q bc->cw v c->o c bc):
  bT (model H.cu H.p) r (getItem (.ref S) u) o k z:=by
 rcases g with⟨bl,C,e,f,s⟩|⟨bl,C,b,e,f,t,s⟩
 ·subst f
  obtain⟨G,w,a,h,dy⟩:=qf d.cL e;obtain⟨c,hw,m⟩:=lh.Eu (v:=v) (A:=valueAt a C) (by rw[s];exact h.b4 C)
  exact wpAny_getItem_of (vf n) dy.mapOf hw (Y c _ (d.fS _) m)
 ·subst f
  cases(show u=kc b from n)
  obtain⟨G,w,j,h,dy⟩:=vg d.cL e;obtain⟨c,hw,m⟩:=lh.Eu (v:=v) (A:=(atKey j C).map (·.2)) (by rw[s];exact h.b4 C)
  obtain⟨N,x,y⟩:=iR.mp hw;refine wpAny_getItem_heap (tupleKind_room_in1 p) (xt d.cL t) dy x ?_;rw[y];exact Y c _ (d.fS _) m
theorem XC (n:r.units+1<cLine)(c:a5 H aj l Q z)(g:xu Q S q A)(m:cw q u)(Y:∀bc,a5 H aj l Q bc->o (.bool A.isSome) bc):
  bT (model H.cu H.p) r (e0 .In u (.ref S)) o k z:=by
 rcases g with⟨bl,C,e,d,s⟩|⟨bl,C,b,e,d,p,s⟩
 ·subst d
  obtain⟨G,f,a,h,dy⟩:=qf c.cL e;refine wpAny_in_of (vf m) f dy.mapOf ?_;rw[<- (h.b4 C).xr,<- s];exact Y _ (c.fS _)
 ·subst d
  cases(show u=kc b from m)
  obtain⟨G,f,j,h,dy⟩:=vg c.cL e;refine wpAny_in_heap (tupleKind_room_in1 n) (xt c.cL p) f dy ?_;have V:=(h.b4 C).xr;rw[zx]at V;rw[<- V,<- s];exact Y _ (c.fS _)
theorem XD (n:r.units+1<cLine)(c:a5 H aj l Q z)(g:xu Q S q A)(m:cw q u)(Y:∀bc,a5 H aj l Q bc->o (.bool (!A.isSome)) bc):
  bT (model H.cu H.p) r (e0 .NotIn u (.ref S)) o k z:=by
 rcases g with⟨bl,C,e,d,s⟩|⟨bl,C,b,e,d,p,s⟩
 ·subst d
  obtain⟨G,f,a,h,dy⟩:=qf c.cL e;refine wpAny_notIn_of (vf m) f dy.mapOf ?_;rw[<- (h.b4 C).xr,<- s];exact Y _ (c.fS _)
 ·subst d
  cases(m);obtain⟨G,f,j,h,dy⟩:=vg c.cL e;refine wpAny_notIn_heap (tupleKind_room_in1 n) (xt c.cL p) f dy ?_;have V:=(h.b4 C).xr;rw[zx]at V;rw[<- V,<- s];exact Y _ (c.fS _)
theorem Fd {a:Nat}(c:a5 H aj l Q z)(d:wZ (Q S))(f:sq S z.heap aF)(g:∃V,aF.get? S=D V)(h:ix H.cu H.p (cq Q S ob) aF S ob)(j:0<a:=by fail "0"):
  a5 H aj l (cq Q S ob) {z with heap:=aF,toks:=a}:=
 c.q9 (X:=S) (e:=S) d (.inl rfl) (λb V k G=>(f.2 b k).trans G) g h j
theorem L_ {P:dk}{p:cN}(G:bl.length<=cA)(b:(S == sysModules)=aA)(c:jK bl a)(dy:aF.DictOf (lg P p) S a):
  ix P p ay aF S (.eN bl):=⟨G,b,a,c,dy⟩
theorem XE (F:r.units+1<cLine)(c:a5 H aj l Q z)(g:AL Q S q v ay)(y:cw q u)(A:cw v E)(Y:∀bc,a5 H aj l ay bc->o () bc):
  bT (model H.cu H.p) r (setItem (.ref S) u E) o k z:=by
 rcases g with⟨bl,C,e,m,s,n⟩|⟨bl,C,b,e,m,B,s,n⟩
 ·subst m n
  obtain⟨G,p,a,d,dy⟩:=L9 c.cL e;have t:a.length<=cA:=by rw[<- d.dS];exact G
  have w:(jP bl C v).length<=cA:=by have:=Fc bl C v;lia
  refine wpAny_setItem_pairs (hsz:=t) (vf y) dy λaF f x=>Y _ ?_
  have I:∃V,aF.get? S=D V:=let⟨V,_,_,h,_⟩:=f;⟨V,h⟩
  exact Fd c (by rw[e];exact mQ) x I (L_ w p (d.gE C A) f)
 ·subst m n
  cases(show u=kc b from y)
  obtain⟨G,p,j,d,dy⟩:=Xz c.cL e;have t:j.length<=cA:=by rw[<- Paired.length d];exact G
  have w:(jP bl C v).length<=cA:=by have:=Fc bl C v;lia
  refine wpAny_setItem_heap (hsz:=t) (tupleKind_room_in1 F) (xt c.cL B) dy λaF f x=>Y _ ?_
  obtain⟨V,ax,J,h,ai,bw,K,_,L⟩:=f;refine Fd c (by rw[e];exact mQ) x ⟨V,h⟩ ⟨w,p,_,(d.gE C B A).keeps λR aV ec=>?_,V,ax,J,h,ai,bw,K,L⟩
  rw[f6 (TH ec e (λG=>nomatch G))]
  exact ec
variable {bl:oW}
theorem XF (b:a5 H aj l Q z)(e:eg Q S (.eN bl))(Y:∀n bc,a5 H aj l Q bc->o (.int bl.length n) bc):bT (model H.cu H.p) r (call (.builtin "len") [.ref S]) o k z:=by
 obtain⟨G,d,a,c,dy⟩:=qf b.cL e;refine call_len_dict d dy (by rw[<- c.dS];rw[sizeLine_eq]at G;lia) ?_
 rw[<- c.dS];exact Y _ _ (b.fS _)
end
theorem XG {H:bU}{aj:dD} {Q:ar}(c:a5 H aj l Q z)(g:xu Q S q A):z.TypeIs (.ref S) "dict":=by
 rcases g with⟨bl,C,e,_,_⟩|⟨bl,C,b,e,_,_,_⟩
 ·obtain⟨_,_,a,_,dy⟩:=qf c.cL e
  exact dy.typeIs
 ·obtain⟨_,_,j,_,dy⟩:=vg c.cL e
  exact dy.typeIs
theorem XH {P:dk}{p:cN}{Q:ar}(Y:Heap)(a:sysModules<Y.objs.size):ix P p Q (Y.push {cls:=.type "dict",data:=.dict #[]}) Y.objs.size (.eN []):=
 ⟨mc _,beq_eq_false_iff_ne.mpr (oT (gz a)),[],.nil,Tu Y⟩
def Fe:b1:=λ_ Q o=>∀N,Q N=i->o (.a0 N) (cq Q N (.eN []))
section
variable {H:bU}{pos:Pos}
theorem XI:bu H (.Dict [] [] pos) Fe:=λaj z l Q o a Y=>
 wpAny_Dict_empty ⟨.a0 _,_,a.hx    (λ_ _ V=>eQ _ V) (cZ _) (XH _ a.XA),rfl,Y _ (a.cL.fK (cZ _))⟩
end
structure Ma (H:bU)(A:bV)(m:Str)(fE:Pos)(e w:bV)(ie:Pos):Prop where
 bj:attributeBase A m H.x (eval A H.x)=eval A H.x
 Mb:((iu ie (eH [e,w] H.x)).all (λX=>!X.1) && (pU ie (pT [] H.x)).all (λX=>X.1.isSome)
  && decide (([e,w]:List bV).length+([]:List Keyword).length+(if([]:List Keyword).isEmpty then 0 else 1)<30))=ag
 line:(fE.endLine == ie.line)=ag
 Mc:iu ie (eH [e,w] H.x)=[(aA,eval e H.x),(aA,eval w H.x)]
def XJ (Q:ar)(S:ba):Prop:=(∃bl,eg Q S (.eN bl))\/∃bl,eg Q S (.mg bl)
theorem XK {H:bU}{aj:dD} {Q:ar}(f:a5 H aj l Q z)(t:XJ Q S):
  z.TypeIs (.ref S) "dict" /\ (∀b,kc S=.ref b->∃c,z.heap.get? b=D c/\c.dict=i)/\(S==sysModules)=aA:=by
 rcases t with⟨bl,e⟩|⟨bl,e⟩
 ·obtain⟨_,d,a,_,dy⟩:=qf f.cL e
  refine⟨dy.typeIs,λb V=>?_,d⟩
  cases V;obtain⟨c,_,_,af,ai,_⟩:=dy;exact⟨c,af,ai.2.1⟩
 ·obtain⟨_,d,j,_,dy⟩:=vg f.cL e
  refine⟨dy.typeIs,λb V=>?_,d⟩
  cases V;obtain⟨c,_,_,af,ai,_⟩:=dy;exact⟨c,af,ai.2.1⟩
section
namespace L2
open PySem PySem.Spec PyProof.Rows
end L2
end
theorem Md {w g:aP->Option dT}:∀{s:List aP},(∀S∈s,w S=g S)->s.filterMap w=s.filterMap g
 |[],_=>rfl|S::s,Y=>by rw[wz,wz,Y S eI,Md λb a=>Y b (f5 _ a)]
def rn:aS->Option ey
 |.c O=>D (.inl O)|.d G=>D (.inr G)|_=>i
theorem Me {C:ey}(Y:rn q=D C):q=iv C:=by
 cases q<;>first |(cases (Y);rfl)|cases Y
def td (X q:aS)(Q:ar)(a3:ba->oW->ey->Prop):Prop:=match X with
 |.a0 S=>(match rn q with |some C=>∃bl,Q S=D (.eN bl)/\a3 S bl C |none=>False)|_=>False
theorem Mf {X q:aS}{Q:ar}{a3:ba->oW->ey->Prop}(Y:td X q Q a3):∃S bl C,X=.a0 S/\q=iv C/\Q S=D (.eN bl)/\a3 S bl C:=by
 unfold td at Y;cases X with
 |a0 S=>
  cases e:rn q with
  |none=>simp_all|some C=>
   rw[e]at Y;obtain⟨bl,af,ai⟩:=Y;exact⟨S,bl,C,rfl,Me e,af,ai⟩
 |_=>exact Y.elim
inductive te where
 |O (y:Int)|N (S b:Int)
inductive m2 where
 |g_ (R:String)|at(R:String) (aG:List (Str×te))
instance:Coe String m2:=⟨m2.g_⟩
inductive Mo (aP:Type) where
 |f (S:aP)|aT (R:m2)|aU
abbrev Ff:=List Nat->Mo (List Nat)
abbrev pd:=Mo Bool
namespace Mo
variable {aP dT gk:Type}
noncomputable def aC (X:Mo aP)(w:aP->Mo dT):Mo dT:=match X with |.f S=>w S |.aT R=>.aT R |.aU=>.aU
theorem XM (X:Mo aP)(w:aP->Mo dT)(g:dT->Mo gk):(X.aC w).aC g=X.aC λS=>(w S).aC g:=by cases X<;>rfl
noncomputable def sN (X:Mo aP):Mo aP:=match X with |.f S=>.f S |_=>.aU
noncomputable def ei (y:Nat)(C:Mo aP):Mo aP:=if y<=cA then C else .aU
theorem mr {y:Nat}{C:Mo aP}(Y:y<=100000):ei y C=C:=if_pos (lR Y)
noncomputable def ea (N:Prop)[Decidable N](C:Mo aP):Mo aP:=if N then C else .aU
theorem mu [Decidable N]{C:Mo aP}(Y:N):ea N C=C:=if_pos Y
noncomputable def fj (X:Option aP):Mo aP:=match X with |some S=>.f S |none=>.aU
end Mo
def aK (F Y:ar):ar:=λN=>match F N with |some A=>D A |none=>Y N
def c4 (F Y:ar):Prop:=∀N,F N=i\/Y N=i
def cQ (af ai Y:ar):Prop:=∀N,(af N=i/\Y N=ai N)\/(ai N=i/\Y N=af N)
def f9 (F Q a4 ay:ar):Prop:=bx F a4/\bx a4 ay/\bx Q ay/\∀N,F N=i->a4 N≠i->Q N=i
theorem f9.fu {F Q:ar}(Y:bx F Q):f9 F Q F Q:=⟨bx.fu _,Y,bx.fu _,λN S b=>absurd S b⟩
theorem f9.ct {F Q bF aw av a7:ar}(S:f9 F Q bF aw)(b:f9 bF aw av a7):f9 F Q av a7:=by
 obtain⟨c,k,a,d⟩:=S;obtain⟨lP,ki,f,g⟩:=b;refine⟨c.ct lP,ki,a.ct f,λN h j=>?_⟩
 cases e:bF N with
 |none=>exact a.cz (g N e j)|some A=>exact d N h (by rw[e];exact fQ _)
theorem f9.heap {F Q ay:ar}(Y:bx F Q)(g:bx Q ay):f9 F Q F ay:=⟨bx.fu _,Y.ct g,g,λN S b=>absurd S b⟩
theorem f9.el {F Q:ar}(Y:bx F Q)(a:Q N=i):f9 F Q (cq F N A) (cq Q N A):=by
 refine⟨pb (Y.cz a) _,λb u e=>?_,pb a _,λV S b=>?_⟩
 ·unfold cq at e ⊢
  split
  ·rename_i G;rwa[if_pos G]at e
  rename_i G;rw[if_neg G]at e;exact Y _ _ e
 ·unfold cq at b
  split at b
  ·rename_i G;rwa[G]
  exact absurd S b
structure hC (aP:Type) where
 a3:aP->aS->ar->Prop
 bQ:∀{S v Q ay},bx Q ay->a3 S v Q->a3 S v ay
def tf (Q ay:ar):Prop:=∀N j,Q N=D (.bb j)->ay N=D (.bb j)
theorem bx.q_ {Q ay:ar}(Y:bx Q ay):tf Q ay:=λN j e=>Y _ _ e
noncomputable abbrev vh:hC Int:=⟨λS v _=>v=.c S,λ_ Y=>Y⟩
structure qg (gk:Type) where
 a3:gk->bp->ar->Prop
 bQ:∀{R a Q ay},bx Q ay->a3 R a Q->a3 R a ay
noncomputable abbrev AM {aP:Type}(T:hC aP):qg aP:=⟨λS a Q=>∃v,a=[v]/\T.a3 S v Q,λg ⟨v,e,Y⟩=>⟨v,e,T.bQ g Y⟩⟩
noncomputable abbrev Mg {aP gk:Type}(T:hC aP)(aO:qg gk):qg (aP×gk):=⟨λS a Q=>∃v ae,a=v::ae/\T.a3 S.1 v Q/\aO.a3 S.2 ae Q,λg ⟨v,ae,e,Y,V⟩=>⟨v,ae,e,T.bQ g Y,aO.bQ g V⟩⟩
noncomputable abbrev Fg {gk:Type}(aO:qg gk):hC gk:=⟨λR v Q=>∃N ae,v=.a0 N/\Q N=D (.bb ae)/\aO.a3 R ae Q,λg ⟨N,ae,e,Y,V⟩=>⟨N,ae,e,g _ _ Y,aO.bQ g V⟩⟩
abbrev fM {aP:Type}(T:hC aP)(Q:ar)(j:List aP)(a:bp):Prop:=Paired (λX v=>T.a3 X v Q) j a
theorem Fh {a3 a:aP->dT->Prop}(Y:∀S b,a3 S b->a S b):∀{j:List aP}{aV:List dT},Paired a3 j aV->Paired a j aV
 |_,_,.nil=>.nil|_,_,.cons S n=>.cons (Y _ _ S) (Fh Y n)
theorem fM.bQ {aP:Type}{T:hC aP}{Q ay:ar}{j:List aP}{a:bp}(g:bx Q ay)(Y:fM T Q j a):fM T ay j a:=Fh (λ_ _ E=>T.bQ g E) Y
noncomputable abbrev AN {aP:Type}(T:hC aP):hC (List aP):=⟨λj v Q=>∃N a,v=.a0 N/\Q N=D (.aM a)/\fM T Q j a,λg ⟨N,a,e,Y,V⟩=>⟨N,a,e,g _ _ Y,V.bQ g⟩⟩
structure lS (aP:Type) where
 br:aP->aS->ar->ar->Prop
 bN:hC aP
 bQ:∀{S v F a4 Y},bx F a4->br S v F Y->br S v a4 Y
 iw:∀{S v F Y},c4 F Y->br S v F Y->bN.a3 S v (aK F Y)
 mv:∀{S v F Y},br S v F Y->∀N j,Y N≠D (.bb j)
theorem mw {F Y:ar}:bx F (aK F Y):=λN A e=>by unfold aK;rw[e]
theorem ro {F Y:ar}(t:c4 F Y):bx Y (aK F Y):=λN A e=>by
 unfold aK;rcases t N with G |G
 ·rwa[G]
 grind
def cW (N:ba)(A:lM):ar:=λV=>if V=N then D A else i
theorem jQ:cW N A N=D A:=if_pos rfl
abbrev xv {aP:Type}(T:hC aP):lS (List aP):=⟨λj v F Y=>∃N a,v=.a0 N/\Y=cW N (.aM a)/\fM T F j a,AN T,λg ⟨N,a,e,G,V⟩=>⟨N,a,e,G,V.bQ g⟩,
 λt ⟨N,a,e,G,V⟩=>⟨N,a,e,ro t _ _ (by rw[G];exact jQ),V.bQ mw⟩,
 λ⟨N,a,e,G,V⟩ b j q=>by rw[G]at q;unfold cW at q;split at q<;>cases q⟩
inductive ih:Type 1 where
 |od
 |aL {aP:Type}(T:hC aP) (S:aP)
 |qh {aP:Type}(br:lS aP) (S:aP)
abbrev Mh:=List (Nat×ih)
abbrev iD:=List ih
def ih.P:ih->i5->ar->ar->Prop
 |.od,_,_,_=>True|.aL T S,A,F,_=>∃v,A=D v/\T.a3 S v F|.qh br S,A,F,Y=>∃v,A=D v/\br.br S v F Y
def ih.Z:ih->i5->ar->Prop
 |.od,_,_=>True|.aL T S,A,F=>∃v,A=D v/\T.a3 S v F|.qh br S,A,F=>∃v,A=D v/\br.bN.a3 S v F
def da:iD->ck->ar->ar->Prop
 |[],[],_,_=>True|z::L,A::l,F,Y=>∃af ai,cQ af ai Y/\z.P A F af/\da L l F ai|_,_,_,_=>False
def gY (L:iD)(l:ck)(F:ar):Prop:=∀(O:Nat) (z:ih),L[O]?=D z->z.Z (l[O]?.join) F
theorem ih.P.bQ {z:ih}{A:i5}{F a4 Y:ar}(g:bx F a4)(V:z.P A F Y):z.P A a4 Y:=by
 cases z with
 |od=>exact V|aL T S=>obtain⟨v,e,E⟩:=V;exact⟨v,e,T.bQ g E⟩|qh br S=>obtain⟨v,e,E⟩:=V;exact⟨v,e,br.bQ g E⟩
theorem ih.Z.bQ {z:ih}{A:i5}{F a4:ar}(g:bx F a4)(V:z.Z A F):z.Z A a4:=by
 cases z with
 |od=>exact V|aL T S=>obtain⟨v,e,E⟩:=V;exact⟨v,e,T.bQ g E⟩|qh br S=>obtain⟨v,e,E⟩:=V;exact⟨v,e,br.bN.bQ g E⟩
theorem gY.bQ {L:iD}{l:ck}{F a4:ar}(g:bx F a4)(V:gY L l F):gY L l a4:=λO z e=>(V O z e).bQ g
theorem da.bQ:∀{L:iD}{l:ck}{F a4 Y:ar},bx F a4->da L l F Y->da L l a4 Y
 |[],[],_,_,_,_,V=>V|z::L,A::l,F,a4,Y,g,a=>by obtain⟨af,ai,h,N,E⟩:=a;exact⟨af,ai,h,N.bQ g,E.bQ g⟩
 |[],_::_,_,_,_,_,V=>V.elim|_::_,[],_,_,_,_,V=>V.elim
theorem cQ.s {af ai Y:ar}(h:cQ af ai Y):bx af Y:=λN A e=>by
 rcases h N with⟨S,b⟩|⟨S,b⟩
 ·simp_all
 rwa[b]
theorem cQ.E {af ai Y:ar}(h:cQ af ai Y):bx ai Y:=λN A e=>by
 rcases h N with⟨S,b⟩|⟨S,b⟩
 ·rwa[b]
 grind
theorem cQ.f_ {af ai Y:ar}(h:cQ af ai Y):c4 af ai:=λN=>by
 rcases h N with⟨S,b⟩|⟨S,b⟩
 ·exact .inl S
 exact .inr S
theorem fZ (t:c4 af ai):cQ af ai (aK af ai):=λN=>by
 unfold aK;rcases t N with S |S
 ·rw[S];exact .inl ⟨rfl,rfl⟩
 ·refine .inr ⟨S,?_⟩
  cases af N with
  |none=>exact S|some A=>rfl
theorem da.at:∀{L:iD}{l:ck}{F Y:ar}(O:Nat) {z:ih},da L l F Y->L[O]?=D z ->
  ∃A af ai,l[O]?=D A/\cQ af ai Y/\z.P A F af/\∀bc b3 d aF,cQ d ai aF->bc.P b3 F d->da (L.set O bc) (l.set O b3) F aF
 |[],_,_,_,_,_,_,e=>by cases e
 |z::L,[],_,_,_,_,V,_=>V.elim
 |z::L,A::l,F,Y,0,n,j,e=>by
  obtain⟨af,ai,h,N,E⟩:=j;cases e;exact⟨A,af,ai,rfl,h,N,λbc b3 d aF f fh=>⟨d,ai,f,fh,E⟩⟩
 |z::L,A::l,F,Y,O+1,n,j,e=>by
  obtain⟨af,ai,h,N,E⟩:=j;obtain⟨m,k,a,aR,c,o,w⟩:=da.at O E (by simpa using e)
  have s:c4 af k:=λN=>by
   rcases h.f_ N with S |S
   ·exact .inl S
   ·exact .inr (c.s.cz S)
  have p:c4 af a:=λN=>by
   rcases h.f_ N with S |S
   ·exact .inl S
   ·exact .inr (c.E.cz S)
  refine⟨m,k,aK af a,by simpa using aR,λN=>?_,o,λbc b3 g aF f fh=>?_⟩
  ·rcases h N with⟨S,b⟩|⟨S,b⟩
   ·rcases c N with⟨R,t⟩|⟨R,t⟩
    ·refine .inl ⟨R,?_⟩;unfold aK;rw[S,b,t]
    ·refine .inr ⟨?_,by rw[b,t]⟩;unfold aK;rw[S,R]
   ·refine .inl ⟨c.s.cz S,?_⟩
    have:a N=i:=c.E.cz S;unfold aK;rw[b];cases af N with
    |none=>rw[this]|some u=>rfl
  ·have dy:c4 g a:=λN=>by
    rcases f N with⟨S,b⟩|⟨S,b⟩
    ·exact .inl S
    ·right;unfold aK at S
     grind
   refine⟨af,aK g a,λN=>?_,N,w bc b3 g _ (fZ dy) fh⟩
   rcases f N with⟨S,b⟩|⟨S,b⟩
   ·unfold aK at b ⊢
    cases G:af N with
    |none=>rw[G]at b;exact .inl ⟨rfl,by rw[b,S]⟩|some u=>
     rw[G]at b;refine .inr ⟨?_,b⟩;rw[S];rcases p N with q |q
     ·rw[q]at G;cases G
     ·exact q
   ·unfold aK at S
    cases G:af N with
    |some u=>rw[G]at S;cases S|none=>
     rw[G]at S;refine .inl ⟨rfl,?_⟩;unfold aK;rw[b];cases g N with
     |none=>exact S.symm|some u=>rfl
theorem da.rp {F Y:ar}(t:c4 F Y)(V:da L l F Y):gY L l (aK F Y):=by
 intro O z e;obtain⟨A,af,ai,aR,h,N,_⟩:=V.at O e;rw[aR];cases z with
 |od=>trivial|aL T S=>obtain⟨v,aB,E⟩:=N;exact⟨v,aB,T.bQ mw E⟩|qh br S=>
  obtain⟨v,aB,E⟩:=N;refine⟨v,aB,br.bN.bQ (λN u G=>?_) (br.iw (λN=>by
  rcases t N with S |S
  ·exact .inl S
  exact .inr (h.s.cz S)) E)⟩
  unfold aK at G ⊢;cases q:F N with
  |some p=>rwa[q]at G|none=>rw[q]at G;exact h.s _ _ G
end L2
namespace L2
open PySem PySem.Spec PyProof.Rows
def te.a3:te->aS->ar->Prop
 |.O y,v,_=>v=.c y|.N S b,v,Q=>∃V,v=.a0 V/\Q V=D (.bb [.c S,.c b])
theorem te.e8 {X:te} {Q ay:ar}(g:tf Q ay)(Y:X.a3 v Q):X.a3 v ay:=by
 cases X with
 |O y=>exact Y|N S b=>obtain⟨V,e,G⟩:=Y;exact⟨V,e,g _ _ G⟩
def AO (aG:List (Str×te))(au:n5)(F:ar):Prop:=Paired (λS w=>S.1=w.1/\S.2.a3 w.2 F) aG au
theorem AO.e8 {au:n5}{Q ay:ar}(g:tf Q ay)(Y:AO aG au Q):AO aG au ay:=Fh (λ_ _ E=>⟨E.1,te.e8 g E.2⟩) Y
def kN (I:bK)(k:cg)(X:m2)(bk F Q:ar):Prop:=match X with
 |.g_ R=>k (.ref (dz I R)) i Q|.at R aG=>∀bS au,bk bS=i->F bS=D (Xi bS au)->AO aG au F->k (.ref (dz I R)) (D bS) Q
theorem kN.i_ {I:bK}{k:cg}{X:m2}{bk aw F Q:ar}(z:bx bk aw)(Y:kN I k X bk F Q):kN I k X aw F Q:=by
 cases X with
 |g_ R=>exact Y|«at» R aG=>exact λbS au e=>Y bS au (z.cz e)
def cC {aP:Type}(I:bK)(E:Mo aP)(k:cg)(F Q:ar)(C:aP->ar->ar->Prop):Prop:=match E with
 |.f S=>∀a4 ay,f9 F Q a4 ay->C S a4 ay|.aT R=>∀a4 ay,f9 F Q a4 ay->kN I k R Q a4 ay|.aU=>False
section
variable {I:bK}{k:cg}{aP dT gk:Type}{F Q:ar}
theorem cC.aC {E:Mo aP}{w:aP->Mo dT}{C:dT->ar->ar->Prop}(Y:cC I (E.aC w) k F Q C):cC I E k F Q λS bF aw=>cC I (w S) k bF aw C:=by
 cases E with
 |f S=>
  intro bF aw X;have aF:cC I (w S) k F Q C:=Y;cases e:w S with
  |f b=>rw[e]at aF;exact λav a7 q=>aF av a7 (X.ct q)|aT R=>rw[e]at aF;exact λav a7 q=>(aF av a7 (X.ct q)).i_ X.2.2.1|aU=>rwa[e]at aF
 |_=>exact Y
theorem cC.de {E:Mo aP}{C a:aP->ar->ar->Prop}(Y:cC I E k F Q C)(g:∀S a4 ay,f9 F Q a4 ay->C S a4 ay->a S a4 ay):cC I E k F Q a:=by
 cases E with
 |f S=>exact λa4 ay X=>g S a4 ay X (Y a4 ay X)|_=>exact Y
theorem cC.f {C:aP->ar->ar->Prop}(a:bx F Q)(Y:cC I (.f S) k F Q C):C S F Q:=Y F Q (.fu a)
theorem cC.ei {y:Nat}{E:Mo aP}{C:aP->ar->ar->Prop}(Y:cC I (Mo.ei y E) k F Q C):y<=cA/\cC I E k F Q C:=by
 unfold Mo.ei at Y;split at Y
 ·trivial
 exact Y.elim
theorem cC.ea [Decidable N]{E:Mo aP}{C:aP->ar->ar->Prop}(Y:cC I (Mo.ea N E) k F Q C):N/\cC I E k F Q C:=by
 unfold Mo.ea at Y;split at Y
 ·trivial
 exact Y.elim
theorem cC.fj {X:Option aP}{C:aP->ar->ar->Prop}(Y:cC I (Mo.fj X) k F Q C):∃S,X=D S/\cC I (.f S) k F Q C:=by
 cases X with
 |none=>exact Y.elim|some S=>exact⟨S,rfl,Y⟩
def AP (I:bK)(e:b1)(k:cg)(L:iD)(E:Mo aP)(T:hC aP):Prop:=
 ∀l F Q (o:cm),gY L l F->bx F Q->cC I E k F Q (λS a4 ay=>∀v,T.a3 S v a4->o v ay)->e l Q o
def fF (br:lS aP)(Q:ar)(o:cm)(S:aP)(a4 ay:ar):Prop:=∀v Y,(∀N,Y N≠i->Q N=i)->c4 a4 Y->bx Y ay->br.br S v a4 Y->o v ay
def pe (I:bK)(e:b1)(k:cg)(L:iD)(E:Mo aP)(br:lS aP):Prop:=
 ∀l F Q (o:cm),gY L l F->bx F Q->cC I E k F Q (fF br Q o)->e l Q o
def m3 (I:bK)(n:hQ)(k:cg)(L:iD)(E:pd):Prop:=
 ∀l F Q (o:Bool->ar->Prop),gY L l F->bx F Q->cC I E k F Q (λb _ ay=>o b ay)->n l Q o
def Mi (I:bK)(n:fY)(k:cg)(L:iD)(E:Mo gk)(aO:qg gk):Prop:=
 ∀l F Q (o:bp->ar->Prop),gY L l F->bx F Q->cC I E k F Q (λR a4 ay=>∀a,aO.a3 R a a4->o a ay)->n l Q o
variable {L:iD}{e aR aB:b1}{T:hC aP}{E:Mo aP}
theorem pe.bN (Y:pe I e k L E br):AP I e k L E br.bN:=by
 intro l F Q o a c V;refine Y l F Q o a c ?_;cases E with
 |f S=>
  intro a4 ay X v aF d t z A;refine V (aK a4 aF) ay ⟨X.1.ct mw,λN A e=>?_,X.2.2.1,λN S b=>?_⟩ v (br.iw t A)
  ·unfold aK at e
   cases G:a4 N with
   |some p=>rw[G]at e;cases e;exact X.2.1 _ _ G|none=>rw[G]at e;exact z _ _ e
  ·unfold aK at b
   cases G:a4 N with
   |some p=>exact X.2.2.2 N S (by rw[G];exact fQ _)|none=>rw[G]at b;exact d N b
 |aT R=>exact V|aU=>exact V
def Mj (I:bK)(m:ez)(k:cg)(a:hC aP)(c:hC dT)(g:aP->dT->Mo gk)(br:lS gk):Prop:=
 ∀S b X q F Q (o:cm),bx F Q->a.a3 S X F->c.a3 b q F->cC I (g S b) k F Q (fF br Q o)->m X q Q o
theorem fF.ej {Q aw:ar}(g:bx Q aw)(Y:fF br Q o S a4 ay):fF br aw o S a4 ay:=
 λv C a t z A=>Y v C (λN G=>g.cz (a N G)) t z A
theorem XN {g:aP->dT->Mo gk}(c:Mj I m k T1 T2 g br)(af:AP I aR k L bI T1)(ai:AP I aB k L bW T2):
  pe I (n9 m aR aB) k L (bI.aC λS=>bW.aC λb=>g S b) br:=by
 intro l F Q o a d V;exact af l F Q _ a d (V.aC.de λS bF aw x1 e f h=>ai l bF aw _ (a.bQ x1.1) x1.2.1 (e.aC.de λb av a7 x2 j n p=>c S b f n av a7 o x2.2.1 (T1.bQ x2.1 h) p (j.de λR s t x3 q=>q.ej (x1.2.2.1.ct x2.2.2.1))))
noncomputable instance (O h:Int):Decidable (z8 O h):=inferInstanceAs (Decidable (_\/_))
noncomputable instance (O h:Int):Decidable (UC O h):=inferInstanceAs (Decidable (_/\_))
noncomputable instance (O h:Int):Decidable (UD O h):=inferInstanceAs (Decidable (_/\_/\_))
theorem fM.dE (S:fM T Q j a)(b:fM T Q aV ae):fM T Q (j++aV) (a++ae):=by
 induction S with
 |nil=>exact b|cons E n c=>exact .cons E c
theorem fM.cn (S:fM T Q j a):j.length=a.length:=Paired.length S
theorem fM.g8 {j:List aP}{a:bp}(S:fM T Q j a)(O:Nat):(j[O]?=i/\a[O]?=i)\/∃X v,j[O]?=D X/\a[O]?=D v/\T.a3 X v Q:=by
 induction S generalizing O with
 |nil=>exact .inl ⟨rfl,rfl⟩|cons E n b=>
  cases O with
  |zero=>exact .inr ⟨_,_,rfl,rfl,E⟩|succ O=>simpa using b O
theorem fM.take {j:List aP}{a:bp}(S:fM T Q j a)(y:Nat):fM T Q (j.take y) (a.take y):=by
 induction S generalizing y with
 |nil=>rw[DI,DI];exact .nil|cons E n b=>
  cases y with
  |zero=>exact .nil|succ y=>exact .cons E (b y)
theorem fM.drop (S:fM T Q j a)(y:Nat):fM T Q (j.drop y) (a.drop y):=by
 induction S generalizing y with
 |nil=>rw[JG,JG];exact .nil|cons E n b=>
  cases y with
  |zero=>exact .cons E n|succ y=>exact b y
theorem XO {a:bp}{j:List aP}{N:ba}{a4 ay:ar}{o:cm}(c:Q N=i)(ai:ay N=D (.aM a))(d:a4 N=i)(f:fM T a4 j a)(V:fF (xv T) Q o j a4 ay):o (.a0 N) ay:=by
 refine V (.a0 N) (cW N (.aM a)) (λb G=>?_) (λb=>?_) (λb A G=>?_) ⟨N,a,rfl,rfl,f⟩
 ·unfold cW at G;split at G
  ·rename_i e;rw[e];exact c
  ·exact absurd rfl G
 ·unfold cW;split
  ·rename_i e;rw[e];exact .inl d
  ·exact .inr rfl
 ·unfold cW at G;split at G
  ·rename_i e;rw[e];cases G;exact ai
  ·cases G
theorem Mk (c:bx F Q)(b:Q N=i)(d:fM T F j a)(V:cC I (.f j) k F Q (fF (xv T) Q o)):o (.a0 N) (cq Q N (.aM a)):=
 XO b jL (c.cz b) d (V F _ (.heap c (pb b _)))
def AQ (I:bK)(m:bp->ar->cm->Prop)(k:cg)(aO:qg gk)(g:gk->Mo aP)(br:lS aP):Prop:=
 ∀R a F Q (o:cm),bx F Q->aO.a3 R a F->cC I (g R) k F Q (fF br Q o)->m a Q o
theorem XP {g:gk->Mo aP} {E:Mo gk}(b:AQ I m k aO g br)(Y:Mi I bG k L E aO):pe I (lO m bG) k L (E.aC g) br:=by
 intro l F Q o c d V;exact Y l F Q _ c d (V.aC.de λR bF aw x1 e a f=>b R a bF aw o x1.2.1 f (e.de λS av a7 x2 h=>h.ej x1.2.2.1))
theorem XQ (E:fM T Q j a){O:Int}{X:aP}(e:dW j O=D X):∃v,dW a O=D v/\T.a3 X v Q:=by
 unfold dW at e ⊢;rw[<- E.cn];cases aR:ic _ O with
 |none=>simp_all|some h=>
  rcases E.g8 h with⟨S,b⟩|⟨q,v,S,b,R⟩
  ·simp_all
  simp_all
end
section
variable {I:bK}{k:cg}{aP gk:Type}{F Q:ar}{L:iD}{aR aB:b1}{T:hC aP}{E:Mo aP}{n eJ cR:hQ}{b lP ki:pd}
theorem XR (af:m3 I eJ k L lP)(ai:m3 I cR k L ki):m3 I (E0 eJ cR) k L (lP.aC λR=>if R then ki else .f aA):=by
 intro l F Q o a b V;refine af l F Q _ a b (V.aC.de λS bF aw X C=>⟨λR=>?_,λR=>?_⟩)
 ·rw[if_pos R]at C;exact ai l bF aw _ (a.bQ X.1) X.2.1 C
 rw[if_neg (by rw[R];decide)]at C;exact C.f X.2.1
theorem XS (c:m3 I n k L b)(af:pe I aR k L bI br)(ai:pe I aB k L bW br):pe I (Au n aR aB) k L (b.aC λR=>if R then bI else bW) br:=by
 intro l F Q o a d V;refine c l F Q _ a d (V.aC.de λS bF aw X C=>⟨λR=>?_,λR=>?_⟩)
 ·rw[if_pos R]at C;exact af l bF aw _ (a.bQ X.1) X.2.1 (C.de λS av a7 q G=>G.ej X.2.2.1)
 rw[if_neg (by rw[R];decide)]at C;exact ai l bF aw _ (a.bQ X.1) X.2.1 (C.de λS av a7 q G=>G.ej X.2.2.1)
theorem cC.qi {C:aP->ar->ar->Prop}(Y:cC I E k F Q C):cC I E k F Q λS bF aw=>∀av a7,f9 bF aw av a7->C S av a7:=by
 cases E with
 |f S=>exact λbF aw X av a7 q=>Y av a7 (X.ct q)|_=>exact Y
def xw (I:bK)(n:qd)(k:cg)(L:iD)(E:Mo eR):Prop:=
 ∀l F Q (o:eR->ar->Prop),gY L l F->bx F Q->cC I E k F Q (λb _ ay=>o b ay)->n l Q o
theorem XT:xw I Af k L (.f i):=λl F Q o b a V=>V.f a
def fU (j:List aP)(a8 aE:eR):List aP:=(j.drop (HT.d3 j.length 0 a8)).take (HT.d3 j.length j.length aE-HT.d3 j.length 0 a8)
theorem XU (V:fM T Q j a)(a8 aE:eR):fM T Q (fU j a8 aE) (rg a a8 aE):=by
 unfold fU rg;rw[<- V.cn];exact(V.drop _).take _
theorem hg.fB {Q:ar}{y m:Nat}{X q:aS}{b:Bool}(Y:hg I Q y X q b)(g:y<=m):hg I Q m X q b:=by
 induction g with
 |refl=>exact Y|step _ a=>exact .i_ a
def XW (I:bK)(m:aS->bp->ar->cm->Prop)(k:cg)(aO:qg gk)(g:bt->gk->Mo aP)(br:lS aP):Prop:=
 ∀s R a F Q (o:cm),bx F Q->aO.a3 R a F->cC I (g s R) k F Q (fF br Q o)->m (eX s) a Q o
end
section
variable {I:bK}{k:cg}{aP dT:Type}{F Q:ar}{L:iD}{e:b1}{T:hC aP}{E:Mo aP}
noncomputable def vi (L:iD)(c1:Mh):List ih:=c1.foldl (λL V=>L.set V.1 V.2) L
def rq (l:ck)(c1:KA):ck:=c1.foldl (λL V=>L.set V.1 V.2) l
inductive rr (F:ar):List (Nat×ih)->List (Nat×Option aS)->Prop
 |nil:rr F [] []
 |cons {aP:Type}{T:hC aP}{S:aP}{O:Nat}{v:aS}{c1 a} (Y:T.a3 S v F) (n:rr F c1 a):rr F ((O,.aL T S)::c1) ((O,D v)::a)
def Ml (I:bK)(g:i7)(T:hC aP)(c1:aP->Mh):Prop:=
 ∀S v l F Q (o:ck->ar->Prop),bx F Q->T.a3 S v F->(∀a,rr F (c1 S) a->o (rq l a) Q)->g v l Q o
theorem XX {l:ck}{O h:Nat}{A:i5}(Y:O<l.length):((l.set O A)[h]?).join=if O=h then A else(l[h]?).join:=by
 grind
theorem XY {l:ck}{O:Nat}{z:ih}{A:i5}(a:L.length=l.length)(Y:gY L l F)(b:z.Z A F):gY (L.set O z) (l.set O A) F:=by
 intro h n e;rw[zd]at e;split at e
 ·grind
 ·rename_i G
  by_cases q:O<l.length
  ·rw[XX q,if_neg G];exact Y h n e
  ·rw[List.set_eq_of_length_le (by lia)];exact Y h n e
theorem XZ (N:rr F c1 a):∀{L:iD}{l:ck},L.length=l.length->gY L l F->gY (vi L c1) (rq l a) F/\(rq l a).length=l.length/\(vi L c1).length=L.length:=by
 induction N with
 |nil=>exact λc Y=>⟨Y,rfl,rfl⟩|cons d n e=>
  rename_i T S O v c1 a
  intro L l c Y;obtain⟨f,b,R⟩:=e  (l:=l.set O _) (by simp_all) (XY (z:=.aL T S) c Y ⟨v,rfl,d⟩)
  exact⟨f,b.trans (by rw[wy]),R.trans (by rw[wy])⟩
def X0 (L:iD)(is:bt):Prop:=∀O∈is,∀z,L[O]?=D z->z=.od
theorem X1 (N:rr F c1 a):∀{l:ck},h∉c1.map (·.1)->(rq l a)[h]?=l[h]?:=by
 induction N with
 |nil=>exact λ_=>rfl|cons d n c=>
  rename_i O v c1 a
  intro l b;exact(c (l:=l.set O (D v)) λG=>b (f5 _ G)).trans (j9 (λG=>b (by rw[<- G];exact eI)))
structure vj (I:bK)(a:kg)(j:List aP)(T:hC aP)(bF:ar):Prop where
 eU:∀O Q X,bx bF Q->j[O]?=D X->a.eU O Q/\∀v ay,a.z3 O Q v ay->∀F,bx bF F->bx F Q->∃a4,f9 F Q a4 ay/\T.a3 X v a4
 p8:∀Q,bx bF Q->a.p8 j.length Q
def vk (I:bK)(b:p_)(k:cg)(L:iD)(E:Mo (List aP))(T:hC aP):Prop:=
 ∀l F Q (a3:kg->ar->Prop),gY L l F->bx F Q->cC I E k F Q (λj a4 ay=>∀a,vj I a j T a4->a3 a ay)->b l Q a3
noncomputable def gF (a8:Int)(y:Nat):List Int:=(fW y).map λ(O:Nat)=>a8+O
theorem X2 {a8:Int}{y:Nat}{bF:ar}:vj I (o4 a8 y) (gF a8 y) vh bF:=by
 refine⟨λO Q X b a=>?_,λQ b=>?_⟩
 ·unfold gF at a
  rw[gS]at a;cases e:(fW y)[O]? with
  |none=>simp_all|some R=>
   rw[e]at a;cases a;obtain⟨aE,e⟩:=ia.mp e;rw[Js]at e;subst e;rw[qY]at aE;refine⟨aE,?_⟩;rintro v ay ⟨rfl,rfl⟩ F _ c;exact⟨F,.fu c,rfl⟩
 ·show y<=_
  unfold gF;simp_all
noncomputable def mx (j:List aP):List (Int×aP):=(fW j.length).zip j |>.map λV=>((V.1:Int),V.2)
theorem Fi (j:List aP)(O:Nat):(mx j)[O]?=(j[O]?).map λX=>((O:Int),X):=by
 unfold mx;grind
theorem Fj (j:List aP):(mx j).length=j.length:=by unfold mx;simp_all
def lT (w:aP->Mo (Option dT)):List aP->List dT->Mo (List dT)
 |[],bA=>.f bA|X::j,bA=>(w X).aC λA=>match A with |none=>lT w j bA |some q=>.ei (bA.length+1) (lT w j (bA++[q]))
noncomputable def cX (b2:c_)(bN:jJ)(L:iD):List ih:=b2.map (λ_=>ih.od)++bN.map λV=>(L[V.2]?).getD .od
theorem X3 {bN:jJ}(Y:gY L l F):gY (cX b2 bN L) (o8 b2 bN l) F:=by
 intro O z e;unfold cX at e;unfold o8;by_cases aE:O<b2.length
 ·rw[ux (by simp_all),gS,gx aE]at e
  cases e;trivial
 ·rw[pV (by rw[cE];lia),cE,gS]at e
  rw[pV (by rw[cE];lia),cE,gS]
  cases G:bN[O-b2.length]? with
  |none=>simp_all|some V=>
   rw[G]at e;have e  := by simpa using e
   show ih.Z z (l[V.2]?).join F
   cases q:L[V.2]? with
   |none=>rw[q]at e;rw[<- e];trivial|some n=>rw[q]at e;cases e;exact Y _ _ q
theorem X4 {bN:jJ}:(cX b2 bN L).length=(o8 b2 bN l).length:=by unfold cX o8;simp
def lU (R:pd)(w:Mo dT):Mo (Option dT):=(R.aC λb=>if b then w.aC λq=>.f (D q)else .f i).sN
end
def dG (bE bk F Y Q:ar):Prop:=f9 bE bk F Q/\c4 F Y/\bx Y Q/\(∀N,Y N≠i->bk N=i)/\∀N j,Y N≠D (.bb j)
section
variable {I:bK}{k:cg}{aP:Type}{bE bk F Y Q:ar}{e:b1}{E:Mo aP}{n:gf}
theorem dG.rt (a:dG bE bk F Y Q):bx (aK F Y) Q:=λN A e=>by
 unfold aK at e;cases G:F N with
 |some p=>rw[G]at e;cases e;exact a.1.2.1 _ _ G|none=>rw[G]at e;exact a.2.2.1 _ _ e
def gm (ak Y:ar):ar:=λN=>match Y N with |none=>ak N |some _=>i
theorem vl {ak Y:ar}(e:Y N=i):gm ak Y N=ak N:=by unfold gm;rw[e]
theorem dG.ej (d:dG bE bk F Y Q)(X:f9 (aK F Y) Q G' ay):dG bE bk (gm G' Y) Y ay/\bx F (gm G' Y)/\tf G' (gm G' Y):=by
 obtain⟨a,dc,eK,f,g⟩:=d;have c:bx F (gm G' Y):=λN A e=>by
  have h:Y N=i:=by
   rcases dc N with G |G
   ·simp_all
   exact G
  rw[vl h];exact X.1 _ _ (mw _ _ e)
 refine⟨⟨⟨a.1.ct c,λN A e=>?_,a.2.2.1.ct X.2.2.1,λN S b=>?_⟩,λN=>?_,λN A e=>?_,f,g⟩,c,λN j e=>?_⟩
 ·unfold gm at e
  split at e
  ·exact X.2.1 _ _ e
  cases e
 ·unfold gm at b
  split at b
  ·cases q:aK F Y N with
   |none=>exact a.2.2.1.cz (X.2.2.2 N q b)|some A=>
    unfold aK at q;cases p:F N with
    |some _=>exact a.2.2.2 N S (by rw[p];exact fQ _)|none=>simp_all
  trivial
 ·unfold gm
  cases G:Y N with
  |none=>exact .inr rfl|some A=>exact .inl rfl
 ·exact X.2.1 _ _ (X.1 _ _ (ro dc _ _ e))
 ·unfold gm
  cases G:Y N with
  |none=>exact e|some A=>
   have:=X.1 _ _ (ro dc _ _ G);simp_all
theorem kN.ej {X:m2}(a:dG bE bk F Y Q)(q:f9 (aK F Y) Q G' ay)(n:kN I k X bk (gm G' Y) ay):kN I k X Q G' ay:=by
 cases X with
 |g_ R=>exact n|«at» R aG=>
  refine λbS au e V E=>n bS au (a.1.2.2.1.cz e) ?_ (E.e8 (a.ej q).2.2)
  rw[vl (a.2.2.1.cz e)];exact V
theorem dG.e9 (a:dG bE bk F Y Q)(X:f9 F Q a4 ay):dG bE bk a4 Y ay:=by
 refine⟨a.1.ct X,λN=>?_,a.2.2.1.ct X.2.2.1,a.2.2.2.1,a.2.2.2.2⟩
 cases G:Y N with
 |none=>exact .inr rfl|some A=>
  left;rcases a.2.1 N with q |q
  ·cases p:a4 N with
   |none=>rfl|some b3=>have:=X.2.2.2 N q (by rw[p];exact fQ _);rw[a.2.2.1 _ _ G]at this;cases this
  lia
theorem Fl {a Y:ar}(b:bx Y Q)(c:∀N,a N≠i->Q N=i):c4 a Y:=λN=>by
 cases G:a N with
 |none=>exact .inl rfl|some p=>
  have:=c N (by rw[G];exact fQ _)
  exact .inr (b.cz this)
theorem X5 {s:List aP}{O:Nat}(Y:s[O]?=D A):s.set O A=s:=by
 obtain⟨aE,e⟩:=ia.mp Y;rw[<- e];exact List.set_getElem_self aE
theorem dG.X6 (X:f9 bE bk bF aw)(c:dG bE bk F Y Q)(z:bx bF F):dG bF bk F Y Q:=by
 obtain⟨a,dc,eK,d,e⟩:=c;refine⟨⟨z,a.2.1,a.2.2.1,λN S b=>a.2.2.2 N (X.1.cz S) b⟩,dc,eK,d,e⟩
theorem dG.AR (X:f9 bE bk bF aw)(c:dG bF bk F Y Q):dG bE bk F Y Q:=by
 obtain⟨a,dc,eK,d,e⟩:=c;refine⟨⟨X.1.ct a.1,a.2.1,a.2.2.1,λN S b=>?_⟩,dc,eK,d,e⟩
 cases G:bF N with
 |none=>exact a.2.2.2 N G b|some p=>exact X.2.2.2 N S (by rw[G];exact fQ _)
variable {L:iD}
def vm (O h:Int):Prop:=0<h/\Kg O h=aA
noncomputable instance (O h:Int):Decidable (vm O h):=inferInstanceAs (Decidable (_/\_))
noncomputable instance (O h:Int):Decidable (IntMulOk O h):=inferInstanceAs (Decidable (¬_))
abbrev X7:ez:=xg IntMulOk λO h=>.c (O*h)
abbrev Fm:ez:=xg vm λO h=>.c (O / h)
theorem X8 {H:bU}:dF H (ky .Mult) X7:=ER (Es λ_ _ _ _ _ _ _ a V=>mul_int V a)
theorem X9 {H:bU}:dF H (ky .FloorDiv) Fm:=ER (Es λO h _ _ _ _ _ a V=>by
 have af  := a.1;exact floordiv_int (by lia) (by rwa[Int.fdiv_eq_ediv_of_nonneg O (by lia)]) (.inl a.2))
theorem X_:m3 I Ar k L (.f ag):=λl F Q o b a V=>V.f a
end
section
open PySem PySem.Spec PyProof.Rows in
theorem Ya (a:0<h)(Y:h.natAbs.log2<9000):vm S h:=by
 refine⟨a,?_⟩;unfold Kg;lia
theorem log2_lt {y C:Nat}(Y:y<2 ^ C):y.log2<C\/y=0:=by
 by_cases a:y=0
 ·exact .inr a
 exact .inl ((Nat.log2_lt a).mpr Y)
theorem Yb (a:0<h)(Y:h<2 ^ 1000):vm S h:=by
 refine Ya a ?_;have af:h.natAbs<2 ^ 1000:=by
  grind
 rcases log2_lt af with Y |Y
 ·lia
 ·rw[Y];decide
open PySem PySem.Spec PyProof.Rows in
theorem Mm {O h:Int}(Y : -(2 ^ 64)<O/\O<2 ^ 64 \/ -(2 ^ 64)<h/\h<2 ^ 64):IntMulOk O h:=z8.f Y
theorem pf (a8:Int)(y:Nat):(gF a8 y).length=y:=by unfold gF;simp_all
theorem Mn {a8 X:Int}{y:Nat}:X∈gF a8 y↔a8<=X/\X<a8+y:=by
 unfold gF;simp only[fk,ma];constructor
 ·lia
 rintro⟨af,ai⟩;exact⟨(X-a8).toNat,by lia,by lia⟩
end
section
variable {bE bk F Y Q:ar}
theorem Fn {l m aF:ar}(g:dG bE bk F Y Q)(c:Y N≠i)(h:∀j,b3≠.bb j)(aF:ar)(a:∀V,aF V=if V=N then D b3 else Y V):dG bE bk F aF (cq Q N b3):=by
 obtain⟨b,dc,eK,d,k⟩:=g;have e:F N=i:=by
  rcases dc N with G |G
  ·exact G
  ·exact absurd G c
 have f:bk N=i:=d N c;refine⟨⟨b.1,λV A G=>?_,λV A G=>?_,b.2.2.2⟩,λV=>?_,λV A G=>?_,λV G=>?_,λV aV G=>?_⟩
 ·unfold cq;split
  ·rename_i p;rw[p,e]at G;cases G
  ·exact b.2.1 _ _ G
 ·unfold cq;split
  ·rename_i p;rw[p,f]at G;cases G
  ·exact b.2.2.1 _ _ G
 ·rw[a];split
  ·rename_i p;rw[p];exact .inl e
  ·exact dc V
 ·rw[a]at G;unfold cq
  split at G
  ·rename_i p;rw[if_pos p];exact G
  ·rename_i p;rw[if_neg p];exact eK _ _ G
 ·rw[a]at G;split at G
  ·rename_i p;rw[p];exact f
  ·exact d V G
 ·rw[a]at G;split at G
  ·exact h aV (by injection G)
  ·exact k V aV G
@[irreducible] def tg:Nat:=100000
end
open PySem.SeqAt
open PySem.AutoSeq1 (wpAny_loadPart')
open PySem.MeetsSeq PySem.MeetsSeq2 PySem.MeetsSeq3
section
variable {aP:Type}
theorem Mp {y t:Nat}{O:Int}(Y:0<=O):HT.d3 y t (D O)=min O.toNat y:=by
 unfold HT.d3;lia
theorem AS {O:Int}(Y:0<=O):fU j i (D O)=j.take O.toNat:=by
 unfold fU;rw[Mp Y,show HT.d3 _ 0 i=0 from rfl,oQ,DL,<- List.take_take,zm]
theorem Fo {O:Int}(Y:0<=O):fU j (D O) i=j.drop O.toNat:=by
 unfold fU;rw[Mp Y];by_cases a:O.toNat<=j.length
 ·rw[zv a,List.take_of_length_le (by rw[qZ];exact cZ _)]
 rw[DK (by lia),wB,List.drop_eq_nil_of_le (by lia),DI]
theorem Yc (Y:V∈mx j):∃O:Nat,O<j.length/\V.1=O/\j[O]?=D V.2:=by
 obtain⟨O,aE,e⟩:=List.mem_iff_getElem.mp Y;rw[Fj]at aE;have:=Fi j O;grind
end
noncomputable def m4 {aP:Type}(j:List aP)(y:Int):List aP:=(gy y.toNat j).flatten
def xx (m:Nat)(y:Int):Prop:=0<=y/\y<=100000/\m<=100000/\m*y.toNat<=100000
noncomputable instance (m:Nat) (y:Int):Decidable (xx m y):=inferInstanceAs (Decidable (_/\_))
def Fp:ez:=λX q Q o=>match X,q with
 |.c O,.c h=>IntMulOk O h/\o (.c (O*h)) Q|.d G,.c y=>xx G.cps.toList.length y/\o (eX (m4 G.cps.toList y)) Q|.a0 s,.c C=>∃j,Q s=D (.aM j)/\xx j.length C/\∀N,Q N=i->o (.a0 N) (cq Q N (.aM (m4 j C)))|_,_=>False
theorem Mq (G:mR)(y:Nat):(zt (λx1 x2=>x1++x2) #[] (gy y G)).toList=(gy y G.toList).flatten:=by
 have:∀(s:List _) (bA:mR),(s.foldl (λx1 x2=>x1++x2) bA).toList=bA.toList++(s.map DY).flatten:=by
  intro s;induction s with
  |nil=>intro bA;simp
  |cons S s a=>simp_all
 rw[this];simp
theorem Yd {H:bU}:dF H (ky .Mult) Fp:=by
 intro aj z l Q X q v u o a c d Y
 cases X<;>cases q<;>first
  |exact Y.elim
  |exact X8 aj z l Q _ _ v u o a c d Y
  | (obtain⟨j,g,⟨h,k,m,b⟩,V⟩:=Y
     exact V0 aj z l Q _ _ v u o a c d ⟨_,_,j,rfl,rfl,g,by lia,by lia,lR b,V⟩)
  | (rename_i G y
     obtain⟨⟨h,k,m,b⟩,V⟩:=Y;obtain⟨n,rfl⟩:=c;obtain⟨s,rfl⟩:=d;have f:G.length=G.cps.toList.length:=by simp[ny]
     refine PySem.P.mul_str (by simp;lia) (λaf ai=>?_) (λaf ai=>?_) ?_
     ·rw[f]
      have p:0<y:=by lia
      have:(G.cps.toList.length:Int)*y<=2 ^ 63-1:=by
       have e:y=(y.toNat:Int):=by lia
       rw[e,<- Int.natCast_mul];lia
      have:=Int.le_ediv_of_mul_le p this;lia
     ·unfold Sz
      rw[f];have:=lR b;exact decide_eq_false (by lia)
     ·by_cases af:y<1
      ·rw[if_pos af]
       have:y=0:=by lia
       subst this;exact⟨mc _,eX [],Q,a.fS _,⟨_,rfl⟩,V⟩
      ·rw [if_neg af]
       by_cases ai:(y == 1 ||G.length == 0)=ag
       ·rw[if_pos ai]
        have e:m4 G.cps.toList y=G.cps.toList:=by
         unfold m4;rw[pY]at ai;rcases ai with ai |ai
         ·have:y=1:=by simpa using ai
          subst this;simp
         ·have:G.cps.toList=[]:=qV.mp (by rw[<- f];simpa using ai)
          rw[this];simp
        rw[e]at V;refine⟨eX G.cps.toList,Q,a,⟨n,?_⟩,V⟩;grind
       ·rw[if_neg ai]
        refine⟨?_,eX (m4 G.cps.toList y),Q,a.fS _,⟨z.toks,?_⟩,V⟩
        ·have e:(⟨zt (λx1 x2=>x1++x2) #[] (gy y.toNat G.cps)⟩:Str).length=(gy y.toNat G.cps.toList).flatten.length:=by
          rw[<- Mq];simp[ny]
         rw[e,Lw];exact lR (by rw[JS];exact b)
        show wL _ _=wL _ _
        congr 1;unfold m4;rw[<- Mq])
section
variable {aP:Type}{Q:ar}{T:hC aP}
theorem Ye (b:fM T Q j a)(y:Int):fM T Q (m4 j y) (m4 a y):=by
 unfold m4;induction y.toNat with
 |zero=>exact .nil|succ m c=>exact b.dE c
noncomputable def pg (s:kd):List Str:=s.map λG=>⟨G.toArray⟩
end
theorem Yf:isSubtype (p2 "int") (p2 "int")=pure ag:=by first |rfl |exact AutoSeq1.sub_int_int
theorem Yg:typeLookup (p2 "str") (sE "__int__")=pure i:=by kernel_rfl!
theorem Yh:typeLookup (p2 "str") (sE "__index__")=pure i:=by kernel_rfl!
theorem Yi:typeLookup (p2 "str") (sE "__trunc__")=pure i:=by kernel_rfl!
theorem Yj {n:Tok}{R:Nat}(a:48<=R)(af:R<=57):Meets (sd.«int.__new__» ⟨[.type "int",.str ⟨#[R]⟩ n],[]⟩) (λ_ a3 z=>a3 (.ok (.ret (.int ((R:Int)-48) z.toks))) {z with toks:=z.toks+1}):=by
 intro prog p r a3 z Y;have b:=Yf;have c:=PySem.F.madeHere_int;have d:=Yg;have f:=Yh;have g:=Yi
 wp_walk
 refine Eq.mp (congrArg (λn=>bT (model prog p) r.in1 n _ _ _) (?e:mkInt ((R:Int)-48)=_)) ?_
 case e=>
  have:R=48\/R=49\/R=50\/R=51\/R=52\/R=53\/R=54\/R=55\/R=56\/R=57:=by lia
  clear Y b c d f g a af;rcases this with rfl |rfl |rfl |rfl |rfl |rfl |rfl |rfl |rfl |rfl<;>kernel_rfl!
 wp_walk
 exact Y
noncomputable def Mr (G:bt):Bool:=match G with |[R]=>decide (48<=R/\R<=57)|_=>aA
noncomputable def Yk (G:bt):Int:=match G with |[R]=>(R:Int)-48 |_=>0
def AU:bp->ar->cm->Prop:=λj Q o=>match j with
 |[.d G]=>Mr G.cps.toList=ag/\o (.c (Yk G.cps.toList)) Q|[.aQ b]=>o (.c (if b=ag then 1 else 0)) Q|_=>False
theorem Yl {H:bU}:i9 H (.type "int") AU:=by
 intro aj z l Q j ae o b E Y;unfold AU at Y;split at Y
 ·rename_i G
  obtain⟨u,rfl,n,rfl⟩:=mV E;obtain⟨a,V⟩:=Y;unfold Mr at a;split at a
  ·rename_i R c
   have d:G=⟨#[R]⟩:=by rw[EN G,c]
   subst d;have a:=of_decide_eq_true a;refine call_int_1 (Yj a.1 a.2) ?_;refine⟨?_,.c _,Q,b.fS _,⟨_,rfl⟩,V⟩;exact rfl
  cases a
 ·obtain⟨u,rfl,e⟩:=mV E
  cases e;exact call_int_bool ⟨.c _,Q,b.fS _,⟨_,rfl⟩,Y⟩
 exact Y.elim
end L2
namespace Att
open PySem PySem.W PySem.Calls PyProof.Rows
theorem Ym {a:eM}(Y:WData.layableAll [WData.list (a.map WData.int)]=ag):∀X∈a,zR X<=1048576:=by
 intro X b;exact PyData.bits_of_layable (layable_int (layableW_item (layableW_arg Y _ (fy.mpr rfl)) _ (fk.mpr ⟨X,b,rfl⟩)))
theorem Yn {s:OpenLaw}{y:Nat}{V:dk}{h:c_}{j:e2->Heap->Prop}{k:cN->Heap->Prop}{t:DefRec}
  (n:s.most=D y) (o:t.params.defaults=[])
  (q:∀(p:cN) (l b:bz) (a6 e:e2) (hS:ba) (A:l8) (f d g:bq) (S:ba) (a:dt) (c:eM),
   (∀X∈c,zR X<=1048576) ->
   Ground V h [] j p l a6 e b.heap->k p b.heap ->
   b.heap.get? hS=D A->A.data=.func (docDef t.name t.params t.body t.scope f d g)->b.heap.CodeRec d t.name->a6 t.name=D (.ref hS) ->
   b.heap.get? S=D {cls:=.type "list",data:=.seq a.toArray}->IntsAre a c->c.length<=y->b.gens=#[] ->
   codeAny (model s.prog p) callerA (.call (.ref hS) ⟨[.ref S],[]⟩) (λE bc=>E=.ok (.ret (.bool ag))/\OldK b.heap bc.heap/\bc.os=b.os/\AllBare bc.gens) b):
  WalkO V h j k s.row.toRowW t [] (λw a=>Dw w a):=by
 intro p l b a6 e ak u hS A f d g v x z B C m F G R T aG I J U K W;obtain rfl:v=.none:=Dflts.none m o;obtain rfl:x=.none:=Dflts.noKw m;obtain⟨S,a,c,rfl,rfl,L,M,N⟩:=V2 n I K;refine enter_call (codeAny_mono (q p _ b a6 e hS A f d g S a c (Ym J) ak u z (fd_plain B) C F L M N G) λE bc O=>?_)
 obtain⟨rfl,ai,bw,P⟩:=O;exact⟨.inl ⟨.bool ag,.bool ag,[],rfl,λ_=>rfl,.bool ag,V3 s _,λ_=>⟨Tt,λ_ Q=>(nomatch Q)⟩⟩,ai,bw,P⟩
end Att
namespace L2
open PySem PySem.Spec PyProof.Rows
theorem Yo {s:DS}{y C:Nat}{V:dk}{g:c_}{h:e2->Heap->Prop}{d:cN->Heap->Prop}{t:DefRec}{I:Params->bK}{dN:cN->kh}{cx:cN->gW}{X:Str}
  (j:s.most=D y) (k:y<=cA) (l:t.params.defaults=[]) (m:gD C callerA) (n:[X]=u0) (o:∀N,Al V (I N)=ag)
  (q:∀(p:cN) (Y:Heap),d p Y->(I p.params).In Y)
  (F:∀(p:cN) (a6:e2) (hS:ba) (Y:Heap),(I p.params).In Y->Y.Ns ft a6->a6 t.name=D (.ref hS) ->
   ∃bP:i4,(∀(z:bz) (u:bq),BindsTo z bP ⟨[u],[]⟩ [(X,u)]) /\
    ∀bj:Heap,(I p.params).In bj->bj.Ns ft a6->gX s.prog p (I p.params) a6 bj (dN p) C hS bP [X] (cx p))
  (x:∀(p:cN) (Q:ar) (S:ba) (b:eM),b.length<=y->(∀X∈b,zR X<=1048576)->EJ Q->d1 (I p.params) Q S (b.map aS.c)->cx p [.a0 S] Q (λv _=>v=.aQ ag) λ_ _ _=>False)
  (B:∀(p:cN) (Q:ar) (z:bz) (e:bq) (bc:bz),dN p [] Q z (λ_ _ _=>False) e bc->False):
  W.WalkO V g h d s.row.toRowW t [] (λw a=>Dw w a):=by
 refine Att.Yn j l λp Z E a6 aa hS A ab ac ae S a b G ak J af ah ai K L M f O=>?_
 have c:=q p _ J;obtain⟨bP,P,R⟩:=F p a6 hS _ c ak.T.g K;exact V4 c ak.T.g ak.T.b ak.T.builtins ak.T.nolimit ak.T.bmain O L M (ka f k) m n R P (λQ T U=>x p Q S b f G T U) (λQ e bc=>B p Q E e bc) (V5 ak.T c (o _))
abbrev AV (a:eM):Prop:=∀X∈a,zR X<=1048576
open PySem PySem.Spec PyProof.Rows PySem.W
section
variable {aP dT:Type}
def kO (lt:lK)(y:Nat):KasT aP->(aP->Prop)->Prop
 |.ret S,P=>P S|.ask O h C,P=>O<y/\h<y/\kO lt y (C (lt O h)) P
variable {lt:lK}{y:Nat}
theorem vn {w:aP->KasT dT}{P:dT->Prop}:∀(n:KasT aP),kO lt y n (λS=>kO lt y (w S) P)->kO lt y (n.bind w) P
 |.ret _,Y=>Y|.ask O h C,Y=>⟨Y.1,Y.2.1,vn _ Y.2.2⟩
theorem qj {P o:aP->Prop}(a:∀S,P S->o S):∀(n:KasT aP),kO lt y n P->kO lt y n o
 |.ret _,Y=>a _ Y|.ask O h C,Y=>⟨Y.1,Y.2.1,qj a _ Y.2.2⟩
theorem Ms {p:cN}{r:dM} {P:aP->Prop}
  (b:∀O h (aO:Bool->bz->Prop),O<y->h<y->aO (lt O h) z->kas_ask prog p r fR a O h aO z) (c:∀S,P S->o S z):∀n:KasT aP,kO lt y n P->n.kasWp (kas_ask prog p r fR a) o z
 |.ret S,Y=>c S Y|.ask O h C,Y=>b O h _ Y.1 Y.2.1 (Ms b c _ Y.2.2)
structure kP (lt:lK):Prop where
 oe:∀{S b},lt S b=ag->lt b S=aA
 jy:∀{S b R},lt b S=aA->lt R b=aA->lt R S=aA
abbrev fB (lt:lK)(S b:Nat):Prop:=lt b S=aA
theorem kP.fu (p:kP lt)(S:Nat):fB lt S S:=by
 cases Y:lt S S with
 |false=>exact Y|true=>exact p.oe Y
abbrev jr (N:mR)(y:Nat):Prop:=N.toList.Perm (fW y)
theorem th (Y:jr N y):N.size=y:=by have:=Y.length_eq;rwa[qY]at this
theorem ph (Y:jr N y){O:Nat}(aE:O<y):N.getD O 0<y:=by
 have a:=th Y;have:N.getD O 0=N[O]'(by lia):=by simp[Kf,a,aE]
 rw[this];exact ma.mp (Y.mem_iff.mp (by simp))
theorem xy {N V:mR}{O h:Nat}(Y:N[O]?=V[h]?):N.getD O 0=V.getD h 0:=by simp_all
theorem xA (Y:jr N y)(O h:Nat):jr (kas_rev N O h) y:=(Kd.mp (mirror_perm N O h _)).trans Y
theorem ru {N:mR}{O h:Nat}(a:h<=N.size)(C:Nat):(kas_rev N O h).getD C 0=if O<=C/\C<h then N.getD (O+h-1-C) 0 else N.getD C 0:=by
 have:=getElem?_mirror_all  (i:=O) a C;split
 ·rename_i V;rw[if_pos V]at this;exact xy this
 rename_i V;rw[if_neg V]at this;exact xy this
def my (lt:lK)(N:mR)(C:Nat):Prop:=∀O h,O<=h->h<C->fB lt (N.getD O 0) (N.getD h 0)
def rv (lt:lK)(N:mR)(C:Nat):Prop:=∀O h,O<=h->h<C->fB lt (N.getD h 0) (N.getD O 0)
theorem my.cW (p:kP lt)(N:mR):my lt N 1:=λO h S b=>by
 obtain rfl:O=h:=by lia
 exact p.fu _
theorem Fq (p:kP lt)(b:jr N y):∀(w m:Nat),1<=m->m+w<=y->my lt N m->kO lt y (kas_asc N w m) (λE=>m<=E/\E<=m+w/\my lt N E/\(E<m+w->lt (N.getD E 0) (N.getD (E-1) 0)=ag))
 |0,m,af,c,a=>⟨cZ _,cZ _,a,λY=>absurd Y (sr _)⟩|w+1,m,af,c,a=>by
  refine⟨ph b (by lia),ph b (by lia),?_⟩
  show kO lt y (if lt (N.getD m 0) (N.getD (m-1) 0)=ag then KasT.ret m else kas_asc N w (m+1)) _
  cases Y:lt (N.getD m 0) (N.getD (m-1) 0)with
  |true=>rw[if_pos rfl];exact⟨cZ _,by lia,a,λ_=>Y⟩|false=>
   refine qj (λE V=>⟨by lia,by lia,V.2.2.1,λG=>V.2.2.2 (by lia)⟩) _ (Fq p b w (m+1) (by lia) (by lia) λO h d f=>?_)
   by_cases e:h<m
   ·exact a O h d e
   ·obtain rfl:h=m:=by lia
    by_cases aB:O=h
    ·subst aB;exact p.fu _
    ·exact p.jy (a O (h-1) (by lia) (by lia)) Y
theorem Mt (p:kP lt)(d:m<=N.size)(g:V+1<=m)(a:rv lt N m)(e:∀O,m-(V+1)<=O->O<m->fB lt (N.getD O 0) (N.getD (m-1) 0)):rv lt (kas_rev N (m-(V+1)) m) m:=by
 intro O h f c;have bI:=ru (N:=N) (O:=m-(V+1)) d O;have bW:=ru (N:=N) (O:=m-(V+1)) d h;show lt _ _=aA
 rw[bI,bW];by_cases S:m-(V+1)<=O
 ·rw[if_pos ⟨S,by omega⟩,if_pos ⟨by omega,c⟩]
  exact p.jy (e _ (by omega) (by omega)) (a _ (m-1) (by omega) (by omega))
 ·rw[if_neg (λG=>S G.1)]
  by_cases b:m-(V+1)<=h
  ·rw[if_pos ⟨b,c⟩];exact a _ _ (by omega) (by omega)
  ·rw[if_neg (λG=>b G.1)];exact a _ _ f c
theorem Fs (p:kP lt):∀(w:Nat) (N:mR) (m V:Nat),jr N y->V+1<=m->m+w<=y->rv lt N m->(∀O,m-(V+1)<=O->O<m->fB lt (N.getD O 0) (N.getD (m-1) 0)) ->
  kO lt y (kas_desc w N m V) (λE=>jr E.1 y/\E.2.2+1<=E.2.1/\E.2.1<=m+w/\rv lt E.1 E.2.1/\∀O,E.2.1-(E.2.2+1)<=O->O<E.2.1->fB lt (E.1.getD O 0) (E.1.getD (E.2.1-1) 0))
 |0,N,m,V,a,af,l,c,f=>⟨a,af,cZ _,c,f⟩|w+1,N,m,V,a,af,l,c,f=>by
  have t:=th a;refine⟨ph a (by lia),ph a (by lia),?_⟩
  cases Y:lt (N.getD m 0) (N.getD (m-1) 0)with
  |true=>
   dsimp only;rw[if_pos rfl];have j:∀d:mR,jr d y->rv lt d m->d.getD m 0=N.getD m 0->(∀O,O<m->fB lt (N.getD (m-1) 0) (d.getD O 0))->kO lt y (kas_desc w d (m+1) 0) (λE=>jr E.1 y/\E.2.2+1<=E.2.1/\E.2.1<=m+(w+1)/\rv lt E.1 E.2.1/\∀O,E.2.1-(E.2.2+1)<=O->O<E.2.1->fB lt (E.1.getD O 0) (E.1.getD (E.2.1-1) 0)):=by
    intro d n o aR q;refine qj (λE V=>⟨V.1,V.2.1,by lia,V.2.2.2⟩) _ (Fs p w d (m+1) 0 n (by lia) (by lia) (λO h g s=>?_) λO S b=>?_)
    ·by_cases e:h<m
     ·exact o O h g e
     ·obtain rfl:h=m:=by lia
      by_cases aB:O=h
      ·subst aB;exact p.fu _
      ·rw[aR];exact p.jy (p.oe Y) (q O (by lia))
    ·obtain rfl:O=m:=by lia
     exact p.fu _
   by_cases k:V > 0
   ·rw[if_pos k]
    refine j _ (xA a _ _) (Mt p (by lia) af c f) ?_ λO aE=>?_
    ·rw[ru (by lia),if_neg (by lia)]
    ·rw[ru (by lia)]
     split
     ·exact c _ _ (by lia) (by lia)
     ·exact c _ _ (by lia) (by lia)
   ·rw[if_neg k]
    exact j N a c rfl λO aE=>c _ _ (by lia) (by lia)
  |false=>
   dsimp only;rw[if_neg (by decide)]
   refine⟨ph a (by lia),ph a (by lia),?_⟩
   cases ai:lt (N.getD (m-1) 0) (N.getD m 0)with
   |true=>dsimp only;rw[if_pos rfl];exact⟨a,af,by show m<=m+(w+1);lia,c,f⟩|false=>
    dsimp only;rw[if_neg (by decide)]
    refine qj (λE V=>⟨V.1,V.2.1,by lia,V.2.2.2⟩) _ (Fs p w N (m+1) (V+1) a (by lia) (by lia) (λO h g s=>?_) λO S b=>?_)
    ·by_cases e:h<m
     ·exact c O h g e
     ·obtain rfl:h=m:=by lia
      by_cases aB:O=h
      ·subst aB;exact p.fu _
      ·exact p.jy ai (c O (h-1) (by lia) (by lia))
    ·show fB lt (N.getD O 0) (N.getD m 0)
     by_cases e:O=m
     ·subst e;exact p.fu _
     ·exact p.jy (f O (by lia) (by lia)) Y
abbrev Ft (lt:lK)(y:Nat)(E:Nat×mR):Prop:=jr E.2 y/\E.1<=y/\my lt E.2 E.1
theorem Mu (p:kP lt)(a:jr N y)(af:1<=m)(c:m<=y)(b:rv lt N m):kO lt y (kas_tail3 m y N) (Ft lt y):=by
 have d:=th a;refine vn _ (qj (λE V=>?_) _ (Fq p (xA a 0 m) _ m af (by omega) λO h e f=>?_))
 ·exact⟨xA a 0 m,by show E<=y;omega,V.2.2.1⟩
 ·rw[ru (by omega),ru (by omega),if_pos (by omega),if_pos (by omega)]
  exact b _ _ (by omega) (by omega)
theorem Mv (p:kP lt)(d:jr N y)(h:m+1<=y)(e:rv lt N (m+1)):kO lt y (kas_descPart m y N) (Ft lt y):=by
 refine vn _ (qj (λE V=>?_) _ (Fs p _ N _ 0 d (by lia) (by lia) e λO S b=>?_))
 ·obtain⟨a,f,j,c,g⟩:=V
  have k:=th a;by_cases G:E.2.2 > 0
  ·rw[if_pos G]
   exact Mu p (xA a _ _) (by lia) (by lia) (Mt p (by lia) f c g)
  ·rw[if_neg G]
   exact Mu p a (by lia) (by lia) c
 ·obtain rfl:O=m:=by lia
  exact p.fu _
theorem Yp (p:kP lt)(a:jr N y)(n:1<=y):kO lt y (kas_count y N) (Ft lt y):=by
 have o:=th a;refine vn _ (qj (λm V=>?_) _ (Fq p a (y-1) 1 (cZ _) (by lia) (my.cW p N)))
 obtain⟨q,s,c,g⟩:=V;by_cases e:m=y
 ·rw[if_pos (by simp[e])];exact⟨a,by show m<=y;lia,c⟩
 ·rw [if_neg (by simp[e])]
  have d:=g (by lia)
  by_cases G:m > 1
  ·rw [if_pos G]
   refine⟨ph a (by lia),ph a (by lia),?_⟩
   cases R:lt (N.getD 0 0) (N.getD (m-1) 0)with
   |true=>dsimp only;rw[if_pos rfl];exact⟨a,by show m<=y;lia,c⟩|false=>
    dsimp only;rw[if_neg (by decide)]
    have f:∀S b,S<m->b<m->fB lt (N.getD S 0) (N.getD b 0):=λS b t j=>p.jy (p.jy (c S (m-1) (by lia) (by lia)) R) (c 0 b (by lia) j)
    refine Mv p (xA a 0 m) (by lia) λO h k l=>?_
    rw[ru (by lia),ru (by lia)]
    by_cases S:h<m
    ·rw[if_pos (by lia),if_pos (by lia)];exact f _ _ (by lia) (by lia)
    ·obtain rfl:h=m:=by lia
     rw[if_neg (by lia)]
     by_cases b:O<h
     ·rw[if_pos (by lia)];exact p.jy (p.oe d) (f _ _ (by lia) (by lia))
     ·obtain rfl:O=h:=by lia
      rw[if_neg (by lia)];exact p.fu _
  ·rw[if_neg G]
   obtain rfl:m=1:=by lia
   refine Mv p a (by lia) λO h k l=>?_
   by_cases S:O=h
   ·subst S;exact p.fu _
   ·obtain rfl:O=0:=by lia
    obtain rfl:h=1:=by lia
    exact p.oe d
theorem Fu (p:kP lt) {C:Nat}(a:jr N y)(g:C<y)(c:my lt N C):∀(w s E:Nat),s<=E->E<=C->E-s<=w->(∀O,O<s->fB lt (N.getD O 0) (N.getD C 0))->(∀O,E<=O->O<C->fB lt (N.getD C 0) (N.getD O 0)) ->
  kO lt y (kas_place N C w s E) (λm=>m<=C/\(∀O,O<m->fB lt (N.getD O 0) (N.getD C 0))/\∀O,m<=O->O<C->fB lt (N.getD C 0) (N.getD O 0))
 |0,s,E,af,ai,bw,d,f=>⟨by show s<=C;omega,d,λO S b=>f O (by omega) b⟩|w+1,s,E,af,ai,bw,d,f=>by
  unfold kas_place;by_cases e:s ≥ E
  ·rw[if_pos e];exact⟨by show s<=C;omega,d,λO S b=>f O (by omega) b⟩
  ·rw[if_neg e]
   refine⟨ph a g,ph a (by omega),?_⟩
   cases R:lt (N.getD C 0) _ with
   |true=>
    dsimp only;rw[if_pos rfl];refine Fu p a g c w s ((s+E) / 2) (by omega) (by omega) (by omega) d λO S b=>?_
    exact p.jy (p.oe R) (c _ _ S b)
   |false=>
    dsimp only;refine Fu p a g c w ((s+E) / 2+1) E (by omega) ai (by omega) (λO aE=>?_) f
    exact p.jy (c O ((s+E) / 2) (by omega) (by omega)) R
theorem Mw (p:kP lt):∀(w:Nat) (N:mR) (C:Nat),jr N y->C+w=y->my lt N C->kO lt y (kas_bin w N C) (λE=>jr E y/\my lt E y)
 |0,N,C,c,e,a=>⟨c,(show C=y by lia) ▸ a⟩|w+1,N,C,c,e,a=>by
  have k:=th c;refine vn _ (qj (λs V=>?_) _ (Fu p c (by lia) a C 0 C (by lia) (cZ _) (by lia) (λO aE=>absurd aE (by lia)) λO S b=>absurd b (by lia)))
  obtain⟨l,f,g⟩:=V;have d:∀O,(bubble N C (C-s)).getD O 0=if O=s then N.getD C 0 else if s<O/\O<=C then N.getD (O-1) 0 else N.getD O 0:=λO=>by
   have:=getElem?_bubble (xs:=N) (src:=C) (by lia) (C-s) (by lia) O
   rw[show C-(C-s)=s by lia]at this
   split
   ·rename_i G;rw[if_pos G]at this;exact xy this
   ·rename_i G
    rw[if_neg G]at this;split
    ·rename_i q;rw[if_pos q]at this;exact xy this
    ·rename_i q;rw[if_neg q]at this;exact xy this
  refine Mw p w _ (C+1) ((Kd.mp (bubble_perm N C _)).trans c) (by lia) λO h j m=>?_
  rw[d,d];by_cases aR:O=s
  ·rw[if_pos aR]
   by_cases aB:h=s
   ·rw[if_pos aB];exact p.fu _
   ·rw[if_neg aB,if_pos (by lia)];exact g _ (by lia) (by lia)
  ·rw[if_neg aR]
   by_cases aB:h=s
   ·rw[if_pos aB,if_neg (by lia)];exact f _ (by lia)
   ·rw[if_neg aB]
    by_cases n:s<O
    ·rw[if_pos (by lia),if_pos (by lia)];exact a _ _ (by lia) (by lia)
    ·rw[if_neg (by lia)]
     by_cases o:s<h
     ·rw[if_pos (by lia)];exact a _ _ (by lia) (by lia)
     ·rw[if_neg (by lia)];exact a _ _ j (by lia)
theorem Yq (p:kP lt)(a:1<=y):kO lt y (kas_sort y) (λE=>jr E y/\my lt E y):=by
 refine vn _ (qj (λE V=>?_) _ (Yp p (by simp[jr]) a))
 obtain⟨b,d,c⟩:=V;by_cases e:E.1<y
 ·rw[if_pos e]
  refine Mw p _ _ _ b (by lia) ?_
  by_cases aR:E.1=0
  ·rw[aR];exact my.cW p _
  ·rwa[Nat.max_eq_left (by lia)]
 ·rw[if_neg e]
  obtain e:E.1=y:=by lia
  rw[e]at c;trivial
end
section
variable {prog:dk}{p:cN}{r:dM}{k:bq->bz->Prop}{z:bz}{a:dt}{lt:lK}
def Mx (prog:dk)(p:cN)(a:dt)(lt:lK)(z:bz):Prop:=
 ∃fR,(∀(r:dM) (aO:SortKind->bz->Prop),aO fR z->bT (model prog p) r (keyKind' a.toArray) aO (λ_ _=>False) z) /\
  ∀(r:dM) O h (aO:Bool->bz->Prop),O<a.length->h<a.length->aO (lt O h) z->kas_ask prog p r fR a O h aO z
def ti (lt:lK)(y:Nat)(N:bt):Prop:=N.Perm (fW y)/\N.Pairwise (fB lt)
theorem Yr {y:Nat}(Y:jr N y/\my lt N y):ti lt y N.toList:=by
 refine⟨Y.1,List.pairwise_iff_getElem.mpr λO h aE b c=>?_⟩
 have d:=th Y.1;rw[zP]at aE b;have:=Y.2 O h (by lia) (by lia)
 have e:∀C (a:C<N.size),N.getD C 0=N.toList[C]'(by simpa using a):=λC a=>by simp[Kf,a]
 rwa[e O aE,e h b]at this
def AW (b:Nat):Prop:=b<=1000/\∀{prog:dk}{p:cN}{r:dM}{k:bq->bz->Prop}{z:bz}{a:dt}{lt:lK}{fR:SortKind},2<=a.length->a.length<b->kP lt ->
 (∀(r:dM) O h (aO:Bool->bz->Prop),O<a.length->h<a.length->aO (lt O h) z->kas_ask prog p r fR a O h aO z) ->
 bT (model prog p) r ((sortRuns').run (SortSt.mk' fR (a.toArray.zip a.toArray) #[] 7 i)) (λE bc=>bc=z/\∃N:bt,(arrOf E.2).map (·.2)=(N.map λO=>a.getD O la).toArray/\failedOf E.2=i/\ti lt a.length N) k z
theorem Ys:AW 64:=by
 refine⟨by decide,λ{prog p r k z a lt fR} f g h j=>?_⟩
 refine kx (kat_run (Q:=λb bc=>bc=z/\∃N:mR,N.size=a.length/\arrOf b=N.map _/\failedOf b=i/\(jr N _/\my lt N _)) (G:=λN bc=>bc=z/\(jr N _/\my lt N _))
   rfl f g (λfh b bc l m n c=>⟨c.1,fh,l,m,n,c.2⟩) (Ms  (j r) (λN d=>⟨rfl,d⟩) _ (Yq h (by lia)))) ?_ λ_ _ e=>e
 rintro⟨⟨⟩,b⟩ bc ⟨rfl,N,d,o,q,s⟩;exact⟨rfl,N.toList,kat_snds rfl o,q,Yr s⟩
theorem Yt (o:AW b) {y:Nat}{P:Jh->bz->Prop}(f:z.heap.get? S=D (seqObj "list" a.toArray y))(x:a.length<b)(B:kP lt)
  (iz:2<=a.length->∀aF:Heap,(∀b A,b≠S->z.heap.get? b=D A->aF.get? b=D A)->Mx prog p a lt {z with heap:=aF})
  (V:∀(aF:Heap) R (N:bt),(∀b A,b≠S->z.heap.get? b=D A->aF.get? b=D A)->ti lt a.length N->aF.get? S=D (seqObj "list" (N.map λO=>a.getD O la).toArray R)->P (.done (.ret .none)) {z with heap:=aF}):
  bT (model prog p) r (sd.«list.sort» ⟨[.ref S],[]⟩) P k z:=by
 have M:=o.1;have Q:S<z.heap.objs.size:=e1 f;have bf:=Kw z.heap S (kC λ_=>(#[]:Array bq))
 obtain⟨aR,q⟩:∃aR,(z.heap.update S (kC λ_=>(#[]:Array bq))).get? S=D (seqObj "list" #[] aR):=⟨_,get?_update_seq f λ_=>#[]⟩
 have j:∀b A,b≠S->z.heap.get? b=D A->(((z.heap.update S (kC λ_=>(#[]:Array bq))).push (seqObj "tuple" a.toArray 0)).push (seqObj "list" #[] 0)).get? b=D A:=λb A g e=>
  eQ _ (eQ _ ((bf.2 b g).trans e))
 have h:(((z.heap.update S (kC λ_=>(#[]:Array bq))).push (seqObj "tuple" a.toArray 0)).push (seqObj "list" #[] 0)).get? S=D (seqObj "list" #[] aR):=eQ _ (eQ _ q)
 rw[list_sort_plain];refine bR (listItems_at f rfl ?_);refine bR (listUpdate_at f rfl ?_ (by rw[fa,sizeLine_eq];lia) (mc _))
 refine bR (seqEpoch_at q rfl ?_);refine bR (wpAny_newTuple ?_ (by show a.length<=_;rw[sizeLine_eq];lia))
 refine bR (wpAny_newList ?_ (mc _));refine wpAny_holding ?_;show bT (model prog p) r _ P k {z with heap:=((z.heap.update S (kC λ_=>(#[]:Array bq))).push (seqObj "tuple" a.toArray 0)).push (seqObj "list" #[] 0)}
 generalize T:((z.heap.update S (kC λ_=>(#[]:Array bq))).push (seqObj "tuple" a.toArray 0)).push (seqObj "list" #[] 0)=ai at j h
 dsimp only
 have t:∀(c:SortSt) (N:bt),(arrOf c).map (·.2)=(N.map λO=>a.getD O la).toArray->failedOf c=i->ti lt a.length N->bT (model prog p) r (do
   let C:=(<- seqEpoch S) != aR
   SK (.ref S) λ_=>(arrOf c).map (·.2)
   if let D e:=failedOf c then rule "list.sort.comparison-raised";throw e
   if C then rule "list.sort.modified";raiseError "ValueError" "list modified during sort"
   ret .none) P k {z with heap:=ai}:=by
  intro c N l m u;rw[l,m];have E:(wF (N.map λO=>a.getD O la)).size=a.length:=by rw[fa,cE,u.1.length_eq,qY]
  have bo:=Kw ai S (kC λ_=>wF (N.map λO=>a.getD O la))
  obtain⟨n,F⟩:∃n,(ai.update S (kC λ_=>wF (N.map λO=>a.getD O la))).get? S=D (seqObj "list" (wF (N.map λO=>a.getD O la)) n):=⟨_,get?_update_seq h λ_=>wF (N.map λO=>a.getD O la)⟩
  refine bR (seqEpoch_at (s:={z with heap:=ai}) h rfl ?_);refine bR (listUpdate_at (s:={z with heap:=ai}) h rfl ?_ (mc _) (ka (uF E) (by rw[sizeLine_eq];lia)))
  simp only[bne_self_eq_false,Bool.false_eq_true,if_false];exact dQ (V _ n N (λb A g e=>(bo.2 b g).trans (j b A g e)) u F)
 by_cases v:2<=a.length
 ·have d:¬a.toArray.size<2:=by rw[fa];lia
  rw[if_neg d,if_neg d];obtain⟨fR,G,I⟩:=iz v ai j;refine bR (kx (G r (λw bc=>w=fR/\bc={z with heap:=ai}) ⟨rfl,rfl⟩) (λw U J=>?_) λ_ _ X=>X.elim)
  obtain⟨rfl,rfl⟩:=J;refine bR (kx (o.2 v x B I) ?_ λ_ _ e=>e)
  rintro⟨⟨⟩,c⟩ bc ⟨rfl,N,l,m,K⟩;exact t c N l m K
 ·have d:a.toArray.size<2:=by rw[fa];lia
  rw[if_pos d,if_pos d];refine bR (dQ ?_);refine bR (dQ ?_);refine t _ (fW a.length) ?_ rfl ⟨Kx _,?_⟩
  ·show((a.toArray.zip a.toArray).map (·.2))=_
   apply zQ.mp;rw[Array.toList_map,Array.toList_zip];have e:∀s:dt,(s.zip s).map (·.2)=s:=λs=>by
    induction s with
    |nil=>rfl|cons X s L=>rw[kB,eW,L]
   show(a.zip a).map (·.2)=(fW a.length).map λO=>a.getD O la
   rw[e];apply DD;intro O;by_cases aE:O<a.length
   ·simp[aE]
   ·simp[zg,aE,JR aE]
  ·rcases(show a.length=0\/a.length=1 by lia)with e |e
   ·rw[e];exact .nil
   ·rw[e];exact List.pairwise_singleton _ _
theorem Yu (g:AW b){s:ba}(l:z.heap.IsList s a.toArray)(n:a.length<b)(q:kP lt)
  (iz:2<=a.length->∀aF:Heap,(∀b A,z.heap.get? b=D A->aF.get? b=D A)->Mx prog p a lt {z with heap:=aF})
  (V:∀(aF:Heap) R (N:bt),(∀b A,z.heap.get? b=D A->aF.get? b=D A)->ti lt a.length N->aF.get? (z.heap.objs.size+1)=D (seqObj "list" (N.map λO=>a.getD O la).toArray R)->o (.ref (z.heap.objs.size+1)) {z with heap:=aF}):
  bT (model prog p) r (call (.builtin "sorted") [.ref s]) o k z:=by
 have w:=g.1;refine Calls.call_function_entry kind_sorted plain_sorted entry_sorted (args_sorted1 _) ?_;unfold sd.«sorted»;refine bR (m:=checkCount "sorted" 1 1 _) (dQ ?_);refine bR (collect_list l ?_ (by rw[sizeLine_eq];lia))
 refine bR (wpAny_newList ?_ (by rw[sizeLine_eq];lia))
 have d:((z.heap.push (seqObj "list" #[] 0)).update z.heap.objs.size (kC (·++a.toArray))).objs.size=z.heap.objs.size+1:=by
  rw[Heap.size_update,size_push']
 have h:(((z.heap.push (seqObj "list" #[] 0)).update z.heap.objs.size (kC (·++a.toArray))).push (seqObj "list" a.toArray 0)).get? (z.heap.objs.size+1)=D (seqObj "list" a.toArray 0):=by
  rw[<- d];exact gK _ rfl
 have t:∀b A,z.heap.get? b=D A->(((z.heap.push (seqObj "list" #[] 0)).update z.heap.objs.size (kC (·++a.toArray))).push (seqObj "list" a.toArray 0)).get? b=D A:=λb A V=>by
  have f:b<z.heap.objs.size:=e1 V;rw[JM _ _ _ (by rw[d];exact gz (wH f)),Heap.get?_update_ne _ _ _ _ (gz f),JM _ _ _ (gz f)]
  exact V
 show bT _ _ _ _ _ {z with heap:=((z.heap.push (seqObj "list" #[] 0)).update z.heap.objs.size (kC (·++a.toArray))).push (seqObj "list" a.toArray 0)}
 rw[d];have j:∀(aF:Heap),(∀b A,b≠z.heap.objs.size+1->(((z.heap.push (seqObj "list" #[] 0)).update z.heap.objs.size (kC (·++a.toArray))).push (seqObj "list" a.toArray 0)).get? b=D A->aF.get? b=D A)->∀b A,z.heap.get? b=D A->aF.get? b=D A:=λaF c b A e=>
  c b A (gz (wH (e1 e))) (t b A e)
 refine bR (wpAny_holding (wpAny_call_entry slot_list_sort ⟨_,h,rfl⟩ entry_list_sort ?body (args_list_sort _)))
 case body=>
  refine Yt g (z:={z with heap:=((z.heap.push (seqObj "list" #[] 0)).update z.heap.objs.size (kC (·++a.toArray))).push (seqObj "list" a.toArray 0)}) h n q (λai aF c=>iz ai aF (j aF c)) λaF R N c u v=>?_
  exact⟨_,rfl,dQ ⟨_,rfl,V aF R N (j aF c) u v⟩⟩
end
noncomputable def kQ:aS->Nat |.c _=>1 |.d _=>2 |_=>0
noncomputable def vo:aS->aS->Bool |.c S,.c b=>decide (S<b)|.d S,.d b=>decide (S.cps.toList<b.cps.toList)|_,_=>aA
noncomputable def tl:aS->aS->Bool |.c S,.c b=>S == b |.d S,.d b=>decide (S=b)|_,_=>aA
def tm:bp->bp->Bool
 |X::j,q::aV=>if tl X q then tm j aV else vo X q
 |_,_=>aA
section
variable {prog:dk}{p:cN}{r:dM}{k:bq->bz->Prop}{z:bz}{o:Bool->bz->Prop}
theorem tn {X:aS}(Y:kQ X≠0):(∃O,X=.c O)\/∃G,X=.d G:=by
 cases X<;>first |exact .inl ⟨_,rfl⟩|exact .inr ⟨_,rfl⟩|exact absurd rfl Y
theorem My {X q:aS}(d:cw X u)(f:cw q v)(a:kQ X=kQ q)(c:kQ X≠0)(V:o (vo X q) z):bT (model prog p) r (oneLt' b u v) o k z:=by
 rcases tn c with⟨O,rfl⟩|⟨G,rfl⟩
 ·rcases tn  (λe=>c (a.trans e))with⟨h,rfl⟩|⟨G,rfl⟩
  ·obtain⟨n,rfl⟩:=d
   obtain⟨g,rfl⟩:=f;cases b with
   |true=>exact oneLt_int V|false=>exact kat_one _ _ (SF V)
  ·cases a
 ·rcases tn  (λe=>c (a.trans e))with⟨h,rfl⟩|⟨j,rfl⟩
  ·cases a
  ·obtain⟨n,rfl⟩:=d
   obtain⟨g,rfl⟩:=f;cases b with
   |true=>exact oneLt_str V|false=>exact kat_one _ _ (SG V)
theorem Yv {X q:aS}(c:cw X u)(d:cw q v)(a:kQ X=kQ q)(b:kQ X≠0)(V:o (tl X q) z):bT (model prog p) r (eqBool u v) o k z:=by
 rcases tn b with⟨O,rfl⟩|⟨G,rfl⟩
 ·rcases tn  (λe=>b (a.trans e))with⟨h,rfl⟩|⟨G,rfl⟩
  ·obtain⟨n,rfl⟩:=c
   obtain⟨f,rfl⟩:=d;exact wpAny_eqBool_int V
  cases a
 ·rcases tn  (λe=>b (a.trans e))with⟨h,rfl⟩|⟨g,rfl⟩
  ·cases a
  ·obtain⟨n,rfl⟩:=c
   obtain⟨f,rfl⟩:=d;exact wpAny_eqBool_str V
theorem Mz:∀{j aV:bp}{ae a:dt}(O:Nat),b9 j ae->b9 aV a->j.map kQ=aV.map kQ->(0:Nat)∉j.map kQ->o (tm j aV) z->KatLex prog p r b aA o (ae.zip a) O z
 |[],[],_,_,O,.nil,.nil,_,_,V=>V|X::j,[],_,_,O,_,_,c,_,_=>by simp at c
 |[],X::j,_,_,O,_,_,c,_,_=>by simp at c
 |X::j,q::aV,_,_,O,.cons f E,.cons g l,c,d,V=>by
  injection c with h m;rw[eW]at d;have k:kQ X≠0:=λe=>d (by rw[e];exact eI ..)
  rw[kB];refine kat_cons (Yv f g h k (kat_go (λe=>kat_yes ?_) λe=>kat_no ?_))
  ·refine Mz (O+1) E l m (λe=>d (f5 _ e)) ?_
   unfold tm at V;simp_all
  ·refine My f g h k ?_
   unfold tm at V;simp_all
end
def vp (I:bK)(Q:ar)(aV:bp)(lt:lK):Prop:=
 (∃C,C≠0/\(∀q∈aV,kQ q=C)/\∀O h X q,aV[O]?=D X->aV[h]?=D q->lt O h=vo X q) \/
 (∃(a:Nat->bp) (b:bt),b≠[]/\0∉b/\(∀O q,aV[O]?=D q->∃S,q=.a0 S/\fL I Q S (a O)/\(a O).map kQ=b)/\∀O h,O<aV.length->h<aV.length->lt O h=tm (a O) (a h))
def vq (b:Nat)(I:bK):List aS->ar->cm->Prop:=λj Q o=>match j with
 |[.a0 N]=>∃aV lt,d1 I Q N aV/\aV.length<b/\kP lt/\vp I Q aV lt/\∀a,ti lt aV.length a->∀s,Q s=i->o (.a0 s) (cq Q s (.aM (a.map λO=>aV.getD O .a9)))|_=>False
noncomputable def tp (C:Nat):bq:=if C=1 then .type "int" else .type "str"
theorem MA {Y:Heap}{X:aS} {C:Nat}(E:cw X u)(a:kQ X=C)(b:C≠0):Looks M Y (typeOf u) (tp C):=by
 subst a;rcases tn b with⟨O,rfl⟩|⟨G,rfl⟩
 ·obtain⟨n,rfl⟩:=E
  exact .now
 ·obtain⟨n,rfl⟩:=E
  exact .now
theorem MB (C:Nat):(tp C != p2 "tuple")=ag:=by unfold tp;split<;>decide +kernel
theorem MC (C:Nat):(tp C == tp C)=ag:=by grind
theorem xB (E:b9 aV ae){O:Nat}(Y:O<ae.length):∃q,aV[O]?=D q/\cw q (ae.getD O la)/\q∈aV:=by
 have b:=b9.dS E;have e:aV[O]?=D aV[O]:=gx _;obtain⟨u,a,c⟩:=b9.g8 E e;refine⟨_,e,?_,si _⟩;rwa[nv,a]
theorem MD (E:b9 aV ae):∀(a:bt),(∀O∈a,O<ae.length)->b9 (a.map λO=>aV.getD O .a9) (a.map λO=>ae.getD O la)
 |[],_=>.nil|O::a,Y=>by
  obtain⟨q,e,c,_⟩:=xB E (Y O (eI ..));refine .cons ?_ (MD E a λh b=>Y h (f5 _ b))
  show cw (aV.getD O _) _
  rwa[nv,e]
section
variable {H:bU}
theorem Yw (al:AW b):i9 H (.builtin "sorted") (vq b H.I):=by
 have a0:=al.1;intro aj z l Q j ae o x E Y;unfold vq at Y;split at Y
 ·rename_i N
  obtain⟨aV,lt,av,a1,aw,ax,V⟩:=Y;obtain⟨u,rfl,J⟩:=mV E;cases J;obtain⟨c,m,ay,a2⟩:=x.d9 av;have az:=b9.dS m;refine Yu al ay.isList (by lia) aw (λai aF K=>?_) λaF R B K aE f=>?_
  ·rcases ax with⟨C,a,F,L⟩|⟨P,U,aC,am,aD,L⟩
   ·refine⟨oneType',λr aO d=>?_,λr O h aO aE W d=>?_⟩
    ·refine kas_kind ai (T:=tp C) (λv g=>?_) (MB C) (MC C) d
     obtain⟨O,aE⟩:=Jn.mp g;obtain⟨Z,_⟩:=ia.mp aE;obtain⟨q,_,n,aa⟩:=xB m Z;rw[nv,aE]at n;exact MA n (F q aa) a
    ·obtain⟨X,aT,J,an⟩:=xB m aE
     obtain⟨q,aG,n,aa⟩:=xB m W;rw[L O h X q aT aG]at d;unfold kas_ask;rw[keyLt'_oneType];exact My J n (by rw[F X an,F q aa]) (by rw[F X an];exact a) d
   ·have ab:∀O,O<c.length->∃(S:ba) (A:l8) (kI:dt) (y:Nat),c[O]?=D (.ref S)/\aF.get? S=D A/\A.cls=.type "tuple" /\ A.data=.seq kI.toArray y/\b9 (P O) kI/\(P O).map kQ=U:=λO aE=>by
     obtain⟨q,e,n,_⟩:=xB m aE;obtain⟨S,rfl,aH,a⟩:=aD O q e;obtain⟨kI,k,⟨A,f,G,y,p⟩,_⟩:=x.gC aH;refine⟨S,A,kI,y,?_,K _ _ f,G,p,k,a⟩;have:c.getD O la=.ref S:=n;grind
    obtain⟨C,I,rfl⟩:∃C I,U=C::I:=by
     cases U with
     |nil=>exact absurd rfl aC|cons C I=>exact⟨C,I,rfl⟩
    have aI:C≠0:=λe=>am (by rw[e];exact eI ..)
    refine⟨tuples' ag,λr aO d=>?_,λr O h aO aE W d=>?_⟩
    ·have aJ:∀(s:dt) (t:Nat),c.drop t=s->∃au,KatTups aF s au/\au.length=s.length/\∀v∈au,Looks (model H.cu H.p) aF (typeOf v) (tp C):=by
      intro s;induction s with
      |nil=>intro t _;exact⟨[],.nil,rfl,λv g=>by cases g⟩
      |cons v s aK=>
       intro t p;have ac:t<c.length:=by
        have:=congrArg mb p;rw[qZ,ew]at this;lia
       obtain⟨S,A,kI,y,e,f,G,aL,k,a⟩:=ab t ac;have aB:c.drop t=c[t]::c.drop (t+1):=se ac;rw[p]at aB;injection aB with aM aP;obtain⟨au,af,ao,ah⟩:=aK (t+1) aP.symm;rw[gx ac]at e;injection e with e;rw[aM,e];cases ap:P t with
       |nil=>rw[ap]at a;simp at a|cons X a3=>
        rw[ap]at k a;cases k with
        | @cons _ w _ a4 aQ kJ=>
         rw[eW]at a;injection a with aR ak;refine⟨w::au,.cons f G aL (by simp) af,by simp[ao],λv g=>?_⟩
         rcases dn.mp g with rfl |g
         ·exact MA aQ aR aI
         ·exact ah v g
     obtain⟨au,af,ao,ah⟩:=aJ c 0 rfl;have:=kat_kind (M:=model H.cu H.p) (A:=r) (E:=λ_ _=>False) (s:={z with heap:=aF}) (Q:=aO) af (by lia) ah (MC C) (by rw[MB];exact d)
     exact this
    ·obtain⟨S,A,kI,y,e,f,G,p,k,a⟩:=ab O aE
     obtain⟨aU,dc,ar,d_,aB,aW,a5,aX,as,ak⟩:=ab h W;unfold kas_ask;rw[nv,nv,e,aB];have aY:kI.length=ar.length:=by
      have a6:=b9.dS k;have aU:=b9.dS as;have:=congrArg mb (a.trans ak.symm);rw[cE,cE]at this;lia
     refine kat_lt (s:={z with heap:=aF}) f p aW aX ?_;rw[show decide (kI.toArray.size<ar.toArray.size)=aA from decide_eq_false (by simp[aY])]
     refine Mz 0 k as (a.trans ak.symm) (by rw[a];exact am) ?_
     rw[<- L O h (by lia) (by lia)]
     exact d
  ·refine⟨.a0 (z.heap.objs.size+1),_,x.hx (A:=.aM (B.map λO=>aV.getD O .a9)) (d:=z.toks) K (oR _) ?_,rfl,V B (by rwa[az]) _ (x.cL.fK (oR _))⟩
   have aZ:∀O∈B,O<c.length:=λO Z=>ma.mp (aE.1.mem_iff.mp Z)
   refine⟨?_,_,R,MD m B aZ,f⟩;rw[cE,aE.1.length_eq,qY,sizeLine_eq];lia
 ·exact Y.elim
variable {aP dT:Type}
structure mz (lt:aP->aP->Bool):Prop where
 oe:∀{S b},lt S b=ag->lt b S=aA
 jy:∀{S b R},lt b S=aA->lt R b=aA->lt R S=aA
 AX:∀{S b},lt S b=aA->lt b S=aA->S=b
noncomputable def kR (lt:aP->aP->Bool)(j:List aP):List aP:=j.mergeSort (λS b=>!lt b S)
theorem AY (lt:aP->aP->Bool)(j:List aP):(kR lt j).Perm j:=List.mergeSort_perm _ _
theorem mz.Yx {lt:aP->aP->Bool}(A:mz lt)(S:aP):lt S S=aA:=by
 cases Y:lt S S with
 |false=>rfl|true=>rw[<- Y];exact A.oe Y
theorem ME {lt:aP->aP->Bool}(A:mz lt)(j:List aP):(kR lt j).Pairwise λS b=>lt b S=aA:=by
 have:=List.pairwise_mergeSort (le:=λS b=>!lt b S) (λS b R af ai=>by simp only[Bool.not_eq_true']at *;exact A.jy af ai) (λS b=>by
  cases Y:lt b S with
  |false=>simp|true=>simp[A.oe Y]) j
 exact this.imp (λY=>by simpa using Y)
theorem MF {lt:aP->aP->Bool}(A:mz lt):∀{aH aV:List aP},aH.Perm aV->aH.Pairwise (λS b=>lt b S=aA)->aV.Pairwise (λS b=>lt b S=aA)->aH=aV
 |[],aV,a,_,_=>by simp_all
 |p::aH,[],a,_,_=>by simp_all
 |p::aH,q::aV,a,af,ai=>by
  obtain⟨f,g⟩:=DC.mp af;obtain⟨lP,ki⟩:=DC.mp ai;have e:p=q:=by
   have c  := a.mem_iff.mp (eI ..);have d  := a.mem_iff.mpr (eI ..);rcases dn.mp c with e |c
   ·exact e
   ·rcases dn.mp d with e |d
    ·exact e.symm
    exact A.AX (lP p c) (f q d)
  subst e;rw[MF A (List.Perm.cons_inv a) g ki]
theorem AZ {lt:aP->aP->Bool}(A:mz lt)(a:aH.Perm j)(c:aH.Pairwise λS b=>lt b S=aA):aH=kR lt j:=
 MF A (a.trans (AY lt j).symm) c (ME A j)
noncomputable def tq (S b:Int):Bool:=decide (S<b)
noncomputable def tr [DecidableEq aP](s:aP->aP->Bool)(m:dT->dT->Bool)(X q:aP×dT):Bool:=if X.1=q.1 then m X.2 q.2 else s X.1 q.1
theorem rx:mz tq:=by
 unfold tq;refine⟨λY=>?_,λY aF=>?_,λY aF=>?_⟩<;>simp only[decide_eq_true_eq,decide_eq_false_iff_not]at*<;> lia
theorem MG [DecidableEq aP]{s:aP->aP->Bool}(a:mz s)(c:mz m):mz (tr s m):=by
 unfold tr;refine⟨λ{S b} Y=>?_,λ{S b R} Y aF=>?_,λ{S b} Y aF=>?_⟩
 ·by_cases e:S.1=b.1
  ·rw[if_pos e]at Y;rw[if_pos e.symm];exact c.oe Y
  rw[if_neg e]at Y;rw[if_neg (λG=>e G.symm)];exact a.oe Y
 ·by_cases e:b.1=S.1
  ·rw[if_pos e]at Y
   by_cases aB:R.1=b.1
   ·rw[if_pos aB]at aF;rw[if_pos (aB.trans e)];exact c.jy Y aF
   ·rw[if_neg aB]at aF;rwa[if_neg (λG=>aB (G.trans e.symm)),<- e]
  ·rw[if_neg e]at Y
   by_cases aB:R.1=b.1
   ·rwa[if_neg (λG=>e (aB.symm.trans G)),aB]
   ·rw[if_neg aB]at aF
    by_cases d:R.1=S.1
    ·exfalso
     rw[d]at aF;exact e (a.AX Y aF)
    rw[if_neg d];exact a.jy Y aF
 ·by_cases e:S.1=b.1
  ·rw[if_pos e]at Y;rw[if_pos e.symm]at aF
   exact wW e (c.AX Y aF)
  ·rw[if_neg e]at Y;rw[if_neg (λG=>e G.symm)]at aF
   exact absurd (a.AX Y aF) e
variable {gk:Type}{I:bK}{k:cg}
def Fv (T:hC aP)(C:Nat)(lt:aP->aP->Bool):Prop:=C≠0/\∀S v F,T.a3 S v F->kQ v=C/\∀b u a4,T.a3 b u a4->vo v u=lt S b/\(tl v u=ag↔S=b)
theorem MH:Fv vh 1 tq:=by
 refine⟨by decide,λS v F Y=>?_⟩
 subst Y;refine⟨rfl,λb u a4 aF=>?_⟩
 subst aF;exact⟨rfl,by simp[tl]⟩
def A0 (aO:qg gk)(b:bt)(lt:gk->gk->Bool):Prop:=b≠[]/\0∉b/\∀R a F,aO.a3 R a F->a.map kQ=b/\∀t ae a4,aO.a3 t ae a4->tm a ae=lt R t
theorem Yy {C:Nat}{lt:aP->aP->Bool}(w:Fv T C lt)(A:mz lt):A0 (AM T) [C] lt:=by
 refine⟨by simp,λY=>w.1 (fy.mp Y).symm,?_⟩
 rintro R a F ⟨v,rfl,b⟩;obtain⟨e,g⟩:=w.2 R v F b;refine⟨by rw[List.map_singleton,e],?_⟩
 rintro t ae a4 ⟨u,rfl,c⟩;obtain⟨d,f⟩:=g t u a4 c;show(if tl v u=ag then aA else vo v u)=_
 by_cases G:tl v u=ag
 ·rw[if_pos G,f.mp G];exact(A.Yx t).symm
 rw[if_neg G,d]
theorem Yz [DecidableEq aP] {C:Nat} {lt:aP->aP->Bool}(w:Fv T C lt)(s:A0 aO ks gu):A0 (Mg T aO) (C::ks) (tr lt gu):=by
 refine⟨by simp,λY=>?_,?_⟩
 ·rcases dn.mp Y with Y |Y
  ·exact w.1 Y.symm
  ·exact s.2.1 Y
 ·rintro R a F ⟨v,ae,rfl,b,c⟩
  obtain⟨e,g⟩:=w.2 R.1 v F b;obtain⟨aB,h⟩:=s.2.2 R.2 ae F c;refine⟨by rw[eW,e,aB],?_⟩
  rintro t aH a4 ⟨u,d,rfl,f,j⟩;obtain⟨k,l⟩:=g t.1 u a4 f;show(if tl v u=ag then tm ae d else vo v u)=tr lt gu R t
  unfold tr;grind
theorem Fw {Q:ar}:∀{j:List aP}{a:bp},fM T Q j a->∀(O:Nat) (v:aS),a[O]?=D v->∃X,j[O]?=D X/\T.a3 X v Q
 |_,_,.nil,O,v,e=>by simp at e
 |_,_,.cons S n,0,v,e=>by simp at e;subst e;exact⟨_,rfl,S⟩
 |_,_,.cons S n,O+1,v,e=>Fw n O v (by simpa using e)
theorem MI {Q:ar}(E:fM T Q j a)(t:aP):∀(b:bt),(∀O∈b,O<a.length)->fM T Q (b.map λO=>j.getD O t) (b.map λO=>a.getD O .a9)
 |[],_=>.nil|O::b,Y=>by
  have aE:=Y O (eI ..);obtain⟨X,e,d⟩:=Fw E O a[O] (gx aE);refine .cons ?_ (MI E t b λh c=>Y h (f5 _ c))
  grind
theorem YA {lt:aP->aP->Bool}(A:mz lt)(Y:ti (λO h=>lt (j.getD O t) (j.getD h t)) j.length idx):(idx.map λO=>j.getD O t)=kR lt j:=by
 refine AZ A ?_ ?_
 ·have e:(fW j.length).map (λO=>j.getD O t)=j:=by
   apply DD;grind
  have:=Y.1.map (λO=>j.getD O t)
  rwa[e]at this
 ·exact uA.mpr (Y.2.imp λV=>V)
theorem YB {lt:aP->aP->Bool}(A:mz lt)(w:Nat->aP):kP λO h=>lt (w O) (w h):=⟨A.oe,A.jy⟩
theorem YC (g:0<b) {lt:aP->aP->Bool}(A:mz lt)(l:∀(t:aP) (j:List aP) (a:bp) (F:ar),fM T F j a->vp I F a λO h=>lt (j.getD O t) (j.getD h t))(m:∀{F Q:ar}{a s},bx F Q->vp I F a s->vp I Q a s):
  AQ I (vq b I) k (AM (AN T)) (λs=>.ea (s.length<b) (.f (kR lt s))) (xv T):=by
 rintro R a F Q o c ⟨v,rfl,N,ae,rfl,Y,E⟩ V;obtain⟨w,V⟩:=V.ea;have d:=Paired.length E;cases R with
 |nil=>
  cases E;refine⟨[],λ_ _=>aA,.of (c _ _ Y),g,⟨(λY=>rfl),(λ_ _=>rfl)⟩,.inl ⟨1,by decide,(λq n=>by cases n),(λO h X q e=>by simp at e)⟩,λf aE s d=>?_⟩
  have  := by have:=aE.1.length_eq;simpa using this
  subst this;rw[show kR lt _=[] by simp[kR]]at V
  exact Mk c d  .nil V
 |cons X j=>
  refine⟨ae,λO h=>lt _ _,.of (c _ _ Y),by lia,YB A _,m c (l X _ ae F E),λf aE s p=>?_⟩
  rw[<- d]at aE;rw[<- (YA A aE)]at V;refine Mk c p (MI E X f λO u=>?_) V
  have:=ma.mp (aE.1.mem_iff.mp u);lia
theorem YD {F Q:ar} {s:lK}(c:bx F Q)(Y:vp I F a s):vp I Q a s:=by
 rcases Y with Y |⟨d,f,S,b,R,t⟩
 ·exact .inl Y
 ·refine .inr ⟨d,f,S,b,λO q e=>?_,t⟩
  obtain⟨N,aR,aB,g⟩:=R O q e;exact⟨N,aR,c.bb aB,g⟩
theorem YE {lt:gk->gk->Bool}(s:A0 aO γ lt)(A:mz lt)(g:0<b:=by decide):AQ I (vq b I) k (AM (AN (Fg aO))) (λs=>.ea (s.length<b) (.f (kR lt s))) (xv (Fg aO)):=by
 refine YC g A (λt j a F E=>?_) YD
 have c:∀O:Nat,∃c:bp,∀q:aS,a[O]?=D q->∃(S:ba) (R:gk),j[O]?=D R/\q=aS.a0 S/\fL I F S c/\aO.a3 R c F:=λO=>by
  cases e:a[O]? with
  |none=>exact⟨[],λq Y=>by cases Y⟩|some q=>
   obtain⟨X,aT,N,ae,rfl,l,d⟩:=Fw E O q e;refine⟨ae,λp Y=>?_⟩
   injection Y with Y;subst Y;exact⟨N,X,aT,rfl,.of l,d⟩
 refine .inr ⟨λO=>Classical.choose (c O),γ,s.1,s.2.1,λO q e=>?_,λO h aE m=>?_⟩
 ·obtain⟨S,R,ec,rfl,f,d⟩:=D0 (c O) q e
  exact⟨S,rfl,f,(s.2.2 R _ F d).1⟩
 ·obtain⟨S,R,ec,_,f,d⟩:=D0 (c O) _ (gx aE)
  obtain⟨qk,cS,n,_,u,o⟩:=D0 (c h) _ (gx m);show lt _ _=_
  rw[nv,nv,ec,n];exact((s.2.2 R _ F d).2 cS _ F o).symm
end
end L2
universe u
namespace L2
open PySem PySem.Spec PyProof.Rows
open PySem PySem.Spec PyProof.Rows PySem.W
section
variable {prog:dk}{p:cN}{r:dM}{k:bq->bz->Prop}{z:bz}{T:String}{kJ dy:ba}{y:Nat}{jz:Nat->bq->Prop}{MJ:Heap->Prop}
theorem YF {a3:dt->bz->Prop}(g:KdlSrc prog p T kJ dy y jz MJ)(l:r.handled=i)(h:MJ z.heap)(m:y<=cA)
  (j:∀(aF:Heap) (a:Nat) (bA:me),z.heap.objs.size<aF.objs.size->(∀b A,z.heap.get? b=D A->aF.get? b=D A)->ItemsOf jz bA y->a3 bA.toList {z with heap:=aF,toks:=a}):
  bT (model prog p) r (collect (.ref kJ)) a3 k z:=by
 obtain⟨n,o⟩:=g.there _ h;unfold collect;refine bR (wpAny_runValue (codeAny_builtin entry_proto_collect' ?_));rw[Around.under_plainId PySem.F.plain_proto_collect _];show bT _ r.in1 (newList []>>=λs=>again (.builtin "list.__iadd__" ⟨[s,.ref kJ],[]⟩)) _ _ z;refine bR (wpAny_newObj_type ?_)
 refine dQ ⟨plainId_quiet Km _,codeAny_builtin entry_list_iadd' ?_⟩;rw[Around.under_plainId Km _];have t:(z.heap.push {cls:=.type "list",data:=.seq ([]:List bq).toArray}).get? z.heap.objs.size=D {cls:=.type "list",data:=.seq #[]}:=gK _ rfl;show bT _ r.in1 (SJ (.ref z.heap.objs.size) (.ref kJ) (.ref z.heap.objs.size)) _ _ _
 have u:=kdl_extend (A:=r) (s:={z with heap:=z.heap.push {cls:=.type "list",data:=.seq ([]:List bq).toArray}})
  (R:=λ(V:Result) (bc:bz)=>∃(aF:Heap) (a:Nat) (bA:me) (R:Nat),V=.ok (.ret (.ref z.heap.objs.size))/\bc={z with heap:=aF,toks:=a}/\(∀b A,z.heap.get? b=D A->aF.get? b=D A)/\aF.get? z.heap.objs.size=D {cls:=.type "list",dict:=i,data:=.seq bA R,slots:=#[]}/\ItemsOf jz bA y)
  g l (g.keep _ _ h λb _ A e=>eQ _ e) z.heap.objs.size (su n) (su o) (.ref z.heap.objs.size) 0 t
  (λaF a bA R d c f=>⟨aF,a,bA,R,rfl,rfl,λb A e=>d b A (gz (e1 e)) (eQ _ e),c,f⟩) m
 refine kx u (λv bc X=>?_) λe bc X=>?_
 ·cases v with
  |done w=>
   obtain⟨aF,a,bA,R,e,rfl,d,c,f⟩:=X;cases e;show bT _ r (load z.heap.objs.size>>=_) _ _ _
   exact bR (wpAny_load c (dQ (j aF a bA (e1 c) d f)))
  |again B=>
   refine⟨X.1,codeAny_mono X.2 λV bo q=>?_⟩;obtain⟨aF,a,bA,R,rfl,rfl,d,c,f⟩:=q
   show bT _ r (load z.heap.objs.size>>=_) _ _ _;exact bR (wpAny_load c (dQ (j aF a bA (e1 c) d f)))
 ·obtain⟨_,_,_,_,x,_⟩:=X;cases x
end
section
theorem MK {P:dk}{p:cN}{C:ey}(Y:(lg P p).is C u=ag):cw (iv C) u:=by
 rcases oV Y with⟨O,n,rfl,rfl⟩|⟨X,n,rfl,rfl⟩<;>exact⟨_,rfl⟩
end
structure vr (G e6 to O h:ba)(w g:n4):Prop where
 ML:e6≠G
 ts:to≠G
 A1:O≠G
 Fx:h≠G
 YG:e6≠to
 YH:e6≠O
 YI:e6≠h
 MM:to≠O
 YJ:to≠h
 lP:O≠h
 ki:G∉w
 Fy:G∉g
 MN:to∉w
 Fz:to∉g
 YK:h∉w
 MO:O∉g
section
variable {prog:dk}{p:cN}{r:dM}{k:bq->bz->Prop}{z:bz}{G e6 to O h:ba}{w g:n4}{e3 d_ C:Nat}{vs ql:Nat->bq->Prop}{og pj:Nat->Heap->Prop}{S b:bq}
theorem YL {o:bq->bz->Prop}(N:Draws prog p r O w e3 vs og)(P:Draws prog p r h g d_ ql pj)(a:vr G e6 to O h w g)
  (t:IsZip z.heap G e6 to .none) (ap:iP z.heap e6 (.ref O) (.ref h)) (ar:iP z.heap to S b) (as:og C z.heap) (au:pj C z.heap) (av:C<e3) (aw:C<d_)
  (ax:∀X q aF ay,vs C X->ql C q->IsZip aF G e6 to (rawInt z.heap.objs.size)->iP aF to X q->og (C+1) aF->pj (C+1) aF->iP aF z.heap.objs.size X q->aF.objs.size=z.heap.objs.size+1 ->
   (∀R A,R≠G->R≠to->R≠O->R≠h->z.heap.get? R=D A->aF.get? R=D A)->o (.ref z.heap.objs.size) {z with heap:=aF,toks:=ay}):
  bT (model prog p) r (sd.«zip.__next__» ⟨[.ref G],[]⟩) (λaz bc=>∃v,az=.done (.ret v)/\o v bc) k z:=by
 obtain⟨Q,f,dy,aM,j⟩:=z;show bT _ _ (field (.ref G) 2>>=_) _ _ _;refine bR (nZ t rfl (x:=.bool aA) rfl ?_)
 show bT _ _ (field (.ref G) 3>>=_) _ _ _;refine bR (nZ t rfl (x:=.ref e6) rfl ?_)
 refine bR (wpAny_seqItems ap rfl ?_);show bT _ _ (zF (.ref G)>>=_) _ _ _
 refine bR ?_;unfold zF;refine bR (nZ t rfl (x:=.none) rfl (dQ ?_));simp only[if_true];refine bR (wpAny_rule ?_);refine bR (nZ t rfl (x:=.ref to) rfl ?_);refine bR (uw t (by simp) λT (aC:IsZip T G e6 to .ellipsis) aR=>?_)
 have B:n2 G Q T:=aR.extBut;refine bR ?_;simp only[Jw,JA,zq,JE];refine bR (bR (wpAny_onRaise ?_));show bT _ _ (zG (.ref O)>>=_) _ _ _
 refine bR (N.item C _ _ _ av (N.frame C _ _ as λR d A e=>B R A (λV=>a.ki (V ▸ d)) e) λX u cR aD bo aB=>dQ ?_)
 have E:n2 O T u:=aB.extBut;have Y:iP u to S b:=E _ _ a.MM (B _ _ a.ts ar);refine bR (wpAny_seqItems (s:=⟨u,f,dy,cR,j⟩) Y rfl ?_);refine bR (wpAny_updateSeq_pair (s:=⟨u,f,dy,cR,j⟩) Y λF (aE:iP F to X b) Z=>?_)
 have I:n2 to u F:=Z.extBut;refine bR (wpAny_letGo (dQ ?_));refine bR (bR (wpAny_onRaise ?_));show bT _ _ (zG (.ref h)>>=_) _ _ _
 refine bR (P.item C ⟨F,f,dy,cR,j⟩ _ _ aw (P.frame C _ _ au λR d A e=>I R A (λV=>a.Fz (V ▸ d)) (E R A (λV=>a.MO (V ▸ d)) (B R A (λV=>a.Fy (V ▸ d)) e))) λq y m aG aH aa=>dQ ?_)
 have J:n2 h F y:=aa.extBut;have ab:iP y to X b:=J _ _ a.YJ aE;refine bR (wpAny_seqItems (s:=⟨y,f,dy,m,j⟩) ab rfl ?_);refine bR (wpAny_updateSeq_pair (s:=⟨y,f,dy,m,j⟩) ab λc (ac:iP c to X q) ae=>?_)
 have K:n2 to y c:=ae.extBut;refine bR (wpAny_letGo (dQ (dQ ?_)));refine bR (wpAny_seqItems (s:=⟨c,f,dy,m,j⟩) ac rfl ?_);refine bR (wpAny_newTuple ?_);have af:c.objs.size=Q.objs.size:=by rw[ae.1,aa.1,Z.1,aB.1,aR.1]
 have ah:IsZip c G e6 to .ellipsis:=K _ _ a.ts.symm (J _ _ a.Fx.symm (I _ _ a.ts.symm (E _ _ a.A1.symm aC)));have aI:∀R A,R≠G->R≠to->R≠O->R≠h->Q.get? R=D A->c.get? R=D A:=λR A l L U W e=>
  K R A L (J R A W (I R A L (E R A U (B R A l e))))
 have aJ:G<c.objs.size:=e1 ah;show bT _ _ (J1 (.ref G) (.ref c.objs.size)>>=_) _ _ ⟨c.push _,f,dy,m,j⟩
 refine bR ?_;unfold J1;have aK:IsZip (c.push {cls:=.type "tuple",data:=.seq #[X,q]}) G e6 to .ellipsis:=eQ _ ah;refine bR (uw (s:=⟨c.push _,f,dy,m,j⟩) aK (by simp) λai (aL:IsZip ai G e6 to (rawInt c.objs.size)) aj=>?_)
 refine uw (s:=⟨ai,f,dy,m,j⟩) aL (by simp) λn (ak:IsZip n G e6 to (rawInt c.objs.size)) al=>?_
 have am:∀R A,R≠G->(c.push {cls:=.type "tuple",data:=.seq #[X,q]}).get? R=D A->n.get? R=D A:=λR A l e=>al.extBut _ _ l (aj.extBut _ _ l e)
 have M:∀R A,R≠G->c.get? R=D A->n.get? R=D A:=λR A l e=>am R A l (eQ _ e)
 have an:iP n c.objs.size X q:=am _ _ (su aJ) (gK _ rfl);have ao:n.objs.size=c.objs.size+1:=by rw[al.1,aj.1];exact q4 ..
 rw[af]at ak an ao;refine dQ ⟨_,rfl,?_⟩;show o (.ref c.objs.size) ⟨n,f,dy,m,j⟩
 rw[af];refine ax X q n m aD aG ak (M _ _ a.ts ac) (N.frame _ _ _ bo λR d A e=>?_) (P.frame _ _ _ aH λR d A e=>?_) an ao λR A l L U W e=>M R A l (aI R A l L U W e)
 ·exact M R A (λV=>a.ki (V ▸ d)) (K R A (λV=>a.MN (V ▸ d)) (J R A (λV=>a.YK (V ▸ d)) (I R A (λV=>a.MN (V ▸ d)) e)))
 ·exact M R A (λV=>a.Fy (V ▸ d)) (K R A (λV=>a.Fz (V ▸ d)) e)
theorem YM (J:Draws prog p r O w e3 vs og)(Q:Draws prog p r h g d_ ql pj)(a:vr G e6 to O h w g)
  (j:IsZip z.heap G e6 to .none) (af:iP z.heap e6 (.ref O) (.ref h)) (ah:iP z.heap to S b) (ai:og C z.heap) (aj:pj C z.heap) (K:C=e3\/C<e3/\C=d_)
  (T:∀aF e ak,(∀R A,R≠G->R≠to->R≠O->R≠h->z.heap.get? R=D A->aF.get? R=D A)->(∃A,aF.get? e=D A/\A.cls=.type "StopIteration")->k (.ref e) {z with heap:=aF,toks:=ak}):
  bT (model prog p) r (sd.«zip.__next__» ⟨[.ref G],[]⟩) o k z:=by
 obtain⟨al,l,dy,U,m⟩:=z;show bT _ _ (field (.ref G) 2>>=_) _ _ _;refine bR (nZ j rfl (x:=.bool aA) rfl ?_)
 show bT _ _ (field (.ref G) 3>>=_) _ _ _;refine bR (nZ j rfl (x:=.ref e6) rfl ?_)
 refine bR (wpAny_seqItems af rfl ?_);show bT _ _ (zF (.ref G)>>=_) _ _ _
 refine bR ?_;unfold zF;refine bR (nZ j rfl (x:=.none) rfl (dQ ?_));simp only[if_true];refine bR (wpAny_rule ?_);refine bR (nZ j rfl (x:=.ref to) rfl ?_);refine bR (uw j (by simp) λn (W:IsZip n G e6 to .ellipsis) aR=>?_)
 have q:n2 G al n:=aR.extBut;refine bR ?_;simp only[Jw,JA,zq,JE];refine bR (bR (wpAny_onRaise ?_));show bT _ _ (zG (.ref O)>>=_) _ _ _
 have Y:og C n:=J.frame C _ _ ai λR t A e=>q R A (λV=>a.ki (V ▸ t)) e
 rcases K with rfl |⟨K,rfl⟩
 ·refine bR (J.done _ _ _ Y λc e aB L=>?_)
  obtain⟨u,v,y⟩:=L;have d:n2 O n c:=aB;have Z:IsZip c G e6 to .ellipsis:=d _ _ a.A1.symm W;have M:e≠G:=λX=>by subst X;have B:c.get? e=D u:=v;rw[Z]at B;cases B;simp at y
  exact uw (s:=⟨c,l,dy,U,m⟩) Z (by simp) λf _ F=>T f e U (λR A E _ N _ X=>F.extBut _ _ E (d R A N (q R A E X))) ⟨u,F.extBut _ _ M v,y⟩
 ·refine bR (J.item C _ _ _ K Y λX c cR ar bo aB=>dQ ?_)
  have d:n2 O n c:=aB.extBut;have aa:iP c to S b:=d _ _ a.MM (q _ _ a.ts ah);refine bR (wpAny_seqItems (s:=⟨c,l,dy,cR,m⟩) aa rfl ?_);refine bR (wpAny_updateSeq_pair (s:=⟨c,l,dy,cR,m⟩) aa λf (as:iP f to X b) F=>?_)
  have P:n2 to c f:=F.extBut;refine bR (wpAny_letGo (dQ ?_));refine bR (bR (wpAny_onRaise ?_));show bT _ _ (zG (.ref h)>>=_) _ _ _
  refine bR (Q.done ⟨f,l,dy,cR,m⟩ _ _ (Q.frame C _ _ aj λR t A e=>P R A (λV=>a.Fz (V ▸ t)) (d R A (λV=>a.MO (V ▸ t)) (q R A (λV=>a.Fy (V ▸ t)) e))) λI e am L=>?_)
  obtain⟨u,v,y⟩:=L;have ab:n2 h f I:=am;have ac:IsZip I G e6 to .ellipsis:=ab _ _ a.Fx.symm (P _ _ a.ts.symm (d _ _ a.A1.symm W));have M:e≠G:=λX=>by subst X;have B:I.get? e=D u:=v;rw[ac]at B;cases B;simp at y
  exact uw (s:=⟨I,l,dy,cR,m⟩) ac (by simp) λan _ ae=>T an e cR (λR A E ao N ap X=>ae.extBut _ _ E (ab R A ap (P R A ao (d R A N (q R A E X))))) ⟨u,ae.extBut _ _ M v,y⟩
theorem YN {o:zV->bz->Prop}(e:Draws prog p r.in1 O w e3 vs og)(f:Draws prog p r.in1 h g d_ ql pj)(j:vr G e6 to O h w g)
  (c:IsZip z.heap G e6 to .none) (l:iP z.heap e6 (.ref O) (.ref h)) (m:iP z.heap to S b) (n:og C z.heap) (s:pj C z.heap) (t:C<e3) (u:C<d_)
  (v:∀X q aF a,vs C X->ql C q->IsZip aF G e6 to (rawInt z.heap.objs.size)->iP aF to X q->og (C+1) aF->pj (C+1) aF->iP aF z.heap.objs.size X q->aF.objs.size=z.heap.objs.size+1 ->
   (∀R A,R≠G->R≠to->R≠O->R≠h->z.heap.get? R=D A->aF.get? R=D A)->o (D (.ref z.heap.objs.size)) {z with heap:=aF,toks:=a}):
  bT (model prog p) r (pyNext (.ref G)) o k z:=by
 have d:z.TypeIs (.ref G) _:=⟨_,c,rfl⟩;exact bR (wpAny_attempt (wpAny_callSpecial?_slot  d zS (wpAny_call_entry zS d Kr (YL e f j c l m n s t u λX q aF a x dI y B E F I J K=>dQ (v X q aF a x dI y B E F I J K)) (Kq _))))
theorem YO (f:Draws prog p r.in1 O w e3 vs og)(j:Draws prog p r.in1 h g d_ ql pj)(l:vr G e6 to O h w g)
  (a:IsZip z.heap G e6 to .none) (m:iP z.heap e6 (.ref O) (.ref h)) (n:iP z.heap to S b) (q:og C z.heap) (s:pj C z.heap) (t:C=e3\/C<e3/\C=d_)
  (u:∀aF c,(∀R A,R≠G->R≠to->R≠O->R≠h->z.heap.get? R=D A->aF.get? R=D A)->o i {z with heap:=aF,toks:=c}):bT (model prog p) r (pyNext (.ref G)) o k z:=by
 have d:z.TypeIs (.ref G) _:=⟨_,a,rfl⟩;refine bR (wpAny_attempt (wpAny_callSpecial?_slot  d zS (wpAny_call_entry zS d Kr ?_ (Kq _))));refine YM f j l a m n q s t λaF e c v x=>?_
 obtain⟨A,y,B⟩:=x;exact bR (wpAny_isInstance    ⟨A,y,B⟩ isSubtype_stop (dQ (u _ _ v)))
end
noncomputable def FA (X:Str)(n:Tok):l8:={cls:=.type (ir X),data:=.fields #[.str X n,.int 0 0]}
theorem YP {p:cN}{r:dM} {X:Str}{n:Tok}(Y:o (.ref z.heap.objs.size) {z with heap:=z.heap.push (FA X n)}):bT (model prog p) r (pyIter (.str X n)) o k z:=by
 unfold FA at Y;cases a:X.cps.all (·<128)
 ·rw[show ir X="str_iterator" by simp[ir,a]]at Y;exact wpAny_pyIter_wide a Y
 rw[show ir X="str_ascii_iterator" by simp[ir,a]]at Y;exact wpAny_pyIter_ascii a Y
noncomputable abbrev A2 (Y:Heap)(s:ba):Heap:=Y.push {cls:=.type "list_iterator",data:=.fields #[.ref s,.int 0 0]}
abbrev xC (Y:Heap)(s:ba)(X:Str)(n:Tok):Heap:=(A2 Y s).push (FA X n)
abbrev A3 (Y:Heap)(s:ba)(X:Str)(n:Tok):Heap:=(xC Y s X n).push {cls:=.type "tuple",data:=.seq #[.ref Y.objs.size,.ref (A2 Y s).objs.size]}
abbrev A4 (Y:Heap)(s:ba)(X:Str)(n:Tok):Heap:=(A3 Y s X n).push {cls:=.type "tuple",data:=.seq #[.none,.none]}
abbrev tu (Y:Heap)(s:ba)(X:Str)(n:Tok):Heap:=(A4 Y s X n).push {cls:=.type "zip",data:=.fields #[.none,.bool aA,.bool aA,.ref (xC Y s X n).objs.size,.ref (A3 Y s X n).objs.size]}
theorem YQ (s:ba)(X:Str)(n:Tok)(j:me):
  Meets (sd.«zip.__new__» ⟨[.type "zip",.ref s,.str X n],[]⟩) (λ_ a3 z=>z.heap.IsList s j/\a3 (.ok (.ret (.ref (A4 z.heap s X n).objs.size))) {z with heap:=tu z.heap s X n}):=
 .of_wp λprog p r a3 z Y=>by
  obtain⟨a,Y⟩:=Y;have b:=sub_zip
  wp_walk using wpAny_pyIter_list a,YP
  exact⟨_,rfl,Y⟩
section
variable {prog:dk}{p:cN}{r:dM}{k:bq->bz->Prop}{z:bz}
theorem YR {s:ba}{X:Str}{n:Tok}(l:z.heap.IsList s j)
  (Y:∀aF,IsZip aF (z.heap.objs.size+4) (z.heap.objs.size+2) (z.heap.objs.size+3) .none->iP aF (z.heap.objs.size+2) (.ref z.heap.objs.size) (.ref (z.heap.objs.size+1)) ->
   iP aF (z.heap.objs.size+3) .none .none->aF.IsListIter z.heap.objs.size s 0->aF.IsStrIter (z.heap.objs.size+1) (ir X) X n 0 ->
   (∀R A,z.heap.get? R=D A->aF.get? R=D A)->o (.ref (z.heap.objs.size+4)) {z with heap:=aF}):
  bT (model prog p) r (call (.type "zip") [.ref s,.str X n]) o k z:=by
 refine callType_new F.called_zip (by decide) (F.typeCall_zip_2 _ _) (F.newCall_zip_2 _ _) (λm=>F.args_object_init_3 m _ _) F.entry_zip_new (YQ s X n j) ⟨l,?_⟩
 have e3:(A2 z.heap s).objs.size=z.heap.objs.size+1:=q4 ..;have d_:(xC z.heap s X n).objs.size=z.heap.objs.size+2:=by rw[q4,e3]
 have a:(A3 z.heap s X n).objs.size=z.heap.objs.size+3:=by rw[q4,d_]
 have d:(A4 z.heap s X n).objs.size=z.heap.objs.size+4:=by rw[q4,a]
 have b:∀R A,(xC z.heap s X n).get? R=D A->(tu z.heap s X n).get? R=D A:=λR A e=>eQ _ (eQ _ (eQ _ e))
 have c:(tu z.heap s X n).get? (A4 z.heap s X n).objs.size=D _:=gK _ rfl;have f:(tu z.heap s X n).get? (A3 z.heap s X n).objs.size=D _:=eQ _ (gK _ rfl);have g:(tu z.heap s X n).get? (xC z.heap s X n).objs.size=D _:=eQ _ (eQ _ (gK _ rfl));have h:(tu z.heap s X n).get? (A2 z.heap s).objs.size=D _:=b _ _ (gK _ rfl);have q:(tu z.heap s X n).get? z.heap.objs.size=D _:=b _ _ (eQ _ (gK _ rfl));show _/\_
 rw[d_,a,d]at c;rw[e3,d_]at g;rw[a]at f;rw[e3]at h;rw[d];exact⟨⟨_,c,rfl⟩,Y _ c g f ⟨_,q,rfl,rfl⟩ ⟨_,h,rfl,rfl⟩ λR A e=>b R A (eQ _ (eQ _ e))⟩
end
def A5 (I:bK)(s:ba)(y:Nat)(w:Nat->aS):kg:=
 ⟨λO Q=>∃j X,d1 I Q s j/\j[O]?=D X/\O<y,
  λO Q v ay=>∃N X,(∀j,d1 I Q s j->j[O]?=D X)/\Q N=i/\v=.a0 N/\ay=cq Q N (.bb [X,w O]),
  λO Q=>∃j,d1 I Q s j/\(O=j.length\/O<j.length/\O=y)⟩
theorem YS {P:dk}{p:cN}{I:bK}{ri:fz}{iz:Nat}{pos:Pos}(G e6 to c d s:ba)(h:Str)(n:Tok)(g:vr G e6 to c d [c,s] [d])(Z:s≠c):
  p9 P p I (.Tuple ri iz pos) (A5 I s h.cps.size (mm h)) [G,e6,to,c,d] G (λO Y=>IsZip Y G e6 to .none/\iP Y e6 (.ref c) (.ref d)/\(∃S b,iP Y to S b)/\Y.IsListIter c s O/\Y.IsStrIter d (ir h) h n O) where
 mem:=by simp
 dV:=λO Y aX b a=>by
  obtain⟨o,m,⟨S,R,q⟩,⟨aL,aM,aO,aP⟩,⟨dc,aa,aQ,aR⟩⟩:=aX;grind
 fb:=λO Y aF aX C=>by
  obtain⟨o,m,⟨S,R,q⟩,af,dc,aa,bW⟩:=aX;exact⟨C G (by simp) _ o,C e6 (by simp) _ m,⟨S,R,C to (by simp) _ q⟩,af.at λA V=>C c (by simp) A V,dc,C d (by simp) dc aa,bW⟩
 item:=by
  intro H L hw M y O aj z l Q k f T aX U;subst L hw M;obtain⟨j,X,J,B,ah⟩:=U;obtain⟨K,W,N,ak⟩:=f.d9 J;obtain⟨u,al,am⟩:=W.g8 B;obtain⟨o,m,⟨S,R,q⟩,af,ai⟩:=aX;have lt:∀{R A},z.heap.get? R=D A->R<z.heap.objs.size:=λe=>e1 e
  have aT:=lt o;have aU:=lt m;have aV:=lt q;have aW:c<z.heap.objs.size:=by obtain⟨A,e,_⟩:=id af;exact lt e
  have aY:d<z.heap.objs.size:=by obtain⟨A,e,_⟩:=id ai;exact lt e
  have an:O<K.toArray.size:=by have:=(ia.mp al).1;simpa using this
  refine kE (YN (Draws.list (A:=H.r.in1) (show H.r.in1.handled=i from f.f.gB y) c s Z K.toArray) (LA (n:=n) H.r.in1 (f.f.gB y)) g o m q ⟨af,N.isList⟩ ai an ah λF v bw x aZ ao ap ar as au av a0 ab aw=>?_)
  obtain rfl:F=u:=by
   grind
  have ax:cw (mm h O) v:=Lz ao;refine⟨_,rfl,?_⟩;refine wpAny_letOwnedTupleGo_zip (s:={z with heap:=bw,toks:=x}) ap λac ay w=>?_
  replace w:sq G bw ac:=w;have az:Q z.heap.objs.size=i:=f.cL.fK (cZ _);have aB:a5 H aj l (cq Q z.heap.objs.size (.bb [X,mm h O])) {z with heap:=z.heap.push {cls:=.type "tuple",data:=.seq #[F,v]},toks:=x}:=by
   refine f.hx (λb u V=>eQ _ V) (cZ _) ⟨?_,[F,v],.cons am (.cons ax .nil),⟨_,gK _ rfl,rfl,_,rfl⟩⟩
   show 2<=cA
   decide
  have aC:∀b∈[G,e6,to,c,d],b<z.heap.objs.size:=λb a=>by
   grind
  have ae:∀b∈[G,e6,to,c,d],kK H aj (cq Q z.heap.objs.size (.bb [X,mm h O])) b:=λb a=>by
   obtain⟨aD,E⟩:=T b a;refine⟨?_,E⟩;rw[f6 (gz (aC b a))];exact aD
  have aE:a5 H aj l (cq Q z.heap.objs.size (.bb [X,mm h O])) {z with heap:=ac,toks:=x}:=by
   refine a5.EL (z:={z with heap:=z.heap.push {cls:=.type "tuple",data:=.seq #[F,v]},toks:=x}) (c:=[G,e6,to,c,d]) aB (λb A a V=>?_) ae
   have e3:b≠G:=λe=>a (by simp[e])
   have d_:b≠to:=λe=>a (by simp[e])
   have aG:b≠c:=λe=>a (by simp[e])
   have aH:b≠d:=λe=>a (by simp[e])
   refine(w.2 b e3).trans ?_;rcases JL V with⟨rfl,rfl⟩|dq
   ·exact av
   ·exact ab b A e3 d_ aG aH dq
  refine⟨.a0 z.heap.objs.size,_,aE,rfl,⟨z.heap.objs.size,X,λa1 aI=>by rw[f.sS aI J];exact B,az,rfl,rfl⟩,⟨ay,?_,⟨F,v,?_⟩,?_,?_⟩,λb a=>(ae b a).1⟩
  ·exact(w.2 e6 g.ML).trans (ab e6 _ g.ML g.YG g.YH g.YI m)
  ·exact(w.2 to g.ts).trans ar
  ·exact as.1.extBut w.extBut g.A1
  ·exact au.extBut w.extBut g.Fx
 done:=by
  intro H L hw M y O aj z l Q k f T aX U;subst L hw M;obtain⟨j,J,B⟩:=U;obtain⟨K,W,N,ak⟩:=f.d9 J;obtain⟨o,m,⟨S,R,q⟩,af,ai⟩:=aX;have aJ:=W.dS;refine kE (YO (Draws.list (A:=H.r.in1) (show H.r.in1.handled=i from f.f.gB y) c s Z K.toArray) (LA (n:=n) H.r.in1 (f.f.gB y)) g o m q ⟨af,N.isList⟩ ai (by rw[aJ]at B;simpa using B) λaF x aK aw=>⟨rfl,?_⟩)
  exact a5.EL (z:=z) (g:=x) (c:=[G,e6,to,c,d]) f (λb A a V=>aK b A (λe=>a (by simp[e])) (λe=>a (by simp[e])) (λe=>a (by simp[e])) (λe=>a (by simp[e])) V) T
 sV:=λ_ _ _ _ _ aX Y=>wpAny_pyIter_zip aX.1 Y
theorem YT {bB s:Nat}(d:s<bB):vr (bB+4) (bB+2) (bB+3) bB (bB+1) [bB,s] [bB+1]:=by
 have V:∀{S b:Nat},S≠b->(S:ba)≠(b:ba):=λY=>Y
 have a:∀{S b:Nat},S≠b->(S:ba)∉([b]:List ba):=λY e=>Y (fy.mp e)
 have c:∀{S b R:Nat},S≠b->S≠R->(S:ba)∉([b,R]:List ba):=λaf ai e=>by
  grind
 exact⟨V (by lia),V (by lia),V (by lia),V (by lia),V (by lia),V (by lia),V (by lia),V (by lia),V (by lia),V (by lia),c (by lia) (by lia),a (by lia),c (by lia) (by lia),a (by lia),c (by lia) (by lia),a (by lia)⟩
section
variable {aP:Type}
def kS (br:lS aP)(F:ar):List aP->bp->ar->Prop
 |[],[],Y=>∀N,Y N=i|X::j,v::a,Y=>∃af ai,cQ af ai Y/\br.br X v F af/\kS br F j a ai|_,_,_=>False
variable {br:lS aP}
theorem kS.bQ:∀{j:List aP}{a:bp}{F a4 Y:ar},bx F a4->kS br F j a Y->kS br a4 j a Y
 |[],[],_,_,_,_,V=>V|X::j,v::a,F,a4,Y,g,b=>by obtain⟨af,ai,h,A,E⟩:=b;exact⟨af,ai,h,br.bQ g A,E.bQ g⟩
 |[],_::_,_,_,_,_,V=>V.elim|_::_,[],_,_,_,_,V=>V.elim
theorem kS.mv:∀{j:List aP}{a:bp}{F Y:ar},kS br F j a Y->∀N aV,Y N≠D (.bb aV)
 |[],[],_,_,V,N,aV=>by rw[V N];lia
 |X::j,v::a,F,Y,c,N,aV=>by
  obtain⟨af,ai,h,A,E⟩:=c;rcases h N with⟨_,b⟩|⟨_,b⟩
  ·rw[b];exact E.mv N aV
  rw[b];exact br.mv A N aV
 |[],_::_,_,_,V,_,_=>V.elim|_::_,[],_,_,V,_,_=>V.elim
theorem kS.cn:∀{j:List aP}{a:bp}{F Y:ar},kS br F j a Y->j.length=a.length
 |[],[],_,_,_=>rfl|X::j,v::a,F,Y,b=>by obtain⟨af,ai,h,A,E⟩:=b;rw[ew,ew,E.cn]
 |[],_::_,_,_,V=>V.elim|_::_,[],_,_,V=>V.elim
theorem FC {F af Y:ar}(t:c4 F Y)(z:bx af Y):bx (aK F af) (aK F Y):=λN A e=>by
 unfold aK at e ⊢;cases G:F N with
 |some p=>rwa[G]at e|none=>rw[G]at e;exact z _ _ e
theorem kS.lV:∀{j:List aP}{a:bp}{F Y ak:ar},c4 F Y->bx (aK F Y) ak->kS br F j a Y->fM br.bN ak j a
 |[],[],_,_,_,_,_,_=>.nil|X::j,v::a,F,Y,ak,t,g,b=>by
  obtain⟨af,ai,h,A,E⟩:=b;have c:c4 F af:=λN=>by
   rcases t N with G |G
   ·exact .inl G
   ·exact .inr (h.s.cz G)
  have d:c4 F ai:=λN=>by
   rcases t N with G |G
   ·exact .inl G
   ·exact .inr (h.E.cz G)
  exact .cons (br.bN.bQ ((FC t h.s).ct g) (br.iw c A)) (E.lV d ((FC t h.E).ct g))
 |[],_::_,_,_,_,_,_,V=>V.elim|_::_,[],_,_,_,_,_,V=>V.elim
theorem jA {af ai Y:ar}(h:cQ af ai Y):cQ ai af Y:=λN=>by
 rcases h N with⟨S,b⟩|⟨S,b⟩
 ·exact .inr ⟨S,b⟩
 exact .inl ⟨S,b⟩
theorem ja {af ai a bw Y:ar}(h:cQ af ai a)(C:cQ a bw Y):∃c,cQ ai bw c/\cQ af c Y:=by
 have t:c4 ai bw:=λN=>by
  rcases C.f_ N with G |G
  ·exact .inl (h.E.cz G)
  ·exact .inr G
 refine⟨aK ai bw,fZ t,λN=>?_⟩
 unfold aK;rcases C N with⟨S,b⟩|⟨S,b⟩
 ·refine .inl ⟨h.s.cz S,?_⟩
  rw[h.E.cz S];exact b
 ·rcases h N with⟨R,e⟩|⟨R,e⟩
  ·grind
  ·refine .inr ⟨?_,by rw[b,e]⟩
   rw[R];exact S
theorem kS.snoc:∀{j:List aP}{a:bp}{F Y:ar}{X:aP}{v:aS}{c:ar},kS br F j a Y->br.br X v F c->c4 Y c->kS br F (j++[X]) (a++[v]) (aK Y c)
 |[],[],F,Y,X,v,c,V,A,t=>by
  refine⟨c,λ_=>i,λN=>.inr ⟨rfl,?_⟩,A,λ_=>rfl⟩
  unfold aK;rw[V N]
 |q::j,p::a,F,Y,X,v,c,g,A,t=>by
  obtain⟨af,ai,h,k,E⟩:=g;obtain⟨m,d,f⟩:=ja h (fZ t);have l:c4 ai c:=d.f_;have e:m=aK ai c:=by
   funext N;unfold aK;rcases d N with⟨S,b⟩|⟨S,b⟩
   ·rw[S];exact b
   ·grind
  rw[e]at f;exact⟨af,_,f,k,E.snoc A l⟩
 |[],_::_,_,_,_,_,_,V,_,_=>V.elim|_::_,[],_,_,_,_,_,V,_,_=>V.elim
abbrev vt (br:lS aP):lS (List aP):=⟨λj v F Y=>∃N a ai,v=.a0 N/\cQ (cW N (.aM a)) ai Y/\kS br F j a ai,AN br.bN,λg ⟨N,a,ai,e,h,V⟩=>⟨N,a,ai,e,h,V.bQ g⟩,
 λ{S v F Y} t ⟨N,a,ai,e,h,V⟩=>⟨N,a,e,ro t _ _ (h.s _ _ jQ),V.lV (λb=>by
  rcases t b with G |G
  ·exact .inl G
  ·exact .inr (h.E.cz G)) (FC t h.E)⟩,
 λ⟨N,a,ai,e,h,V⟩ b j q=>by
  rcases h b with⟨_,G⟩|⟨_,G⟩
  ·rw[G]at q;exact V.mv b j q
  ·rw[G]at q;unfold cW at q;split at q<;>cases q⟩
end
def MP (aO:ba)(eC:b1)(w:Str):b1:=λl Q o=>eC l Q λX aw=>match X with
 |.a0 S=>∃bS au v,aw S=D (.fg aO bS au)/\au.lookup w=D v/\o v aw|_=>False
def FD (aO:ba)(eC vu:b1)(w:Str):gf:=λa l Q=>vu l Q λq aw=>eC l aw λX a7=>match X with
 |.a0 S=>∃bS au,a7 S=D (.fg aO bS au)/\au.length<1000/\a.dx l (cq a7 S (.fg aO bS (iT w q au)))|_=>False
def qm (P:dk)(p:cN)(I:bK)(a6:e2)(bj:Heap)(dN:kh)(C:Nat)(aO:ba)(m:Str)(aJ:c_)(cx:gW):Prop:=
 ∃w bP,gX P p I a6 bj dN C w bP aJ cx/\mi I aO/\Ac I aO m w/\iC I bP aJ []
def tv (P:dk)(p:cN)(I:bK)(a6:e2)(bj:Heap)(dN:kh)(C:Nat)(X:Str)(aO:ba)(aJ:c_)(cx:gW):Prop:=
 ∃w bP,gX P p I a6 bj dN C w bP aJ cx/\xa I aO w/\a6 X=D (.ref aO)/\iC I bP aJ []
section
variable {H:bU}{e kL A:bV}{w X:Str}{pos uW:Pos}{bG vu:b1}{aO:ba}
theorem YU (R:mi H.I aO)(y:qb H.I aO w)(b:bu H e bG)(c:attributeBase e w H.x (eval e H.x)=eval e H.x:=by rfl):bu H (.Attribute e w pos) (MP aO bG w):=by
 intro aj z l Q o d Y;refine Va c (cv (b aj z l Q _ d Y) λu bf f=>?_)
 obtain⟨X,aw,g,h,a⟩:=f;cases X with
 |a0 S=>
  obtain⟨bS,au,v,j,s,V⟩:=a;obtain rfl:u=kc S:=h;exact U8 g j R y s λn bo k m=>⟨v,aw,k,m,V⟩
 |_=>exact a.elim
theorem YV (R:mi H.I aO)(y:qb H.I aO w)(b:bu H A bG)(c:bu H kL vu)(d:swapsWith kL (D (.Attribute A w uW)) pos.line H.x=pure aA:=by rfl):jN H (.Assign [.Attribute A w uW] kL pos) (FD aO bG vu w):=by
 intro aj z l Q t e Y;refine plainObj_wpAny_Assign_Attribute (cv (c aj z l Q _ e Y) λu bf ⟨q,aw,f,g,V⟩=>cv (b aj bf l aw _ f V) λh bo j=>?_) d
 obtain⟨X,a7,k,m,a⟩:=j;cases X with
 |a0 S=>
  obtain⟨bS,au,n,s,o⟩:=a;obtain rfl:h=kc S:=m;exact U9 k n R y s g λv p=>⟨l,_,p,o⟩
 |_=>exact a.elim
end
theorem MQ:∀{b:c_}{a:bp}{w:Str},w∉b->(b.zip a).lookup w=i
 |[],_,_,_=>rfl|y::b,[],_,_=>rfl|y::b,p::a,w,Y=>by
  rw[kB,Jx,(show(w == y)=aA from beq_eq_false_iff_ne.mpr λG=>Y (G ▸ eI ..))]
  exact MQ λG=>Y (f5 _ G)
theorem MR:∀{b:c_}{a:bp}{w:Str}(v:aS),w∉b->a.length=b.length->iT w v (b.zip a)=(b++[w]).zip (a++[v])
 |[],[],w,v,_,_=>rfl|[],_::_,_,_,_,Y=>by simp at Y
 |_::_,[],_,_,_,Y=>by simp at Y
 |y::b,p::a,w,v,Y,c=>by
  rw[kB,iT,if_neg (show¬y=w from λG=>Y (G ▸ eI ..)),MR v (λG=>Y (f5 _ G)) (by simpa using c)];rfl
section
variable {aP:Type}
theorem xD {F af ai Y:ar}(t:c4 F Y)(h:cQ af ai Y):c4 F af:=λN=>by
 rcases t N with G |G
 ·exact .inl G
 exact .inr (h.s.cz G)
theorem A6 {F af ai Y:ar}(t:c4 F Y)(h:cQ af ai Y):c4 F ai:=λN=>by
 rcases t N with G |G
 ·exact .inl G
 exact .inr (h.E.cz G)
def jR (N bS:ba)(A:lM):ar:=λV=>if V=N then D A else if V=bS then D (.fl N)else i
theorem A7:jR N bS A N=D A:=if_pos rfl
noncomputable abbrev YW (u:aS)(br:lS aP):lS aP:=⟨λS v F Y=>v=u/\br.br S v F Y,br.bN,λg V=>⟨V.1,br.bQ g V.2⟩,λt V=>br.iw t V.2,λV=>br.mv V.2⟩
theorem MS {b n m S Y:ar}(a:cQ b n m)(h:cQ S m Y):cQ n (aK S b) Y:=λV=>by
 rcases h V with⟨X,q⟩|⟨X,q⟩
 ·rcases a V with⟨R,e⟩|⟨R,e⟩
  ·right
   refine⟨by unfold aK;rw[X,R],by rw[q,e]⟩
  ·left
   refine⟨R,by unfold aK;rw[X,q,e]⟩
 ·left
  refine⟨a.E.cz X,?_⟩;unfold aK;rw[q];cases G:S V with
  |none=>exact(a.s.cz X).symm ▸ rfl|some p=>rfl
theorem MT {S b n m Y:ar}(a:cQ b n m)(h:cQ S m Y):c4 S b:=λV=>by
 rcases h.f_ V with G |G
 ·exact .inl G
 exact .inr (a.s.cz G)
variable {bE bk F Y Q:ar}
theorem xE {C:ar}(a:dG bE bk F Y Q)(z:bx C Y):dG bE bk F C Q:=by
 refine⟨a.1,λN=>?_,z.ct a.2.2.1,λN G=>a.2.2.2.1 N λq=>G (z.cz q),λN j G=>a.2.2.2.2 N j (z _ _ G)⟩
 rcases a.2.1 N with G |G
 ·exact .inl G
 exact .inr (z.cz G)
theorem YX {Y:ar}(N:ba)(G:Y N≠i):gm Q Y N=i:=by
 unfold gm;cases q:Y N with
 |none=>exact absurd q G|some p=>rfl
theorem YY:bx (gm Q Y) Q:=λN A G=>by
 unfold gm at G;split at G
 ·exact G
 cases G
theorem vv (a:bx F Q)(c:c4 F Y)(d:bx Y Q)(e:∀N j,Y N≠D (.bb j)):dG F (gm Q Y) F Y Q:=by
 refine⟨⟨bx.fu _,a,YY,λN S b=>absurd S b⟩,c,d,YX,e⟩
end
noncomputable def ry (a s:bt):List bt:=(Txt.split ⟨s.toArray⟩ ⟨a.toArray⟩).map λN=>N.cps.toList
noncomputable def gO (a:bt):List bt->bt
 |[]=>[]|[N]=>N|N::V::E=>N++a++gO a (V::E)
theorem FE (q:Str):∀aJ:c_,(zM q aJ).cps.toList=gO q.cps.toList (aJ.map λN=>N.cps.toList)
 |[]=>rfl|[N]=>rfl|N::V::E=>by
  show(N++q++zM q _).cps.toList=_
  rw[xf,xf,FE q _];rfl
theorem MU {X:Str}{R e S b:Nat}(f:∀C,X.cps.toList[C]?=D R->X.cps.toList[C+1]?=D e)(l:b<=X.length)(g:∀C,S<=C->C<b->¬sG X ⟨#[R,e]⟩ X.length C):R∉(sA X S b).cps.toList:=by
 intro c;rw[zN]at c;obtain⟨h,a⟩:=uz c;have d  := by
  have af:=(ia.mp a).1;rw[l9]at af;exact iq af (Nat.min_le_left _ _)
 rw[ze d,Jt]at a;have ai:=f _ a;refine g _ (Dv _ _) (Nat.add_lt_of_lt_sub' d) ⟨?_,?_⟩
 ·exact(ia.mp ai).1
 ·show(X.cps.extract _ (S+h+2) == #[R,e])=ag
  rw[beq_iff_eq];apply zQ.mp;rw[Array.toList_extract];rw[List.extract_eq_drop_take,JN];obtain⟨j,aR⟩:=ia.mp a;obtain⟨k,aB⟩:=ia.mp ai;rw[se j,se k,aR,aB];rfl
theorem MV {X:Str}{R e:Nat}(a:∀C,X.cps.toList[C]?=D R->X.cps.toList[C+1]?=D e):∀(d:bt) (S w:Nat),StrLaws.ChainG X ⟨#[R,e]⟩ X.length S d w->(∀C,w<=C->¬sG X ⟨#[R,e]⟩ X.length C)->∀N∈StrLaws.partsFrom X 2 S d,R∉N.cps.toList
 |[],S,w,Y,b,N,c=>by
  obtain rfl:w=S:=Y;rw[fy.mp c];exact MU a (cZ _) λC af _=>b C af
 |t::E,S,w,Y,b,N,c=>by
  rcases dn.mp c with rfl |f
  ·exact MU a (by have:=Y.2.1.1;lia) Y.2.2.1
  exact MV a E _ w Y.2.2.2 b N f
theorem FF {R e:Nat}(a:e≠R):∀{N:bt}{aJ:kd},(∀V∈N::aJ,R∉V)->fc R (gO [R,e] (N::aJ))=N::aJ.map (λV=>e::V)
 |N,[],Y=>ve R N (Y N (eI ..))|N,V::E,Y=>by
  show fc R (N++[R,e]++gO _ _)=_
  rw[n1];show fc R (N++R::(e::gO _ _))=_
  rw[xp R N _ (Y N (eI ..)),fc,if_neg a,FF a   λG b=>Y G (f5 _ b)]
  rfl
theorem YZ {R e:Nat}(a:e≠R)(af:aJ≠[])(ai:γ≠[])(b:∀V∈aJ,R∉V)(c:∀V∈γ,R∉V)(Y:gO [R,e] aJ=gO [R,e] γ):aJ=γ:=by
 cases aJ with
 |nil=>exact absurd rfl af|cons N aJ=>
  cases γ with
  |nil=>exact absurd rfl ai|cons V γ=>
   have S:=FF a b;rw[Y,FF a c]at S;injection S with d f;have g:∀{j aV:List _},j.map (λV=>e::V)=aV.map (λV=>e::V)->j=aV:=by
    intro j;induction j with
    |nil=>simp_all|cons X j h=>
     intro aV Y;cases aV with
     |nil=>cases Y|cons q aV=>
      injection Y with af ai;injection af with _ af;rw[af,h ai]
   rw[d,g f]
theorem MW {R e:Nat}(a:e≠R){s:bt}(b:∀C,s[C]?=D R->s[C+1]?=D e):∀{N:bt},R∉N->∀C,(N++R::e::s)[C]?=D R->(N++R::e::s)[C+1]?=D e
 |[],_,0,_=>rfl|[],_,1,Y=>absurd (kb Y) a|[],_,m+2,Y=>b m Y|S::N,w,0,Y=>absurd (by rw[kb Y];exact eI ..) w|S::N,w,C+1,Y=>MW a b (λG=>w (f5 _ G)) C Y
theorem MX {R e:Nat}(a:e≠R):∀{aJ:kd},(∀V∈aJ,R∉V)->∀C,(gO [R,e] aJ)[C]?=D R->(gO [R,e] aJ)[C+1]?=D e
 |[],_,C,Y=>by simp[gO]at Y
 |[N],w,C,Y=>absurd (qX Y) (w N (eI ..))|N::V::E,w,C,Y=>by
  rw[(show gO _ _=N++R::e::gO _ _ from n1 ..)]at Y ⊢
  exact MW a (MX a  λG b=>w G (f5 _ b)) (w N (eI ..)) C Y
theorem Y0 (a:bt)(aJ:kd):xk a (pg aJ)=gO a aJ:=by
 have:=FE ⟨a.toArray⟩ (pg aJ);unfold xk;refine Eq.trans ?_ (this.trans ?_)
 ·rw[eq_of_beq (SE   rfl)]
 ·unfold pg
  rw[gT];congr 1;exact(sf λN _=>rfl).trans (wG _)
section
variable {H:bU}
def A8:aS->bp->ar->cm->Prop:=λX j Q o=>match X,j with
 |.d s,[.d q]=>s.cps.toList.length<=100000/\q.cps.toList≠[]/\∀N,Q N=i->o (.a0 N) (cq Q N (.aM ((ry q.cps.toList s.cps.toList).map eX)))|_,_=>False
theorem Y1:o7 H "str.split" A8:=by
 intro aj z l Q X j v ae o c d f Y;unfold A8 at Y;split at Y
 ·rename_i s q
  obtain⟨C,rfl⟩:=d;obtain⟨u,rfl,g⟩:=f.cW;obtain⟨t,rfl⟩:=g;obtain⟨h,k,V⟩:=Y;have m:s.length=s.cps.toList.length:=by simp[ny]
  have n:(q.length == 0)=aA:=by
   have:q.length≠0:=λe=>k (by
    have aB:q.cps.toList.length=0:=by simpa [ny]using e
    exact qV.mp aB)
   simpa using this
  have w:=split_le s q;refine kE ?_;refine LX.Xx n (λa p e=>?_) (by rw[m];exact lR h) (by
   rw[len_partsBetween];have:=StrLaws.occ_length_le s q 0 s.length (s.length+1);rw[sizeLine_eq];lia)
  intro x;have aR:ry q.cps.toList s.cps.toList=(Txt.split s q).map λN=>N.cps.toList:=rfl
  have aB:(ry q.cps.toList s.cps.toList).map eX=a.map λN=>eX N.1.cps.toList:=by
   rw[aR,<- e,gT,gT];rfl
  have y:(ry q.cps.toList s.cps.toList).length<=100002:=by
   rw[aR,cE];lia
  refine⟨.a0 z.heap.objs.size,_,c.hx  (d:=p) (λb A V=>eQ _ V) (cZ _) ?_,rfl,V _ (c.cL.fK (cZ _))⟩
  refine⟨by rw[cE,sizeLine_eq];lia,strValues a,0,?_,gK _ rfl⟩
  rw[aB];exact L5 a
 ·exact Y.elim
def A9 (I:bK)(n:b1):hQ:=λl Q o=>n l Q λX ay=>match X with
 |.aQ C=>o C ay|.a0 S=>∃j,d1 I ay S j/\o (!j.isEmpty) ay|_=>False
theorem MY {e:bV}{n:b1}(Y:bu H e n)(f:∀c,isTrue e H.x c=(do let v <- c;standAt e.pos;holding [v] (truthy v)):=by intro _;rfl):hR H e (A9 H.I n):=by
 intro aj z l Q o g hw;refine isTrue_plain (cv (Y aj z l Q _ g hw) λv bf h=>?_) (f _)
 obtain⟨X,aw,a,bI,b⟩:=h;cases X with
 |aQ R=>cases bI;exact lI ⟨aw,a,b⟩|a0 S=>
  cases bI;obtain⟨j,k,V⟩:=b;obtain⟨m,d,N,p⟩:=a.d9 k;refine wpAny_truthy_list N.isList (by rw[fa,<- d.dS];rw[sizeLine_eq]at p;lia) ?_
  refine⟨aw,a.fS _,?_⟩
  simpa [(show m.isEmpty=j.isEmpty by cases d<;>rfl)]using V
 |_=>exact b.elim
variable {prog:dk}{p:cN}{r:dM}{k:bq->bz->Prop}{z:bz}
theorem Y2 {s:ba}{X q:bq}(f:r.handled=i)(a:z.heap.IsList s #[X,q])(V:∀af,n2 z.heap.objs.size z.heap af->o [X,q] {z with heap:=af}):
  bT (model prog p) r (unpackItems (.ref s) 2 i) o k z:=by
 have ne:s≠z.heap.objs.size:=by obtain⟨A,g,_⟩:=a;exact gz (e1 g)
 unfold unpackItems notIterableAtAll;refine bR (bR (wpAny_specialOf a.typeIs slot_list_iter.lookup (dQ ?_)));rw[if_neg (by decide)]
 refine bR (wpAny_holding (wpAny_pyIter_list a ?_));refine bR (wpAny_holding ?_);show bT _ _ (pyNext _>>=_) _ _ _;refine bR (wpAny_pyNext_list_item ⟨_,gK _ rfl,rfl,rfl⟩ (a.push _) rfl λaf h aR=>?_)
 have d  := (a.push _).extBut aR.extBut ne;refine bR (wpAny_holding ?_);refine bR (wpAny_pyNext_list_item (s:={z with heap:=af}) h d rfl λai j aB=>?_)
 refine bR (wpAny_holding (dQ (dQ (dQ ?_))));rw[if_neg (by simp)]
 refine bR (wpAny_holding (wpAny_pyNext_list_end (s:={z with heap:=ai}) f j (d.extBut aB.extBut ne) rfl λbw l=>?_))
 exact dQ (V bw λb A c e=>l b A c (aB.extBut b A c (aR.extBut b A c (eQ _ e))))
end
section
variable {H:bU}
def MZ (I:bK)(n:kH):i7:=λv l Q o=>match v with |.a0 S=>∃X q,d1 I Q S [X,q]/\n [X,q] l Q o |_=>False
theorem Y3 {C:Nat}{n:kH}(g:H.fD=ag)(Y:n8 H ax n)
  (h:(j8 ax H.x).length=2:=by rfl) (j:(j8 ax H.x).findIdx? (·.1)=i:=by rfl):kf H (.Tuple ax C pos) (MZ H.I n):=by
 intro aj z l Q v u o f E hw;cases v with
 |a0 S=>
  obtain⟨X,q,k,hw⟩:=hw;cases E;obtain⟨m,a,p,_⟩:=f.d9 k;obtain⟨c,d,rfl⟩:∃c d,m=[c,d]:=by
   obtain⟨c,n,rfl⟩:=kz a.dS.symm;obtain⟨d,u,rfl⟩:=kz (fP a.dS.symm);cases qV.mp (fP (fP a.dS.symm));exact⟨c,d,rfl⟩
  refine bR (wpAny_standAt ?_);unfold unpack;rw[h,j];refine bR (wpAny_holding (Y2 (f.f.gB g) p.isList λaf s=>?_))
  exact Y aj _ l Q _ _ o (f.jm (a:=z.toks) λb A e=>s b A (gz (e1 e)) e) a hw
 |_=>exact hw.elim
end
section
variable {I:bK}{k:cg}{aP dT:Type}{bE bk F Y:ar}{L:iD}{e eC:b1}{T:hC aP}{E:Mo aP}{n:gf}{l:ck}{w m:Str}{O y p h:Nat}
theorem Y4 {bN:jJ} {g:i7} {E:Mo (List aP)} {R:aP->pd}{w:aP->Mo dT}
  (aE:vk I wi k L E T) (aO:Ml I g T c1) (aQ:∀S,X0 (cX b2 bN L) ((c1 S).map (·.1))) (aR:∀S,m3 I jq jO (vi (cX b2 bN L) (c1 S)) (R S)) (aW:∀S,pe I eC jO (vi (cX b2 bN L) (c1 S)) (w S) γ):
  pe I (xe b2 bN wi g jq eC) k L (E.aC λj=>lT (λX=>lU (R X) (w X)) j []) (vt γ):=by
 intro l bE bk o ak aX V;refine aE l bE bk _ ak aX (V.aC.de λj bF aw x1 aY bq al d y=>?_)
 have aZ:=ak.bQ x1.1
 refine⟨λO m aV t ay=>m=j.length-O/\O<=j.length/\∃bA n c,f9 bF aw n ay/\n d=i/\c d=i/\ay d=D (.aM aV)/\kS γ n bA aV c/\c4 n c/\bx c ay/\(∀N,c N≠i->aw N=i)/\gY (cX b2 bN L) t bF/\t.length=(cX b2 bN L).length/\cC I (lT (λX=>lU (R X) (w X)) (j.drop O) bA) k bF aw (fF (vt γ) bk o),
  ⟨_,rfl,mc _,[],bF,λ_=>i,.heap x1.2.1 (pb y _),x1.2.1.cz y,rfl,jL,λ_=>rfl,λ_=>.inr rfl,(λN A G=>by cases G),λN G=>absurd rfl G,X3 aZ,X4.symm,aY⟩,?_⟩
 rintro O m aV t ay ⟨rfl,aE,bA,n,c,s,am,B,an,C,ao,ap,Y,as,Z,r⟩;by_cases F:O<j.length
 ·right
  have aT:j[O]?=D j[O]:=gx F;obtain⟨a0,a1⟩:=al.eU O ay j[O] (s.1.ct s.2.1) aT;refine⟨a0,λaa ab J=>O+1<=j.length/\∃bA n c,f9 bF aw n J/\n d=i/\c d=i/\J d=D (.aM aa)/\kS γ n bA aa c/\c4 n c/\bx c J/\(∀N,c N≠i->aw N=i)/\gY (cX b2 bN L) ab bF/\ab.length=(cX b2 bN L).length/\cC I (lT (λX=>lU (R X) (w X)) (j.drop (O+1)) bA) k bF aw (fF (vt γ) bk o),λaa ab J G=>⟨j.length-(O+1),by omega,rfl,G⟩,λv a7 a2=>?_⟩
  obtain⟨av,x2,a3⟩:=a1 v a7 a2 n s.1 s.2.1;have ac:∀{K M u P:ar},f9 K M u P->K d=i->M d=D (.aM aV)->c4 K c->bx c M->(u d=i/\P d=D (.aM aV))/\c4 u c/\bx c P:=by
   intro K M u P X af ai bw au;refine⟨⟨?_,X.2.2.1 _ _ ai⟩,λN=>?_,au.ct X.2.2.1⟩
   ·cases G:u d with
    |none=>rfl|some A=>have:=X.2.2.2 d af (by rw[G];exact fQ _);rw[ai]at this;cases this
   ·cases q:c N with
    |none=>exact .inr rfl|some p=>
     left;rcases bw N with G |G
     ·cases a4:u N with
      |none=>rfl|some A=>have:=X.2.2.2 N G (by rw[a4];exact fQ _);rw[au _ _ q]at this;cases this
     ·rw[G]at q;cases q
  obtain⟨⟨a5,a6⟩,a8,a9⟩:=ac x2 am an ao ap;refine aO j[O] v t av a7 _ x2.2.1 a3 λa ax=>?_
  have a_:gY (cX b2 bN L) t av:=as.bQ (s.1.ct x2.1);obtain⟨az,aB,br⟩:=XZ ax Z.symm a_;have aC:gY (cX b2 bN L) (rq t a) bF:=by
   have ba:=aQ j[O];refine λh z e=>?_
   by_cases aD:∃V∈(c1 j[O]).map (·.1),V=h
   ·obtain⟨V,ae,rfl⟩:=aD
    rw[ba V ae z e];trivial
   ·have:((rq t a)[h]?)=t[h]?:=X1 ax (λae=>aD ⟨h,ae,rfl⟩)
    rw[this];exact as h z e
  have bb:j.drop O=j[O]::j.drop (O+1):=se F;rw[bb]at r;unfold lT at r;cases ec:R j[O]with
  |aU=>unfold lU at r;rw[ec]at r;exact r.elim|aT bc=>unfold lU at r;rw[ec]at r;exact r.elim|f bd=>
   refine aR j[O] _ av a7 _ az x2.2.1 ?_;rw[ec];intro aF be x3;obtain⟨⟨aG,aH⟩,aI,ah⟩:=ac x3 a5 a6 a8 a9;have aj:=(s.ct x2).ct x3;cases bd with
   |false=>
    rw[if_neg (by decide)]
    refine⟨F,bA,aF,c,aj,aG,B,aH,C.bQ (x2.1.ct x3.1),aI,ah,Y,aC,by rw[aB];exact Z,?_⟩
    unfold lU at r;rw[ec]at r;exact r
   |true=>
    rw[if_pos rfl];cases Q:w j[O]with
    |aU=>unfold lU at r;rw[ec,Q]at r;exact r.elim|aT bc=>unfold lU at r;rw[ec,Q]at r;exact r.elim|f q=>
     unfold lU at r;rw[ec,Q]at r;have x:cC I (Mo.ei (bA.length+1) (lT (λX=>lU (R X) (w X)) (j.drop (O+1)) (bA++[q]))) k bF aw (fF (vt γ) bk o):=r
     obtain⟨bs,x⟩:=x.ei;refine aW j[O] _ aF be _ (az.bQ x3.1) x3.2.1 ?_;rw[Q];intro bf bt x4 bu U aJ bg bh bi;obtain⟨⟨aL,bj⟩,bl,bm⟩:=ac x4 aG aH aI ah;have bv:=C.cn;have aM:U d=i:=by
      grind
     have bn:c4 c U:=λN=>by
      cases G:U N with
      |none=>exact .inr rfl|some p=>exact .inl (ah.cz (aJ N (by rw[G];exact fQ _)))
     have W:=aj.ct x4;refine⟨bj,by omega,F,bA++[q],bf,aK c U,?_,aL,by unfold aK;rw[B];exact aM,jL,(C.bQ ((x2.1.ct x3.1).ct x4.1)).snoc bi bn,λN=>?_,λN A G=>?_,λN G=>?_,aC,by rw[aB];exact Z,x⟩
     ·refine⟨W.1,λb A G=>?_,λb A G=>?_,W.2.2.2⟩
      ·unfold cq;split
       ·rename_i p;rw[p,aL]at G;cases G
       ·exact W.2.1 _ _ G
      ·unfold cq;split
       ·rename_i p;rw[p,y]at G;cases G
       ·exact W.2.2.1 _ _ G
     ·unfold aK
      cases G:c N with
      |some p=>
       rcases bl N with q |q
       ·exact .inl q
       ·rw[q]at G;cases G
      |none=>exact bg N
     ·have bo:N≠d:=λp=>by
       unfold aK at G;rw[p,B,aM]at G;cases G
      unfold cq;rw[if_neg bo];unfold aK at G;cases p:c N with
      |some b3=>rw[p]at G;cases G;exact bm _ _ p|none=>rw[p]at G;exact bh _ _ G
     ·unfold aK at G
      cases p:c N with
      |some b3=>exact Y N (by rw[p];exact fQ _)|none=>rw[p]at G;exact aj.2.2.1.cz (aJ N G)
 ·left
  have e:O=j.length:=by omega
  subst e;refine⟨al.p8 ay (s.1.ct s.2.1),?_⟩;rw[wB]at r;have x:fF (vt γ) bk o bA n ay:=r n ay s;have bp:c4 (cW d (.aM aV)) c:=λN=>by
   unfold cW;split
   ·rename_i p;rw[p];exact .inr B
   ·exact .inl rfl
  refine x (.a0 d) (aK (cW d (.aM aV)) c) (λN G=>?_) (λN=>?_) (λN A G=>?_) ⟨d,aV,c,rfl,fZ bp,C⟩
  ·unfold aK cW at G
   by_cases p:N=d
   ·rw[p];exact x1.2.2.1.cz y
   ·simp only[if_neg p]at G;exact x1.2.2.1.cz (Y N G)
  ·by_cases p:N=d
   ·rw[p];exact .inl am
   ·unfold aK cW;simp only[if_neg p];exact ao N
  ·unfold aK cW at G
   by_cases p:N=d
   ·simp only[if_pos p]at G;rw[p];cases G;exact an
   ·simp only[if_neg p]at G;exact ap _ _ G
section
open PySem PySem.Spec PyProof.Rows PySem.W
end
theorem lq {aP:Type}{ae:List aP}{y:Nat}(Y:ae.length=y+1):∃S n,ae=S::n/\n.length=y:=by
 cases ae with
 |nil=>cases Y|cons S n=>exact⟨S,n,rfl,fP Y⟩
theorem hz.FG {X b:Str}{aX:er}{w:ba}{bP:i4}{aJ:c_}(j:aJ.length=1)(F:hz I X b aX w bP)(Y:∀(c d e:bq) (f:jl) (g h:bq) (a:bq),bindArgs (W.fnOf X b (lp aX) (jo aX) (gg aX) .none c d e f g h) ⟨[a],[]⟩=pure (aJ.zip [a])):iC I bP aJ []:=by
 refine F.EK λc d e f g h ae k=>?_
 obtain⟨a,eJ,rfl,af⟩:=lq (k.trans j);simp_all
theorem hz.xF {X c:Str}{aX:er}{w:ba}{bP:i4}{aJ:c_}(k:aJ.length=2)(F:hz I X c aX w bP)(Y:∀(d e f:bq) (g:jl) (h j:bq) (a b:bq),bindArgs (W.fnOf X c (lp aX) (jo aX) (gg aX) .none d e f g h j) ⟨[a,b],[]⟩=pure (aJ.zip [a,b])):iC I bP aJ []:=by
 refine F.EK λd e f g h j ae l=>?_
 obtain⟨a,eJ,rfl,af⟩:=lq (l.trans k);obtain⟨b,cR,rfl,ai⟩:=lq af;simp_all
theorem hz.M0 {X d:Str}{aX:er}{w:ba}{bP:i4}{aJ:c_}(l:aJ.length=3)(F:hz I X d aX w bP)(Y:∀(e f g:bq) (h:jl) (j k:bq) (a b c:bq),bindArgs (W.fnOf X d (lp aX) (jo aX) (gg aX) .none e f g h j k) ⟨[a,b,c],[]⟩=pure (aJ.zip [a,b,c])):iC I bP aJ []:=by
 refine F.EK λe f g h j k ae m=>?_
 obtain⟨a,eJ,rfl,af⟩:=lq (m.trans l);obtain⟨b,cR,rfl,ai⟩:=lq af;obtain⟨c,n,rfl,bw⟩:=lq ai;simp_all
end
def FH (mn gd A_:b1):b1:=λl Q o=>mn l Q λX aw=>(match X with |.a0 S=>∃bl,aw S=D (.eN bl)|_=>False)/\gd l aw λq a7=>A_ l a7 λG a=>td X q a λS bl C=>
 match hB bl C with |some v=>o v a |none=>bl.length<cA/\o G (cq a S (.eN (jP bl C G)))
section
variable {H:bU}{A e w:bV}{fE ie:Pos}{mn gd A_:b1}
theorem Y5 (af:H.r.units+60<cLine)(x:bu H A mn)(y:bu H e gd)(B:bu H w A_)(m:Ma H A "setdefault" fE e w ie:=by exact⟨rfl,rfl,rfl,rfl⟩):bu H (.Call (.Attribute A "setdefault" fE) [e,w] [] ie) (FH mn gd A_):=by
 intro aj z l Q o E Y;refine wpAny_Call_method m.bj m.Mb m.line PySem.F.plainAttrs_dict Kh PySem.F.type_dict_setdefault (cv (x aj z l Q _ E Y) λu bf F=>?_)
 obtain⟨X,aw,h,I,j,J⟩:=F;cases X with
 |a0 S=>
  obtain⟨K,L⟩:=j;obtain rfl:u=kc S:=I;obtain⟨eJ,cR,_⟩:=XK h (.inl ⟨K,.inl L⟩);refine⟨eJ,cR,?_⟩;rw[m.Mc];refine Calls.callWith_builtin rfl (Calls.evalArgs_plain (Calls.spliced_cons (cv (y aj bf l aw _ h J) λah bo ⟨q,a7,M,N,O⟩=>
   Calls.spliced_cons (cv (B aj bo l a7 _ M O) λP ai ⟨G,R,c,k,T⟩=>Calls.spliced_nil ?_))))
  obtain⟨qk,bl,C,U,rfl,n,V⟩:=Mf T;cases U;obtain⟨W,p,a,d,dy⟩:=L9 c.cL n;have Z:a.length<=cA:=by rw[<- d.dS];exact W
  have b:=d.b4 C;refine call_meetsIn Kh dy.typeIs PySem.F.entry_dict_setdefault (PySem.F.args_dict_setdefault_3 _ _ _) (kt_meets_setdefault (lg H.cu H.p) S (vf N) p P) ⟨a,dy,Z,λv aa=>?_,λab aF s ac=>?_⟩
  ·rw[aa]at b
   cases g:hB bl C with
   |none=>rw[g]at b;exact b.elim|some t=>rw[g]at b V;exact⟨t,R,c.fS _,b,V⟩
  ·rw[ab]at b
   cases g:hB bl C with
   |some t=>rw[g]at b;exact b.elim|none=>
    rw[g]at V;have ae:(jP bl C G).length<=cA:=by have:=Fc bl C G;have:=V.1;lia
    have f:∃V,aF.get? S=D V:=let⟨V,_,_,f,_⟩:=s;⟨V,f⟩
    exact⟨G,_,Fd c (by rw[n];exact mQ) ac f (L_ ae p (d.gE C k) s),k,V.2⟩
 |_=>exact j.elim
end
def xG (I:bK)(X V:Str)(aX:er)(w:ba):Prop:=∃(b:bq) (c:jl) (d e f:bq) (g:jl) (a h:bq) (j:sH),
 I.lookup w=D ⟨b,c,.func (W.fnOf X V (lp aX) (jo aX) (gg aX) .none d e f g a h),j⟩/\p0 I a V=ag/\k_ I (.ref w)=ag
def c7 (I:bK)(X:Str)(aX:er):Prop:=∃w,gL I ft X=D (D (.ref w))/\xG I X X aX w
def pk (I:bK)(R m V:Str)(aX:er):Prop:=∃a w,gL I ft R=D (D (.ref a))/\jw I (.ref a) m=D (D (.ref w))/\sz I (.ref w)=ag/\xG I m V aX w
def js (I:bK)(R:Str):Prop:=∃a,gL I ft R=D (D (.ref a))/\uH I a zL=ag/\uG I a=ag/\zy I a=ag /\
 jw I (.ref a) "__setattr__"=D (D (.builtin "object.__setattr__"))/\zA I a=ag/\k_ I (.ref a)=ag
def vw (I:bK)(R S:Str):Prop:=∃a,gL I ft R=D (D (.ref a))/\jw I (.ref a) S=D i
def FI (I:bK)(X:Str):Prop:=gL I ft X=D i
def xH (I:bK)(X:Str)(v:aS):Prop:=∃u,gL I ft X=D (D u)/\cw v u
def tw (I:bK)(X:Str):Prop:=∃R,gL I ft X=D (D (.ref R))
def lW (I:bK)(a6:e2):Prop:=∃Y:Heap,I.In Y/\Y.Ns ft a6
section
variable {P:dk}{p:cN}{I:bK}{a6:e2}{bj:Heap}{dN:kh}{X V R m S:Str}{aX:er}{w:ba}{bP:i4}{aJ:c_}{C:Nat}{cx:gW}{v:aS}
theorem c7.iE {a b c:bq}(Y:gL I ft X=D (D (.ref w)))(s:I.lookup w=D ⟨δ,b5,.func (W.fnOf X X (lp aX) (jo aX) (gg aX) .none a b c ε γ gM),ζ⟩)(R:p0 I γ X=ag)(C:k_ I (.ref w)=ag):c7 I X aX:=⟨w,Y,δ,b5,a,b,c,ε,γ,gM,ζ,s,R,C⟩
theorem pk.iE {a b c:bq}(Y:gL I ft R=D (D (.ref γ)))(af:jw I (.ref γ) m=D (D (.ref w)))(ai:sz I (.ref w)=ag)(s:I.lookup w=D ⟨ε,b5,.func (W.fnOf m V (lp aX) (jo aX) (gg aX) .none a b c ζ δ gM),η⟩)(bw:p0 I δ V=ag)(C:k_ I (.ref w)=ag):pk I R m V aX:=⟨γ,w,Y,af,ai,ε,b5,a,b,c,ζ,δ,gM,η,s,bw,C⟩
theorem js.iE (Y:gL I ft R=D (D (.ref γ)))(af:uH I γ zL=ag)(ai:uG I γ=ag)(bw:zy I γ=ag)(a:jw I (.ref γ) "__setattr__"=D (D (.builtin "object.__setattr__")))(b:zA I γ=ag)(c:k_ I (.ref γ)=ag):js I R:=⟨γ,Y,af,ai,bw,a,b,c⟩
theorem vw.iE (Y:gL I ft R=D (D (.ref γ)))(af:jw I (.ref γ) S=D i):vw I R S:=⟨γ,Y,af⟩
theorem xH.iE (Y:gL I ft X=D (D u))(af:cw v u):xH I X v:=⟨u,Y,af⟩
theorem tw.iE (Y:gL I ft X=D (D (.ref γ))):tw I X:=⟨γ,Y⟩
theorem xG.FJ (Y:xG I X V aX w):∃bP,hz I X V aX w bP:=by
 obtain⟨a,b,c,d,e,f,g,h,j,s,R,C⟩:=Y;exact⟨_,Lx s R C⟩
theorem lW.Y6 (a:lW I a6)(Y:FI I X):s9 a6 X:=by
 obtain⟨_,H,ak⟩:=a;exact W.mg_none_of H ak Y
theorem lW.Y7 (a:lW I a6)(Y:xH I X v):u9 a6 X v:=by
 obtain⟨_,H,ak⟩:=a;obtain⟨u,e,E⟩:=Y;exact⟨u,zD H ak e,E⟩
theorem lW.oh (a:lW I a6)(Y:tw I X):a6 X=D (.ref (dz I X)):=by
 obtain⟨_,H,ak⟩:=a;obtain⟨u,e⟩:=Y;rw[s_ e];exact zD H ak e
theorem lW.M1 (a:lW I a6)(Y:tw I X):u9 a6 X (.a0 (dz I X)):=⟨_,a.oh Y,rfl⟩
theorem js.cls (Y:js I R):mi I (dz I R):=by
 obtain⟨b,e,af,ai,bw,a,_⟩:=Y;rw[s_ e];exact⟨af,ai,bw,a⟩
theorem vw.aU (Y:vw I R S):qb I (dz I R) S:=by
 obtain⟨a,e,Y⟩:=Y;rwa[s_ e]
abbrev xI (P:dk)(p:cN)(I:bK)(a6:e2)(bj:Heap)(dN:kh)(C:Nat)(X V:Str)(aX:er)(aJ:c_)(cx:gW):Prop:=∀w bP,hz I X V aX w bP->gX P p I a6 bj dN C w bP aJ cx/\iC I bP aJ []
theorem M3 (a:lW I a6)(F:c7 I X aX)(Y:xI P p I a6 bj dN C X X aX aJ cx):AF P p I a6 bj dN C X aJ cx:=by
 obtain⟨_,H,ak⟩:=a;obtain⟨w,e,O⟩:=F;obtain⟨bP,F⟩:=O.FJ;exact⟨w,bP,(Y w bP F).1,zD H ak e,F.mj,(Y w bP F).2⟩
theorem Ba (aO:js I R)(F:pk I R m V aX)(Y:xI P p I a6 bj dN C m V aX aJ cx):qm P p I a6 bj dN C (dz I R) m aJ cx:=by
 obtain⟨b,w,e,aB,a,O⟩:=F;obtain⟨bP,F⟩:=O.FJ;exact⟨w,bP,(Y w bP F).1,aO.cls,by rw[s_ e];exact⟨aB,a,F.mj⟩,(Y w bP F).2⟩
theorem Y8 (a:lW I a6)(aO:js I R)(F:pk I R "__init__" V aX)(Y:xI P p I a6 bj dN C "__init__" V aX aJ cx):tv P p I a6 bj dN C R (dz I R) aJ cx:=by
 obtain⟨g,w,e,aB,b,O⟩:=F;obtain⟨bP,F⟩:=O.FJ;obtain⟨h,c,_,_,_,_,d,f⟩:=aO;cases e.symm.trans c;refine⟨w,bP,(Y w bP F).1,by rw[s_ e];exact⟨d,aB,b,f⟩,a.oh ⟨_,e⟩,(Y w bP F).2⟩
end
section
variable {I:bK}{X V:Str}{aX:er}{aJ:c_}
abbrev M4 (I:bK)(X V:Str)(aX:er)(aJ:c_):Prop:=∀w bP,hz I X V aX w bP->iC I bP aJ []
variable {s:PySem.W.OpenLaw}{p:cN}{a6:e2}{C:Nat}{cx:gW}{hS:ba}
theorem Y9 (h:lW I a6)(F:c7 I "law" aX)(j:a6 "law"=D (.ref hS))(k:∀(a b c:bq) (d:jl) (f g:bq) (z:bz) (v:bq),bindArgs (W.fnOf "law" "law" (lp aX) (jo aX) (gg aX) .none a b c d f g) ⟨[v],[]⟩=pure [(X,v)])
  (Y:∀(bj:Heap) (w:ba) (bP:i4),hz I "law" "law" aX w bP->gX s.prog p I a6 bj fv C w bP [X] cx):
  ∃bP:i4,(∀(z:bz) (v:bq),BindsTo z bP ⟨[v],[]⟩ [(X,v)])/\∀bj:Heap,I.In bj->bj.Ns ft a6->gX s.prog p I a6 bj fv C hS bP [X] cx:=by
 obtain⟨_,H,ak⟩:=h;obtain⟨w,e,m,n,a,b,c,d,f,g,o,l,R,iz⟩:=F;cases j.symm.trans (zD H ak e);exact⟨_,λz v=>.of_eq (k a b c d f g z v),λbj _ _=>Y bj _ _ (Lx l R iz)⟩
def xJ (I:bK):gW:=λa Q o _=>∃(S:ba) (b:eM),a=[.a0 S]/\d1 I Q S (b.map aS.c)/\b.length<=63/\AV b/\∀ay,o (.aQ ag) ay
end
abbrev Y_:=@PySem.F.slot_str_find
abbrev Za:=@PySem.F.type_str_find
abbrev Zb:=@PySem.F.slot_str_index
abbrev Zc:=@PySem.F.type_str_index
abbrev Zd:=@PySem.F.slot_str_split
abbrev Ze:=@PySem.F.type_str_split
abbrev Zf:=@PySem.F.slot_str_join
abbrev Zg:=@PySem.F.type_str_join
abbrev vx:=@PySem.F.plainAttrs_list
abbrev M5:=@PySem.F.slot_list_append
abbrev M6:=@PySem.F.type_list_append
abbrev M7:=@PySem.F.slot_list_extend
abbrev M8:=@PySem.F.type_list_extend
abbrev M9:=@PySem.F.slot_list_pop
abbrev M_:=@PySem.F.type_list_pop
section
variable {aX:SortSt}
structure kj (aX a:SortSt):Prop where
 C:kindOf a=kindOf aX
 S:arrOf a=arrOf aX
 N:pendingOf a=pendingOf aX
 w:failedOf a=failedOf aX
end
def FK (I:bK)(S:Str)(P:ba->Prop):Prop:=∃v,gL I ft S=D (D (.ref v))/\P v
theorem FK.iE {I:bK}{S:Str}{P:ba->Prop}{v:ba}(Y:gL I ft S=D (D (.ref v)))(N:P v):FK I S P:=⟨v,Y,N⟩
def FL (I:bK)(S b:Str)(P:ba->ba->Prop):Prop:=∃v p,gL I ft S=D (D (.ref v))/\gL I ft b=D (D (.ref p))/\P v p
theorem FL.iE {I:bK}{S b:Str}{P:ba->ba->Prop}{v p:ba}(Y:gL I ft S=D (D (.ref v)))(ai:gL I ft b=D (D (.ref p)))(N:P v p):FL I S b P:=⟨v,p,Y,ai,N⟩
open PySem.SeqAt
open PySem.AutoSeq1 (wpAny_loadPart')
open PySem.MeetsSeq PySem.MeetsSeq2 PySem.MeetsSeq3
section
variable {H:bU}{aj:dD}{l:ck}{Q:ar}{z:bz}{r:dM}
theorem Zh {X q:aS}(e:cw X v)(a:cw q u)(g:gN X=ag)(f:gN q=ag):oS r z v u (jx X q):=by
 cases X with
 |a9=>
  cases e;cases q with
  |a9=>cases a;exact SeqAt.RcAt.none_none|aQ b=>cases a;exact SeqAt.RcAt.none_bool _|c b=>obtain⟨n,rfl⟩:=a;exact SeqAt.RcAt.none_int _ _|d b=>obtain⟨n,rfl⟩:=a;exact SeqAt.RcAt.none_str _ _|_=>cases f
 |aQ S=>
  cases e;cases q with
  |a9=>cases a;exact SeqAt.RcAt.bool_none _|aQ b=>cases a;exact SeqAt.RcAt.bool_bool _ _|c b=>obtain⟨n,rfl⟩:=a;exact SeqAt.RcAt.bool_int _ _ _|d b=>obtain⟨n,rfl⟩:=a;exact SeqAt.RcAt.bool_str _ _ _|_=>cases f
 |c S=>
  obtain⟨h,rfl⟩:=e;cases q with
  |a9=>cases a;exact SeqAt.RcAt.int_none _ _|aQ b=>cases a;exact SeqAt.RcAt.int_bool _ _ _|c b=>obtain⟨n,rfl⟩:=a;exact SeqAt.RcAt.int_int _ _ _ _|d b=>obtain⟨n,rfl⟩:=a;exact SeqAt.RcAt.int_str _ _ _ _|_=>cases f
 |d S=>
  obtain⟨h,rfl⟩:=e;cases q with
  |a9=>cases a;exact SeqAt.RcAt.str_none _ _|aQ b=>cases a;exact SeqAt.RcAt.str_bool _ _ _|c b=>obtain⟨n,rfl⟩:=a;exact SeqAt.RcAt.str_int _ _ _ _|d b=>obtain⟨n,rfl⟩:=a;exact SeqAt.RcAt.str_str _ _ _ _|_=>cases f
 |_=>cases g
theorem Zi {X q:aS}(e:cw X v)(a:cw q u)(g:gN X=ag)(f:gN q=ag):sF r z v u (!jx X q):=by
 cases X with
 |a9=>
  cases e;cases q with
  |a9=>cases a;exact SU|aQ b=>cases a;exact SV _|c b=>obtain⟨n,rfl⟩:=a;exact S7 _ _|d b=>obtain⟨n,rfl⟩:=a;exact S8 _ _|_=>cases f
 |aQ S=>
  cases e;cases q with
  |a9=>cases a;exact SW _|aQ b=>cases a;exact SX _ _|c b=>obtain⟨n,rfl⟩:=a;exact S9 _ _ _|d b=>obtain⟨n,rfl⟩:=a;exact S_ _ _ _|_=>cases f
 |c S=>
  obtain⟨h,rfl⟩:=e;cases q with
  |a9=>cases a;exact Ta _ _|aQ b=>cases a;exact Tb _ _ _|c b=>obtain⟨n,rfl⟩:=a;exact Ti _ _ _ _|d b=>obtain⟨n,rfl⟩:=a;exact Tj _ _ _ _|_=>cases f
 |d S=>
  obtain⟨h,rfl⟩:=e;cases q with
  |a9=>cases a;exact Tc _ _|aQ b=>cases a;exact Td _ _ _|c b=>obtain⟨n,rfl⟩:=a;exact Tn _ _ _ _|d b=>obtain⟨n,rfl⟩:=a;exact To _ _ _ _|_=>cases f
 |_=>cases g
theorem Zj (a:z.heap.IsList N aa)(e:cw q u)(g:gN q=ag)(f:r.units<cLine):oS r z (.ref N) u aA:=by
 cases q with
 |a9=>cases e;exact SeqAt.RcAt.list_none a f|aQ b=>cases e;exact SeqAt.RcAt.list_bool _ a f|c b=>obtain⟨n,rfl⟩:=e;exact SeqAt.RcAt.list_int _ _ a f|d b=>obtain⟨n,rfl⟩:=e;exact SeqAt.RcAt.list_str _ _ a f|_=>cases g
theorem Zk (a:z.heap.IsList N aa)(e:cw q u)(g:gN q=ag)(f:r.units<cLine):oS r z u (.ref N) aA:=by
 cases q with
 |a9=>cases e;exact SeqAt.RcAt.none_list a f|aQ b=>cases e;exact SeqAt.RcAt.bool_list _ a f|c b=>obtain⟨n,rfl⟩:=e;exact SeqAt.RcAt.int_list _ _ a f|d b=>obtain⟨n,rfl⟩:=e;exact SeqAt.RcAt.str_list _ _ a f|_=>cases g
theorem Zl (a:z.heap.IsTuple N aa)(e:cw q u)(g:gN q=ag)(f:r.units<cLine):oS r z (.ref N) u aA:=by
 cases q with
 |a9=>cases e;exact SeqAt.RcAt.tuple_none a f|aQ b=>cases e;exact SeqAt.RcAt.tuple_bool _ a f|c b=>obtain⟨n,rfl⟩:=e;exact SeqAt.RcAt.tuple_int _ _ a f|d b=>obtain⟨n,rfl⟩:=e;exact SeqAt.RcAt.tuple_str _ _ a f|_=>cases g
theorem Zm (a:z.heap.IsTuple N aa)(e:cw q u)(g:gN q=ag)(f:r.units<cLine):oS r z u (.ref N) aA:=by
 cases q with
 |a9=>cases e;exact SeqAt.RcAt.none_tuple a f|aQ b=>cases e;exact SeqAt.RcAt.bool_tuple _ a f|c b=>obtain⟨n,rfl⟩:=e;exact SeqAt.RcAt.int_tuple _ _ a f|d b=>obtain⟨n,rfl⟩:=e;exact SeqAt.RcAt.str_tuple _ _ a f|_=>cases g
theorem Zn (a:z.heap.IsList N aa)(e:cw q u)(g:gN q=ag)(f:r.units<cLine):sF r z (.ref N) u ag:=by
 cases q with
 |a9=>cases e;exact SY a f|aQ b=>cases e;exact S0 _ a f|c b=>obtain⟨n,rfl⟩:=e;exact Te _ _ a f|d b=>obtain⟨n,rfl⟩:=e;exact Tf _ _ a f|_=>cases g
theorem Zo (a:z.heap.IsList N aa)(e:cw q u)(g:gN q=ag)(f:r.units<cLine):sF r z u (.ref N) ag:=by
 cases q with
 |a9=>cases e;exact S1 a f|aQ b=>cases e;exact S2 _ a f|c b=>obtain⟨n,rfl⟩:=e;exact Tg _ _ a f|d b=>obtain⟨n,rfl⟩:=e;exact Th _ _ a f|_=>cases g
theorem Zp (a:z.heap.IsTuple N aa)(e:cw q u)(g:gN q=ag)(f:r.units<cLine):sF r z (.ref N) u ag:=by
 cases q with
 |a9=>cases e;exact SP a f|aQ b=>cases e;exact SQ _ a f|c b=>obtain⟨n,rfl⟩:=e;exact S3 _ _ a f|d b=>obtain⟨n,rfl⟩:=e;exact S4 _ _ a f|_=>cases g
theorem Zq (a:z.heap.IsTuple N aa)(e:cw q u)(g:gN q=ag)(f:r.units<cLine):sF r z u (.ref N) ag:=by
 cases q with
 |a9=>cases e;exact SR a f|aQ b=>cases e;exact SS _ a f|c b=>obtain⟨n,rfl⟩:=e;exact S5 _ _ a f|d b=>obtain⟨n,rfl⟩:=e;exact S6 _ _ a f|_=>cases g
theorem Zr (g:a5 H aj l Q z){y:Nat}{X q:aS}(Y:hg H.I Q y X q b):∀(r:dM) (v u:bq),r.units+y<cLine->cw X v->cw q u->oS r z v u b:=by
 induction Y with
 |tb p h=>exact λr v u _ a c=>Zh a c p h|aM e d j m Y n=>exact λr v u f a c=>(tc g (.aM e d j m Y) r v u f a c).2 _ _ rfl rfl|rk d j m=>exact λr v u f a c=>(tc g (.rk d j m) r v u f a c).2 _ _ rfl rfl|bb e d j Y n=>exact λr v u f a c=>(tc g (.bb e d j Y) r v u f a c).2 _ _ rfl rfl|iy d j=>exact λr v u f a c=>(tc g (.iy d j) r v u f a c).2 _ _ rfl rfl|iU d j=>exact λr v u f a c=>(tc g (.iU d j) r v u f a c).2 _ _ rfl rfl|vb d h=>intro r v u f a c;cases a;obtain⟨o,_,k,_⟩:=g.d9 d;exact Zj k.isList c h (by lia)
 |vc d h=>intro r v u f a c;cases c;obtain⟨o,_,k,_⟩:=g.d9 d;exact Zk k.isList a h (by lia)
 |vd d h=>intro r v u f a c;cases a;obtain⟨o,_,k,_⟩:=g.gC d;exact Zl k c h (by lia)
 |mZ d h=>intro r v u f a c;cases c;obtain⟨o,_,k,_⟩:=g.gC d;exact Zm k a h (by lia)
 |i_ Y n=>exact λr v u f a c=>n r v u (by lia) a c
def FN (I:bK):ez:=λX q Q o=>∃y b,y<=50/\hg I Q y X q b/\o (.aQ b) Q
theorem Zs (e:H.r.units+60<cLine):dF H (e0 .Eq) (FN H.I):=by
 intro aj z l Q X q v u o a c d Y;obtain⟨y,b,f,Y,V⟩:=Y;exact(Zr a Y _ v u (by lia) c d) _ _ _ _ ⟨.aQ b,Q,a,rfl,V⟩
theorem Zt (g:a5 H aj l Q z){y:Nat}{X q:aS}(Y:hg H.I Q y X q b):∀(r:dM) (v u:bq),r.units+y<cLine->cw X v->cw q u->sF r z v u (!b):=by
 induction Y with
 |tb p h=>exact λr v u _ a c=>Zi a c p h|aM e d j m Y n=>exact λr v u f a c=>xo g (.aM e d j m Y) r v u f a c _ _ rfl rfl|rk d j m=>exact λr v u f a c=>xo g (.rk d j m) r v u f a c _ _ rfl rfl|bb e d j Y n=>exact λr v u f a c=>xo g (.bb e d j Y) r v u f a c _ _ rfl rfl|iy d j=>exact λr v u f a c=>xo g (.iy d j) r v u f a c _ _ rfl rfl|iU d j=>exact λr v u f a c=>xo g (.iU d j) r v u f a c _ _ rfl rfl|vb d h=>intro r v u f a c;cases a;obtain⟨o,_,k,_⟩:=g.d9 d;exact Zn k.isList c h (by lia)
 |vc d h=>intro r v u f a c;cases c;obtain⟨o,_,k,_⟩:=g.d9 d;exact Zo k.isList a h (by lia)
 |vd d h=>intro r v u f a c;cases a;obtain⟨o,_,k,_⟩:=g.gC d;exact Zp k c h (by lia)
 |mZ d h=>intro r v u f a c;cases c;obtain⟨o,_,k,_⟩:=g.gC d;exact Zq k a h (by lia)
 |i_ Y n=>exact λr v u f a c=>n r v u (by lia) a c
def FO (I:bK):ez:=λX q Q o=>∃y b,y<=50/\hg I Q y X q b/\o (.aQ (!b)) Q
theorem Zu (e:H.r.units+60<cLine):dF H (e0 .NotEq) (FO H.I):=by
 intro aj z l Q X q v u o a c d Y;obtain⟨y,b,f,Y,V⟩:=Y;exact(Zt a Y _ v u (by lia) c d) _ _ _ _ ⟨.aQ _,Q,a,rfl,V⟩
end
def FP (I:bK)(R m V:Str)(aX:er):Prop:=∃a w,gL I ft R=D (D (.ref a))/\zz I (.ref a) "__getattribute__"=D (D (.builtin "type.__getattribute__"))/\W.readsIn I a (.type "type")=ag/\W.findCls I (.ref a) (.type "type") m=D (.val (.ref w))/\xG I m V aX w
section
variable {I:bK}{V R m:Str}{aX:er}{w:ba}
theorem FP.iE {a b c:bq}(Y:gL I ft R=D (D (.ref γ)))(af:zz I (.ref γ) "__getattribute__"=D (D (.builtin "type.__getattribute__")))(ai:W.readsIn I γ (.type "type")=ag)(bw:W.findCls I (.ref γ) (.type "type") m=D (.val (.ref w)))
  (s:I.lookup w=D ⟨ε,b5,.func (W.fnOf m V (lp aX) (jo aX) (gg aX) .none a b c ζ δ gM),η⟩) (d:p0 I δ V=ag) (e:k_ I (.ref w)=ag):FP I R m V aX:=⟨γ,w,Y,af,ai,bw,ε,b5,a,b,c,ζ,δ,gM,η,s,d,e⟩
end
noncomputable def m2.R:m2->String
 |.g_ R=>R|.at R _=>R
def Zv (I:bK)(a:String)(n:uL):Prop:=∀N∈n,(if N.2 then Xo I (dz I N.1) (dz I a)else Xn I (dz I N.1) (dz I a))=ag
structure tx (I:bK)(T:ba)(X a:Str)(aX:er)(w:ba)(bP:i4):Prop where
 aT:∃(c:bq) (d:jl) (e f g:bq) (h:jl) (b j:bq) (k:sH),
  bP=W.fnOf X a (lp aX) (jo aX) (gg aX) (.ref T) e f g h b j/\I.lookup w=D ⟨c,d,.func bP,k⟩/\p0 I b a=ag
 mj:k_ I (.ref w)=ag
noncomputable def FQ:aS->bq->Bool
 |.a9,.none=>ag|.c O,.int h _=>O == h|.aQ S,.bool b=>S == b|_,_=>aA
def Bb:bp->dt->Bool
 |[],[]=>ag|X::j,v::a=>FQ X v && Bb j a|_,_=>aA
theorem Zw {X:aS}(Y:FQ X v=ag):cw X v:=by
 unfold FQ at Y;split at Y
 ·rfl
 ·exact⟨_,by rw[eq_of_beq Y]⟩
 ·rw[eq_of_beq Y];rfl
 cases Y
theorem Na:∀{j:bp}{a:dt},Bb j a=ag->b9 j a
 |[],[],_=>.nil|X::j,v::a,Y=>by
  unfold Bb at Y;obtain⟨S,b⟩:=lJ.mp Y;exact .cons (Zw S) (Na b)
 |[],_::_,Y=>by cases Y
 |_::_,[],Y=>by cases Y
def xK (I:bK)(R m V:Str)(aX:er)(fT:bp):Prop:=∃a w T bP b y c d e,gL I ft R=D (D (.ref a))/\jw I (.ref a) m=D (D (.ref w))/\sz I (.ref w)=ag/\tx I T m V aX w bP /\
 I.lookup T=D ⟨c,d,.seq b y,e⟩/\b9 fT b.toList
section
variable {P:dk}{p:cN}{I:bK}{a6:e2}{bj:Heap}{dN:kh}{X V R m:Str}{aX:er}{w:ba}{bP:i4}{aJ:c_}{C:Nat}{cx:gW}
theorem xK.iE {a b c:bq} {y:Nat}(Y:gL I ft R=D (D (.ref γ)))(af:jw I (.ref γ) m=D (D (.ref w)))(ai:sz I (.ref w)=ag)
  (s:I.lookup w=D ⟨ζ,b5,.func (W.fnOf m V (lp aX) (jo aX) (gg aX) (.ref T) a b c η δ gM),θ⟩) (d:p0 I δ V=ag) (e:k_ I (.ref w)=ag) (f:I.lookup T=D ⟨ι,κ,.seq ε y,μ⟩) (g:Bb fT ε.toList=ag):xK I R m V aX fT:=
 ⟨γ,w,T,_,ε,y,ι,κ,μ,Y,af,ai,⟨⟨ζ,b5,a,b,c,η,δ,gM,θ,rfl,s,d⟩,e⟩,f,Na g⟩
def Nb (P:dk)(p:cN)(I:bK)(a6:e2)(bj:Heap)(dN:kh)(C:Nat)(X:Str)(aO:ba)(aJ:c_)(fT:bp)(cx:gW):Prop:=
 ∃w bP ab,gX P p I a6 bj dN C w bP aJ cx/\xa I aO w/\a6 X=D (.ref aO)/\b9 fT ab/\iC I bP aJ ab
abbrev Nc (P:dk)(p:cN)(I:bK)(a6:e2)(bj:Heap)(dN:kh)(C:Nat)(X V:Str)(aX:er)(aJ:c_)(cx:gW):Prop:=∀T w bP,tx I T X V aX w bP->gX P p I a6 bj dN C w bP aJ cx
end
section
variable {P:dk}{p:cN}{I:bK}{a6:e2}{bj:Heap}{V R:Str}{aX:er}{aJ:c_}{C:Nat}
theorem Zx {cx:gW}(h:Nat)(k:lW I a6)(aO:js I R)(F:xK I R "__init__" V aX fT)(l:∀T w bP b y c d f,tx I T "__init__" V aX w bP->I.lookup T=D ⟨c,d,.seq b y,f⟩->b.toList.length=fT.length->iC I bP aJ (b.toList.drop h))
  (Y:Nc P p I a6 bj dN C "__init__" V aX aJ cx):Nb P p I a6 bj dN C R (dz I R) aJ (fT.drop h) cx:=by
 obtain⟨x,w,T,bP,b,y,c,d,f,e,aB,m,F,o,g⟩:=F;obtain⟨z,q,_,_,_,_,s,t⟩:=aO;cases e.symm.trans q;have u:∀{j:bp}{a:dt}(h:Nat),b9 j a->b9 (j.drop h) (a.drop h):=λ{j a} h E=>by
  induction h generalizing j a with
  |zero=>exact E|succ h v=>cases E with |nil=>exact .nil |cons S n=>exact v n
 exact⟨w,bP,b.toList.drop h,Y T w bP F,by rw[s_ e];exact⟨s,aB,m,t⟩,k.oh ⟨_,e⟩,u h g,l T w bP b y c d f F o g.dS.symm⟩
theorem Zy (Y:arr.toList.length=5):∃a b c d e,arr=#[a,b,c,d,e]:=by
 obtain⟨s⟩:=arr;obtain⟨a,s,rfl⟩:=kz Y;obtain⟨b,s,rfl⟩:=kz (fP Y);obtain⟨c,s,rfl⟩:=kz (fP (fP Y));obtain⟨d,s,rfl⟩:=kz (fP (fP (fP Y)));obtain⟨e,rfl⟩:=qW.mp (fP (fP (fP (fP Y))));exact⟨a,b,c,d,e,rfl⟩
end
noncomputable def Bc:kd->dt->Bool
 |[],[]=>ag|X::j,.str G _::a=>G == ⟨X.toArray⟩ && Bc j a|_,_=>aA
theorem Nd:∀{j:kd}{a:dt},Bc j a=ag->b9 (j.map eX) a
 |[],[],_=>.nil|X::j,v::a,Y=>by
  unfold Bc at Y;split at Y
  ·trivial
  ·rename_i aR aB
   cases aR;cases aB;obtain⟨S,b⟩:=lJ.mp Y;exact .cons ⟨_,by rw[eq_of_beq S]⟩ (Nd b)
  cases Y
 |[],_::_,Y=>by cases Y
 |_::_,[],Y=>by cases Y
def xM (I:bK)(X:Str)(j:kd):Prop:=∀Q:ar,fL I Q (dz I X) (j.map eX)
theorem xM.iE {I:bK}{X:Str}{j:kd}{S:ba}{b:jl}{a:me}{y:Nat}{c:sH}(Y:gL I ft X=D (D (.ref S)))(s:I.lookup S=D ⟨.type "tuple",b,.seq a y,c⟩)(d:Bc j a.toList=ag)(e:a.toList.length<=1000):xM I X j:=λQ=>by
 rw[s_ Y];exact .inr ⟨_,a,y,s,rfl,rfl,ka e (by decide),Nd d⟩
instance:Inhabited aS:=⟨.a9⟩
theorem Zz (s:bt):(fW s.length).filterMap (λC=>s[s.length-1-C]?)=s.reverse:=by
 have Y:(fW s.length).map (λC=>s[s.length-1-C]?)=s.reverse.map D:=by
  refine List.ext_getElem (by simp) λO af ai=>?_
  simp_all
 have e:(fW s.length).filterMap (λC=>s[s.length-1-C]?)=((fW s.length).map (λC=>s[s.length-1-C]?)).filterMap id:=by
  rw[zi];rfl
 rw[e,Y,zi];exact List.filterMap_some
theorem ZA (X:Str):(q6 i i (-1) X.length).filterMap (X.cps[·]?)=X.cps.toList.reverse:=by
 have ai:X.cps.toList.length=X.length:=rfl;unfold q6 sliceRange;simp only;rw[if_neg (by decide),if_neg (by decide),if_neg (show¬-1 > 0 by decide),zi,<- Zz]
 have a:(if(X.length:Int)-1 > -1 then((X.length:Int)-1 - -1 - -1-1) / - -1 else 0)=X.length:=by grind
 rw[a];refine Md λC b=>?_
 show X.cps[(X.length-1 + -1*(C:Int)).toNat]?=X.cps.toList[X.length-1-C]?
 rw[show((X.length:Int)-1 + -1*C).toNat=X.length-1-C by lia]
 simp
def Nf (eC:b1)(kI:qd):b1:=λl Q o=>eC l Q λX aw=>kI l aw λA a7=>A=D (-1)/\match X with
 |.d G=>G.cps.toList.length<=cA/\o (eX G.cps.toList.reverse) a7|_=>False
section
variable {H:bU}{e aX:bV}{eC:b1}{kI:qd}{pos dI:Pos}
theorem ZC (k:bu H e eC)(m:sX H (D aX) kI):bu H (.Subscript e (.Slice i i (D aX) dI) pos) (Nf eC kI):=by
 intro aj z l Q o p Y;refine Subscript_ (cv (k aj z l Q _ p Y) λv bf a=>?_)
 obtain⟨X,aw,q,bI,t⟩:=a;have aD:∀(z:bz) (c:bq->bz->Prop),c .none z->bT (model H.cu H.p) H.r (evalPart i H.x) c H.fm z:=λz c V=>by rw[evalPart_none];exact dQ V
 refine wpAny_Slice (aD _ _ (aD _ _ ?_));refine cv (m aj bf l aw _ q t) λE f a=>?_
 obtain⟨A,h,w,x,y,j⟩:=a;subst y;cases X with
 |d G=>
  obtain⟨B,V⟩:=j;obtain⟨n,rfl⟩:=bI;obtain⟨s,rfl,g⟩:=EO x;have C:a5 H aj l h {f with heap:=f.heap.push {cls:=.type "slice",data:=.fields #[.none,.none,partValue s]}}:=w.jm (a:=f.toks) λb F V=>eQ _ V
  refine tail_any  (typeIs_str _ _ _) Kp.lookup ?_ (by with_unfolding_all rfl)
  refine wpAny_getItem_str_slice (l:=i) (u:=i) (st:=s) ⟨_,gK _ rfl,rfl,rfl⟩ (by rw[g];rfl) ?_
  unfold sliceMade;rw[if_neg (by rw[g];simp)]
  have aB:slicePicked G i i s=q6 i i (-1) G.length:=by unfold slicePicked;rw[g];rfl
  rw[aB,ZA];refine⟨?_,eX G.cps.toList.reverse,h,C.fS _,⟨_,rfl⟩,V⟩;show G.cps.toList.reverse.toArray.size<=cA
  rw[fa,Jp];exact B
 |_=>exact j.elim
end
section
variable {prog:dk}{p:cN}{r:dM}{k:bq->bz->Prop}
theorem ZD {s:ba}{X q G u v:bq}(w:r.handled=i)(c:z.heap.IsList s #[X,q,G,u,v])
  (V:∀aF,(∀b A,b≠z.heap.objs.size->z.heap.get? b=D A->aF.get? b=D A)->o [X,q,G,u,v] {z with heap:=aF}):bT (model prog p) r (unpackItems (.ref s) 5 i) o k z:=by
 have ne:s≠z.heap.objs.size:=by obtain⟨A,x,_⟩:=c;exact gz (e1 x)
 unfold unpackItems notIterableAtAll;refine bR (bR (wpAny_specialOf c.typeIs slot_list_iter.lookup (dQ ?_)));rw[if_neg (by decide)]
 refine bR (wpAny_holding (wpAny_pyIter_list c ?_));have y:Heap.IsListIter (z.heap.push {cls:=.type "list_iterator",data:=.fields #[.ref s,.int 0 0]}) z.heap.objs.size s 0:=⟨_,gK _ rfl,rfl,rfl⟩;refine bR (wpAny_holding ?_);show bT _ _ (pyNext _>>=_) _ _ _;refine bR (wpAny_pyNext_list_item y (c.push _) rfl λaf B aR=>?_)
 have d:af.IsList s #[X,q,G,u,v]:=(c.push _).extBut aR.extBut ne;refine bR (wpAny_holding ?_);show bT _ _ (pyNext _>>=_) _ _ _;refine bR (wpAny_pyNext_list_item (s:={z with heap:=af}) B d rfl λai C aB=>?_)
 have f:ai.IsList s #[X,q,G,u,v]:=d.extBut aB.extBut ne;refine bR (wpAny_holding ?_);show bT _ _ (pyNext _>>=_) _ _ _;refine bR (wpAny_pyNext_list_item (s:={z with heap:=ai}) C f rfl λbw E g=>?_)
 have h:bw.IsList s #[X,q,G,u,v]:=f.extBut g.extBut ne;refine bR (wpAny_holding ?_);show bT _ _ (pyNext _>>=_) _ _ _;refine bR (wpAny_pyNext_list_item (s:={z with heap:=bw}) E h rfl λj F l=>?_)
 have m:j.IsList s #[X,q,G,u,v]:=h.extBut l.extBut ne;refine bR (wpAny_holding ?_);show bT _ _ (pyNext _>>=_) _ _ _;refine bR (wpAny_pyNext_list_item (s:={z with heap:=j}) F m rfl λn I t=>?_)
 have J:n.IsList s #[X,q,G,u,v]:=m.extBut t.extBut ne;refine bR (wpAny_holding (dQ (dQ (dQ (dQ (dQ (dQ ?_)))))));rw[if_neg (by simp)]
 refine bR (wpAny_holding (wpAny_pyNext_list_end (s:={z with heap:=n}) w I J rfl λK L=>?_))
 exact dQ (V K λb A a e=>L b A a (t.extBut b A a (l.extBut b A a (g.extBut b A a (aB.extBut b A a (aR.extBut b A a (eQ _ e)))))))
end
section
variable {H:bU}
def FR (I:bK)(n:kH):i7:=λv l Q o=>match v with |.a0 S=>∃X q G u p,d1 I Q S [X,q,G,u,p]/\n [X,q,G,u,p] l Q o |_=>False
theorem ZE {C:Nat}{n:kH}(k:H.fD=ag)(Y:n8 H ax n)
  (p:(j8 ax H.x).length=5:=by rfl) (s:(j8 ax H.x).findIdx? (·.1)=i:=by rfl):kf H (.Tuple ax C pos) (FR H.I n):=by
 intro aj z l Q v u o j E hw;cases v with
 |a0 S=>
  obtain⟨X,q,G,m,y,t,hw⟩:=hw;cases E;obtain⟨w,a,x,_⟩:=j.d9 t;obtain⟨c,d,f,g,h,rfl⟩:∃c d f g h,w=[c,d,f,g,h]:=by
   obtain⟨c,I,rfl⟩:=kz (a.dS.symm);obtain⟨d,eJ,rfl⟩:=kz (fP (a.dS.symm));obtain⟨f,cR,rfl⟩:=kz (fP (fP (a.dS.symm)));obtain⟨g,J,rfl⟩:=kz (fP (fP (fP (a.dS.symm))));obtain⟨h,K,rfl⟩:=kz (fP (fP (fP (fP (a.dS.symm)))));cases qV.mp (fP (fP (fP (fP (fP (a.dS.symm))))));exact⟨c,d,f,g,h,rfl⟩
  rw[SD];refine bR (wpAny_standAt ?_);unfold unpack;rw[p,s];refine bR (wpAny_holding (ZD (j.f.gB k) x.isList λaf B=>?_))
  have F:a5 H aj l Q {z with heap:=af}:=j.jm (a:=z.toks) λb A e=>B b A (gz (e1 e)) e
  exact Y aj _ l Q _ _ o F a hw
 |_=>exact hw.elim
variable {I:bK}{X V:Str}{aX:er}{w:ba}{bP:i4}
theorem ZF {aJ:c_}{T:ba}{t:bq}{u:jl}{v:sH}{x:me}{y:Nat}(B:aJ.length=10)(F:tx I T X V aX w bP)(C:I.lookup T=D ⟨t,u,.seq x y,v⟩)
  (Y:∀(m n o:bq) (p:jl) (q s:bq) (a b c d e f g h j k:bq) (z:bz),(∃A,z.heap.get? T=D A/\A.data=.seq x y)->BindsTo z (W.fnOf X V (lp aX) (jo aX) (gg aX) (.ref T) m n o p q s) ⟨[a,b,c,d,e,f,g,h,j,k],[]⟩ (aJ.zip [a,b,c,d,e,f,g,h,j,k])):
  iC I bP aJ []:=by
 obtain⟨t,u,m,n,o,p,q,s,v,rfl,lk,P⟩:=F.aT;intro z ae E l;rw[B,dm]at l;have l:ae.length=10:=by simpa using l
 obtain⟨a,eJ,rfl,af⟩:=lq l;obtain⟨b,cR,rfl,ai⟩:=lq af;obtain⟨c,Q,rfl,bw⟩:=lq ai;obtain⟨d,R,rfl,G⟩:=lq bw;obtain⟨e,S,rfl,J⟩:=lq G;obtain⟨f,U,rfl,K⟩:=lq J;obtain⟨g,Z,rfl,L⟩:=lq K;obtain⟨h,aa,rfl,M⟩:=lq L;obtain⟨j,ab,rfl,N⟩:=lq M;obtain⟨k,ac,rfl,O⟩:=lq N;cases qV.mp O;exact Y m n o p q s a b c d e f g h j k z ⟨_,E _ _ C,rfl⟩
variable {lt:lK}
def sl (lt:lK)(S b:Nat):Prop:=lt b S=aA/\(lt S b=ag\/S<b)
end
def ZG (I:bK)(R P:ba):Bool:=match I.lookup R with
 |some ⟨.type T,_,.fields a,_⟩=>T=="code" && a[11]?==D (.ref P) && (match a.getD 18 .none,a.getD 7 .none,a.getD 9 .none,a.getD 10 .none with |.str _ _,.int _ _,.bool _,.int _ _=>ag |_,_,_,_=>aA) && R != P|_=>aA
def fN (I:bK)(pos:Pos):Prop:=∃R P,DU I "put_in_order"=D (R,P)/\ZG I R P=ag/\p5 I=D (P,pos,sE "put_in_order" ++ ".<locals>." ++ "<lambda>")
def qn (I:bK):Prop:=W.nsOkIn I cStatics=ag/\gL I cStatics sharingNotToldKey=D i
theorem qn.iE {I:bK}(af:W.nsOkIn I cStatics=ag)(ai:gL I cStatics sharingNotToldKey=D i):qn I:=⟨af,ai⟩
theorem qn.aU {I:bK}{Y:Heap}(y:qn I)(H:I.In Y):NoneBooked Y:=⟨_,.of_isNs (W.isNs_of_in H y.1),W.nsMap_none_of_in H y.1 y.2⟩
def Ng (q G:Str)(to:b1):b1:=λl Q o=>to l Q λv aw=>∃X:Str,v=.d X/\X.length+(X.length+1)*G.length<=16777216/\o (.d (Txt.replace X q G)) aw
section
variable {H:bU}{A e:bV}{to:b1}{fE ie:Pos}
theorem ZH (b:qn H.I)(c:bu H A to)(m:Ma H A "replace" fE (.Constant (.str q) j1 p1) (.Constant (.str G) j2 dI) ie):
  bu H (.Call (.Attribute A "replace" fE) [.Constant (.str q) j1 p1,.Constant (.str G) j2 dI] [] ie) (Ng q G to):=by
 intro aj z l Q o d Y;refine wpAny_Call_method m.bj m.Mb m.line Ko PySem.F.slot_str_replace PySem.F.type_str_replace (cv (c aj z l Q _ d Y) λu bf e=>?_)
 obtain⟨X,aw,a,f,s,aT,g,h⟩:=e;subst aT;obtain⟨n,rfl⟩:=f;refine⟨typeIs_str _ _ _,(λS G=>by cases G),?_⟩
 rw[m.Mc];refine Calls.callWith_builtin rfl (Calls.evalArgs_plain (Calls.spliced_cons (Calls.Constant_str (Calls.spliced_cons (Calls.Constant_str (Calls.spliced_nil ?_))))));have k:=a.tk;exact kE (SC.replaceA (s:={bf with toks:=bf.toks+1+1}) (by lia) (by grind) (by grind) g (λp C j=>⟨.d _,aw,a.fS _ (iq (Du _) j),⟨_,rfl⟩,h⟩) (b.aU a.g9))
section
variable {prog:dk}{p:cN}{r:dM}{k:bq->bz->Prop}{z:bz}{X q:Str}{n u:Tok}{o:bq->bz->Prop}
abbrev xN (o:bq->bz->Prop)(z:bz)(N:Str×Str×Str):Prop:=∀bG dr i8 C,o (.ref z.heap.objs.size) {z with toks:=C,heap:=z.heap.push {cls:=.type "tuple",data:=.seq [.str N.1 bG,.str N.2.1 dr,.str N.2.2 i8].toArray}}
theorem ZI (b:(q.length==0)=aA)(a:xN o z (Txt.partition X q))(c:X.length<=cA):bT (model prog p) r (call (.builtin "str.partition") [.str X n,.str q u]) o k z:=by
 refine call_meets Kj (typeIs_str _ _ _) PySem.F.entry_str_partition (PySem.F.args_str_partition_2 _ _) (meets_str_partition X q n u b c) ?_;unfold xN Txt.partition at a
 revert a
 cases uI X q 0 _ 1 with
 |_=>intro aF;exact aF _ _ _ _
theorem ZJ (b:(q.length==0)=aA)(a:xN o z (Txt.rpartition X q))(c:X.length<=cA):bT (model prog p) r (call (.builtin "str.rpartition") [.str X n,.str q u]) o k z:=by
 refine call_meets Ki (typeIs_str _ _ _) PySem.F.entry_str_rpartition (PySem.F.args_str_rpartition_2 _ _) (meets_str_rpartition X q n u b c) ?_;unfold xN Txt.rpartition at a
 revert a
 cases Sy X q 0 _ with
 |_=>intro aF;exact aF _ _ _ _
end
noncomputable def ZK (N:Str×Str×Str):List aS:=[.d N.1,.d N.2.1,.d N.2.2]
def vy (w:Str->Str->Str×Str×Str):aS->bp->ar->cm->Prop:=λX j Q o=>∃s q:Str,X=.d s/\j=[.d q]/\(q.length == 0)=aA/\s.length<=cA/\∀N,Q N=i->o (.a0 N) (cq Q N (.bb (ZK (w s q))))
section
variable {H:bU}{m:String}{w:Str->Str->Str×Str×Str}
theorem Nh (c:∀{prog:dk}{p:cN}{r:dM}{k:bq->bz->Prop}{z:bz}{X q:Str}{n u:Tok}{o:bq->bz->Prop},(q.length == 0)=aA->xN o z (w X q)->X.length<=cA->bT (model prog p) r (call (.builtin m) [.str X n,.str q u]) o k z):o7 H m (vy w):=by
 intro aj z l Q X j v ae o a d e Y;obtain⟨s,q,rfl,rfl,f,g,V⟩:=Y;obtain⟨C,rfl⟩:=d;obtain⟨u,rfl,h⟩:=e.cW;obtain⟨t,rfl⟩:=h;refine kE (c f (λbG dr i8 C=>?_) g)
 intro x;refine⟨.a0 _,_,a.hx   (λb y V=>eQ _ V) (cZ _) ?_,rfl,V _ (a.cL.fK (cZ _))⟩
 exact⟨by show 3<=cA;rw[sizeLine_eq];lia,_,.cons ⟨_,rfl⟩ (.cons ⟨_,rfl⟩ (.cons ⟨_,rfl⟩ .nil)),⟨_,gK _ rfl,rfl,_,rfl⟩⟩
theorem ZL:o7 H "str.partition" (vy Txt.partition):=Nh ZI
theorem ZM:o7 H "str.rpartition" (vy Txt.rpartition):=Nh ZJ
end
def ZN (I:bK)(S:ba)(j:bp):Prop:=∃(A:l8) (a:me) (y:Nat),I.lookup S=D A/\A.cls=.type "tuple" /\ A.data=.seq a y/\a.size<=cA/\b9 j a.toList
def Ni (I:bK):List DictEntry->List (bt×bp)->Prop
 |[],a=>a=[]|e::ax,a=>∃E b,a=E::b/\(∃n N,e.key=.str ⟨E.1.toArray⟩ n/\e.val=.ref N/\ZN I N E.2)/\Ni I ax b
def ZO (p:cN)(I:bK)(X:Str)(a:List (bt×bp)):Prop:=∃S ax y,gL I ft X=D (D (.ref S))/\I.lookup S=D ⟨.type "dict",i,.dict ax y,#[]⟩/\W.KeysLit p.params ax.toList/\(S==sysModules)=aA/\Ni I ax.toList a
end
end L2
namespace VI
open PySem PySem.Spec PyProof.Rows L2
inductive iF where
 |bb |aM |gP (a:List ey)|dV (R:Str) (b:List Str)|dR |iW |qo (R:String)
 deriving DecidableEq
inductive aq where
 |a9 |aQ (b:Bool)|c (O:Int)|d (s:List Nat)|az (C:iF) (ab:List aq)|aL (t:aq)|e5 (v:aS)|e4
abbrev Bd:=aq->aq->Option Bool
abbrev pl:=Mo (List aq)
abbrev m5:=Option aq
abbrev bO:=List aq
abbrev eY:=Mo aq
def Be (I:cO)(S:ba)(j:bp):Prop:=∃(A:l8) (a:me) (y:Nat),I.lookup S=D A/\A.cls=.type "tuple" /\ A.data=.seq a y/\a.size<=cA/\b9 j a.toList
def nF (I:cO)(C:iF)(N:ba)(ae:bp)(Q:ar):Prop:=match C with
 |.bb=>Q N=D (.bb ae)|.aM=>Q N=D (.aM ae)|.dR=>d1 I Q N ae|.iW=>Be I N ae|.qo R=>ae=[]/\∃t,Q N=D (Xg N (dz I R) t)|.gP a=>eg Q N (.eN (a.zip ae))/\a.length=ae.length/\a.Nodup|.dV R b=>∃bS,Q N=D (.fg (dz I R) bS (b.zip ae))/\b.length=ae.length
theorem vz {Q ay:ar}(g:bx Q ay)(Y:eg Q N u):eg ay N u:=Y.imp (g _ _) λ⟨A,e⟩=>⟨A,g _ _ e⟩
theorem nF.bQ {I:cO}{C:iF}{N:ba}{ae:bp}{Q ay:ar}(g:bx Q ay)(Y:nF I C N ae Q):nF I C N ae ay:=by
 cases C with
 |dR=>exact g.seq Y|iW=>exact Y|qo R=>exact⟨Y.1,Y.2.imp λ_ e=>g _ _ e⟩|gP a=>exact⟨vz g Y.1,Y.2⟩|dV R b=>obtain⟨bS,e,s⟩:=Y;exact⟨bS,g _ _ e,s⟩|_=>exact g _ _ Y
mutual
def bD (I:cO):aq->aS->ar->Prop
 |.a9,v,_=>v=.a9|.aQ b,v,_=>v=.aQ b|.c O,v,_=>v=.c O|.d s,v,_=>v=eX s|.az C ab,v,Q=>∃N ae,v=.a0 N/\nF I C N ae Q/\cc I ab ae Q|.aL t,v,Q=>bD I t v Q|.e5 u,v,_=>v=u|.e4,_,_=>True
def cc (I:cO):List aq->bp->ar->Prop
 |[],ae,_=>ae=[]|t::ab,ae,Q=>∃v a,ae=v::a/\bD I t v Q/\cc I ab a Q
end
def FT (I:cO)(Q ay:ar):Prop:=∀C N ae,nF I C N ae Q->nF I C N ae ay
theorem bD.i_ {I:cO}{Q ay:ar}(g:FT I Q ay):∀{t:aq}{v:aS},bD I t v Q->bD I t v ay
 |.a9,_,Y=>by assumption
 |.aQ _,_,Y=>by assumption
 |.c _,_,Y=>by assumption
 |.d _,_,Y=>by trivial
 |.e5 _,_,Y=>by assumption
 |.e4,_,Y=>by trivial
 |.aL t,_,Y=>by unfold bD at Y ⊢;exact bD.i_ g Y
 |.az C ab,_,Y=>by obtain⟨N,ae,e,y,E⟩:=Y;exact⟨N,ae,e,g _ _ _ y,eU E⟩
where eU:∀{ab:bO}{ae:bp},cc I ab ae Q->cc I ab ae ay
 |[],_,Y=>by assumption
 |t::ab,_,Y=>by unfold cc at Y ⊢;obtain⟨v,a,e,S,E⟩:=Y;exact⟨v,a,e,bD.i_ g S,eU E⟩
theorem Bf {I:cO}{Q ay:ar}(g:bx Q ay):FT I Q ay:=λ_ _ _ y=>y.bQ g
theorem bD.bQ {I:cO}{Q ay:ar}(g:bx Q ay){t:aq}{v:aS}(Y:bD I t v Q):bD I t v ay:=Y.i_ (Bf g)
theorem cc.bQ {I:cO}{Q ay:ar}(g:bx Q ay){ab:bO}{ae:bp}(Y:cc I ab ae Q):cc I ab ae ay:=bD.i_.eU (Bf g) Y
theorem cc.lV {I:cO}{Q:ar}:∀{ab:bO}{ae:bp},cc I ab ae Q↔Paired (λt v=>bD I t v Q) ab ae
 |[],ae=>⟨λY=>by subst Y;exact .nil,λY=>by cases (Y);rfl⟩|t::ab,ae=>⟨λY=>by obtain⟨v,a,rfl,S,E⟩:=Y;exact .cons S (cc.lV.mp E),λY=>by
  cases Y with |cons S E=>exact⟨_,_,rfl,S,cc.lV.mpr E⟩⟩
mutual
noncomputable def aq.e8:aq->Bool
 |.az .bb ab=>aq.mA ab|.az .iW ab=>aq.mA ab|.az _ _=>aA|.aL t=>t.e8|.e5 _=>aA|.e4=>aA|_=>ag
noncomputable def aq.mA:bO->Bool
 |[]=>ag|t::ab=>t.e8 && aq.mA ab
end
mutual
def aq.el:aq->Bool
 |.az _ ab=>aq.lr ab|.aL t=>t.e8|.e5 _=>aA|.e4=>aA|_=>ag
def aq.lr:bO->Bool
 |[]=>ag|t::ab=>t.el && aq.lr ab
end
def m6 (I:cO)(C:iF)(N:ba)(ae:bp)(F Y:ar):Prop:=match C with
 |.bb=>F N=D (.bb ae)/\∀V,Y V=i|.dR=>False|.qo _=>False|.iW=>Be I N ae/\∀V,Y V=i|.aM=>Y=cW N (.aM ae)|.gP a=>Y=cW N (.eN (a.zip ae))/\a.length=ae.length/\a.Nodup|.dV R b=>∃bS,bS≠N/\Y=jR N bS (.fg (dz I R) bS (b.zip ae))/\b.length=ae.length
mutual
def bC (I:cO):aq->aS->ar->ar->Prop
 |.az C ab,v,F,Y=>∃N ae a ai,v=.a0 N/\m6 I C N ae F a/\cQ a ai Y/\bL I ab ae F ai|t,v,F,Y=>(∀N,Y N=i)/\bD I t v F
def bL (I:cO):List aq->bp->ar->ar->Prop
 |[],ae,_,Y=>ae=[]/\∀N,Y N=i|t::ab,ae,F,Y=>∃v a af ai,ae=v::a/\cQ af ai Y/\bC I t v F af/\bL I ab a F ai
end
section
variable {I:jv}{F a4 Y af ai Q:ar}{t:aq}{ab:bO}{v:aS}{ae:bp}{C:iF}{N:ba}
theorem kk:cW N A V=if V=N then D A else i:=rfl
theorem m6.bQ (g:tf F a4)(R:m6 I C N ae F Y):m6 I C N ae a4 Y:=by
 cases C with
 |bb=>exact⟨g _ _ R.1,R.2⟩|_=>exact R
theorem m6.mv (R:m6 I C N ae F Y)(V:ba)(j:bp):Y V≠D (.bb j):=by
 cases C with
 |dR=>exact fX R|qo _=>exact fX R|aM=>rw[R,kk];simp_all|gP a=>rw[R.1,kk];simp_all|dV cS b=>
  obtain⟨bS,y,e,s⟩:=R;rw[e];unfold jR;lia |_=>rw[R.2];simp_all
theorem m6.az (R:m6 I C N ae F Y)(g:bx F Q)(a:bx Y Q):nF I C N ae Q:=by
 cases C with
 |bb=>exact g _ _ R.1|iW=>exact R.1|dR=>exact fX R|qo _=>exact fX R|aM=>exact a _ _ (by rw[show Y=_ from R];exact jQ)|gP b=>exact⟨.inl (a _ _ (by rw[R.1];exact jQ)),R.2⟩|dV cS c=>obtain⟨bS,y,e,s⟩:=R;exact⟨bS,a _ _ (by rw[e];exact A7),s⟩
theorem bC.i_ (g:FT I F a4):∀{t:aq}{v:aS}{Y:ar},bC I t v F Y->bC I t v a4 Y
 |.az C ab,_,_,V=>by unfold bC at V ⊢;obtain⟨N,ae,b,ai,e,R,h,E⟩:=V;exact⟨N,ae,b,ai,e,R.bQ (g .bb),h,eU E⟩
 |.a9,_,_,V=>by trivial
 |.aQ _,_,_,V=>by assumption
 |.c _,_,_,V=>by assumption
 |.d _,_,_,V=>by assumption
 |.aL _,_,_,V=>⟨V.1,V.2.i_ g⟩|.e5 _,_,_,V=>by assumption
 |.e4,_,_,V=>by assumption
where eU:∀{ab:bO}{ae:bp}{Y:ar},bL I ab ae F Y->bL I ab ae a4 Y
 |[],_,_,V=>by assumption
 |t::ab,_,_,V=>by unfold bL at V ⊢;obtain⟨v,a,af,ai,e,h,S,E⟩:=V;exact⟨v,a,af,ai,e,h,bC.i_ g S,eU E⟩
theorem bC.bQ (g:bx F a4){t:aq}{v:aS}{Y:ar}(V:bC I t v F Y):bC I t v a4 Y:=V.i_ (Bf g)
theorem bC.bQ.eU (g:bx F a4) {Y:ar}(V:bL I ab ae F Y):bL I ab ae a4 Y:=bC.i_.eU (Bf g) V
theorem bC.mv:∀{t:aq}{v:aS}{Y:ar},bC I t v F Y->∀N j,Y N≠D (.bb j)
 |.az C ab,_,_,V,N,j=>by
  unfold bC at V;obtain⟨_,ae,b,ai,e,R,h,E⟩:=V;rcases h N with⟨_,q⟩|⟨_,q⟩
  ·rw[q];exact eU E N j
  ·rw[q];exact R.mv N j
 |.a9,_,_,V,N,j=>by unfold bC at V;rw[V.1];exact λG=>by cases G
 |.aQ _,_,_,V,N,j=>by unfold bC at V;rw[V.1];exact λG=>by cases G
 |.c _,_,_,V,N,j=>by unfold bC at V;rw[V.1];exact λG=>by cases G
 |.d _,_,_,V,N,j=>by unfold bC at V;rw[V.1];exact λG=>by cases G
 |.aL _,_,_,V,N,j=>by unfold bC at V;rw[V.1];exact λG=>by cases G
 |.e5 _,_,_,V,N,j=>by unfold bC at V;rw[V.1];exact λG=>by cases G
 |.e4,_,_,V,N,j=>by unfold bC at V;rw[V.1];exact λG=>by cases G
where eU:∀{ab:bO}{ae:bp}{Y:ar},bL I ab ae F Y->∀N j,Y N≠D (.bb j)
 |[],_,_,V,N,j=>by unfold bL at V;rw[V.2];exact λG=>by cases G
 |t::ab,_,_,V,N,j=>by
  unfold bL at V;obtain⟨v,a,af,ai,e,h,S,E⟩:=V;rcases h N with⟨_,q⟩|⟨_,q⟩
  ·rw[q];exact eU E N j
  ·rw[q];exact bC.mv S N j
theorem bC.xO (g:bx F Q):∀{t:aq}{v:aS}{Y:ar},bx Y Q->bC I t v F Y->bD I t v Q
 |.az C ab,_,_,b,V=>by
  unfold bC at V;unfold bD;obtain⟨N,ae,c,ai,e,R,h,E⟩:=V;exact⟨N,ae,e,R.az g (h.s.ct b),eU (h.E.ct b) E⟩
 |.a9,_,_,_,V=>by unfold bC at V;exact V.2.bQ g
 |.aQ _,_,_,_,V=>by unfold bC at V;exact V.2.bQ g
 |.c _,_,_,_,V=>by unfold bC at V;exact V.2.bQ g
 |.d _,_,_,_,V=>by unfold bC at V;exact V.2.bQ g
 |.aL _,_,_,_,V=>by unfold bC at V;exact V.2.bQ g
 |.e5 _,_,_,_,V=>by unfold bC at V;exact V.2.bQ g
 |.e4,_,_,_,V=>by unfold bC at V;exact V.2.bQ g
where eU:∀{ab:bO}{ae:bp}{Y:ar},bx Y Q->bL I ab ae F Y->cc I ab ae Q
 |[],_,_,_,V=>by unfold bL at V;unfold cc;exact V.1
 |t::ab,_,_,b,V=>by
  unfold bL at V;unfold cc;obtain⟨v,a,af,ai,e,h,S,E⟩:=V;exact⟨v,a,e,bC.xO g (h.s.ct b) S,eU (h.E.ct b) E⟩
theorem bD.e8 (g:tf F a4):∀{t:aq}{v:aS},t.e8=ag->bD I t v F->bD I t v a4
 |.az .bb ab,_,G,V=>by obtain⟨N,ae,e,y,E⟩:=V;exact⟨N,ae,e,g _ _ y,eU G E⟩
 |.az .iW ab,_,G,V=>by obtain⟨N,ae,e,y,E⟩:=V;exact⟨N,ae,e,y,eU G E⟩
 |.az .dR _,_,G,_=>by simp[aq.e8]at G
 |.az (.qo _) _,_,G,_=>by trivial
 |.az .aM _,_,G,_=>by trivial
 |.az (.gP _) _,_,G,_=>by trivial
 |.az (.dV _ _) _,_,G,_=>by trivial
 |.a9,_,_,V=>by assumption
 |.aQ _,_,_,V=>by assumption
 |.c _,_,_,V=>by assumption
 |.d _,_,_,V=>by assumption
 |.aL t,_,G,V=>by unfold bD at V ⊢;exact bD.e8 g G V
 |.e5 _,_,G,_=>by trivial
 |.e4,_,G,_=>by trivial
where eU:∀{ab:bO}{ae:bp},aq.mA ab=ag->cc I ab ae F->cc I ab ae a4
 |[],_,_,V=>by assumption
 |t::ab,_,G,V=>by
  unfold aq.mA at G;obtain⟨b,c⟩:=lJ.mp G;obtain⟨v,a,e,S,E⟩:=V;exact⟨v,a,e,bD.e8 g b S,eU c E⟩
theorem bC.FU (b:∀N,Y N=i):∀{t:aq}{v:aS},t.e8=ag->bD I t v F->bC I t v F Y
 |.az .bb ab,_,G,V=>by
  unfold aq.e8 at G;unfold bD at V;unfold bC;obtain⟨N,ae,e,y,E⟩:=V;exact⟨N,ae,Y,Y,e,⟨y,b⟩,λV=>.inl ⟨b V,rfl⟩,eU G E⟩
 |.az .iW ab,_,G,V=>by
  unfold aq.e8 at G;unfold bD at V;unfold bC;obtain⟨N,ae,e,y,E⟩:=V;exact⟨N,ae,Y,Y,e,⟨y,b⟩,λV=>.inl ⟨b V,rfl⟩,eU G E⟩
 |.az .dR _,_,G,_=>by simp[aq.e8]at G
 |.az (.qo _) _,_,G,_=>by simp[aq.e8]at G
 |.az .aM _,_,G,_=>by simp[aq.e8]at G
 |.az (.gP _) _,_,G,_=>by simp[aq.e8]at G
 |.az (.dV _ _) _,_,G,_=>by simp[aq.e8]at G
 |.a9,_,_,V=>by unfold bC;exact⟨b,V⟩
 |.aQ _,_,_,V=>by unfold bC;exact⟨b,V⟩
 |.c _,_,_,V=>by unfold bC;exact⟨b,V⟩
 |.d _,_,_,V=>by unfold bC;exact⟨b,V⟩
 |.aL t,_,_,V=>by unfold bC;exact⟨b,V⟩
 |.e5 _,_,G,_=>by simp[aq.e8]at G
 |.e4,_,G,_=>by simp[aq.e8]at G
where eU:∀{ab:bO}{ae:bp},aq.mA ab=ag->cc I ab ae F->bL I ab ae F Y
 |[],_,_,V=>by unfold cc at V;unfold bL;exact⟨V,b⟩
 |t::ab,_,G,V=>by
  unfold aq.mA at G;obtain⟨c,d⟩:=lJ.mp G;unfold cc at V;unfold bL;obtain⟨v,a,e,S,E⟩:=V;exact⟨v,a,Y,Y,e,λV=>.inl ⟨b V,rfl⟩,bC.FU b c S,eU d E⟩
theorem bC.Nj (g:tf F a4):∀{t:aq}{v:aS}{Y:ar},t.el=ag->bC I t v F Y->bC I t v a4 Y
 |.az C ab,_,_,G,V=>by unfold aq.el at G;unfold bC at V ⊢;obtain⟨N,ae,b,ai,e,R,h,E⟩:=V;exact⟨N,ae,b,ai,e,R.bQ g,h,eU G E⟩
 |.a9,_,_,_,V=>by unfold bC at V ⊢;exact⟨V.1,V.2.e8 g rfl⟩
 |.aQ _,_,_,_,V=>by unfold bC at V ⊢;exact⟨V.1,V.2.e8 g rfl⟩
 |.c _,_,_,_,V=>by unfold bC at V ⊢;exact⟨V.1,V.2.e8 g rfl⟩
 |.d _,_,_,_,V=>by unfold bC at V ⊢;exact⟨V.1,V.2.e8 g rfl⟩
 |.aL t,_,_,G,V=>by unfold aq.el at G;unfold bC at V ⊢;exact⟨V.1,V.2.e8 g (by unfold aq.e8;exact G)⟩
 |.e5 _,_,_,G,_=>by simp[aq.el]at G
 |.e4,_,_,G,_=>by simp[aq.el]at G
where eU:∀{ab:bO}{ae:bp}{Y:ar},aq.lr ab=ag->bL I ab ae F Y->bL I ab ae a4 Y
 |[],_,_,_,V=>by unfold bL at V ⊢;exact V
 |t::ab,_,_,G,V=>by
  unfold aq.lr at G;obtain⟨c,d⟩:=lJ.mp G;unfold bL at V ⊢;obtain⟨v,a,af,ai,e,h,S,E⟩:=V;exact⟨v,a,af,ai,e,h,bC.Nj g c S,eU d E⟩
end
abbrev gb (I:cO):hC aq:=⟨bD I,λg Y=>Y.bQ g⟩
abbrev gG (I:cO):lS aq:=⟨bC I,gb I,λg Y=>Y.bQ g,λt Y=>bC.xO mw (ro t) Y,λY=>Y.mv⟩
noncomputable abbrev aZ:=List m5
def nA (I:cO):Option aq->ih
 |none=>.od|some t=>.qh (gG I) t
abbrev hh (I:cO)(x:aZ):List ih:=x.map (nA I)
noncomputable def aq.aK:aq->aq
 |.aL t=>t.aK|t=>t
def aq.bM (t:aq):aq:=if t.e8 then t else match t with |.aL _=>t |_=>.aL t
section
variable {I:jv}{k:cg}{F Y af ai Q:ar}{t:aq}{ab:bO}{v:aS}{ae:bp}{C:iF}{N:ba}{o:cm}
theorem bD.aK:∀{t:aq},bD I t v Q->bD I t.aK v Q
 |.aL t,V=>by unfold aq.aK;exact bD.aK V
 |.a9,V=>V|.aQ _,V=>V|.c _,V=>V|.d _,V=>V|.az _ _,V=>V|.e5 _,V=>V|.e4,V=>V
theorem bD.c {O:Int}(Y:bD I (.c O) v Q):v=.c O:=by assumption
theorem bD.d {s:bt}(Y:bD I (.d s) v Q):v=eX s:=by assumption
theorem bD.aQ (Y:bD I (.aQ b) v Q):v=.aQ b:=by assumption
theorem bD.a9 (Y:bD I .a9 v Q):v=.a9:=by assumption
theorem bD.az (Y:bD I (.az C ab) v Q):∃N ae,v=.a0 N/\nF I C N ae Q/\cc I ab ae Q:=by assumption
theorem bC.bM (a:∀N,Y N=i)(E:bD I t v F):bC I t.bM v F Y:=by
 unfold aq.bM;split
 ·exact bC.FU a (by assumption) E
 ·split
  ·trivial
  trivial
theorem bL.bM (b:∀N,Y N=i):∀{ab:bO}{ae:bp},cc I ab ae F->bL I (ab.map aq.bM) ae F Y
 |[],_,V=>by trivial
 |t::ab,_,V=>by
  obtain⟨v,a,e,S,E⟩:=V;exact⟨v,a,Y,Y,e,λV=>.inl ⟨b V,rfl⟩,bC.bM b S,bL.bM b E⟩
theorem cc.cn (Y:cc I ab ae Q):ab.length=ae.length:=Paired.length (cc.lV.mp Y)
theorem cc.g8 (Y:cc I ab ae Q)(O:Nat):(ab[O]?=i/\ae[O]?=i)\/∃t v,ab[O]?=D t/\ae[O]?=D v/\bD I t v Q:=fM.g8 (T:=gb I) (cc.lV.mp Y) O
theorem cc.vA (S:cc I ab ae Q)(b:cc I ax aH Q):cc I (ab++ax) (ae++aH) Q:=cc.lV.mpr (fM.dE (T:=gb I) (cc.lV.mp S) (cc.lV.mp b))
theorem cc.dW (Y:cc I ab ae Q){O:Int}(e:dW ab O=D t):∃v,L2.dW ae O=D v/\bD I t v Q:=XQ (T:=gb I) (cc.lV.mp Y) e
theorem Bg (V:cC I (.f t.bM) k F Q (fF (gG I) Q o))(a:bx F Q)(E:bD I t v F):o v Q:=
 V.f a v (λ_=>i) (λN G=>absurd rfl G) (λN=>.inr rfl) (λN A G=>by cases G) (bC.bM (λ_=>rfl) E)
theorem tA (V:cC I (.f t) k F Q (fF (gG I) Q o))(a:bx F Q)(E:bD I t v F)(O:t.e8=ag:=by rfl):o v Q:=
 V.f a v _ (λN G=>absurd rfl G) (λN=>.inr rfl) (λN A G=>by cases G) (bC.FU (λ_=>rfl) O E)
theorem mB {O:Int}(V:cC I (.f (.c O)) k F Q (fF (gG I) Q o))(a:bx F Q):o (.c O) Q:=tA V a (rfl)
theorem nG {O:bt}(V:cC I (.f (.d O)) k F Q (fF (gG I) Q o))(a:bx F Q):o (eX O) Q:=tA V a (rfl)
theorem jS {O:Bool}(V:cC I (.f (.aQ O)) k F Q (fF (gG I) Q o))(a:bx F Q):o (.aQ O) Q:=tA V a (rfl)
theorem ZP (V:cC I (.f .a9) k F Q (fF (gG I) Q o))(a:bx F Q):o .a9 Q:=tA V a (rfl)
theorem hi {Y:ar}(G:ar)(a:∀N,G N=i):cQ Y G Y:=λN=>.inr ⟨a N,rfl⟩
theorem nH (V:cC I (.f (.az .aM (ab.map .bM))) k F Q (fF (gG I) Q o))(c:bx F Q)(a:Q N=i)(E:cc I ab ae F):o (.a0 N) (cq Q N (.aM ae)):=by
 refine V F _ (.heap c (pb a _)) (.a0 N) (cW N (.aM ae)) (λb G=>?_) (λb=>?_) (λb A G=>?_) ?_
 ·rw[kk]at G;split at G
  ·rename_i e;rw[e];exact a
  ·exact absurd rfl G
 ·rw[kk];split
  ·rename_i e;rw[e];exact .inl (c.cz a)
  ·exact .inr rfl
 ·rw[kk]at G;split at G
  ·rename_i e;rw[e];cases G;exact jL
  ·cases G
 ·show bC I _ _ _ _
  unfold bC;exact⟨N,ae,_,λ_=>i,rfl,rfl,hi _ λ_=>rfl,bL.bM (λ_=>rfl) E⟩
def FV (S b:aq):Mo aq:=match S.aK,b.aK with
 |.c O,.c h=>.f (.c (O+h))|.d X,.d q=>.ei (X.length+q.length) (.f (.d (X++q)))|.az .aM j,.az .aM aV=>.ei (j.length+aV.length) (.f (.az .aM ((j++aV).map .bM)))|_,_=>.aU
abbrev iG (I:cO)(m:ez)(k:cg)(g:aq->aq->eY):Prop:=Mj I m k (gb I) (gb I) g (gG I)
theorem ZQ:iG I EP k FV:=by
 intro S b X q F Q o d a c V;have a:=bD.aK a;have c:=bD.aK c;unfold FV at V;split at V
 ·rename_i aR aB;rw[aR]at a;rw[aB]at c;cases a.c;cases c.c;exact mB V d
 ·rename_i aR aB;rw[aR]at a;rw[aB]at c;cases a.d;cases c.d
  obtain⟨R,V⟩:=V.ei;exact⟨R,nG V d⟩
 ·rename_i aR aB;rw[aR]at a;rw[aB]at c
  obtain⟨N,ae,rfl,y,E⟩:=a.az;obtain⟨dI,aH,rfl,d_,bW⟩:=c.az;obtain⟨R,V⟩:=V.ei;exact⟨ae,aH,d _ _ y,d _ _ d_,by rwa[<- E.cn,<- bW.cn],λs e=>nH V d e (E.vA bW)⟩
 exact V.elim
def oi (g:Int->Int->eY)(S b:aq):Mo aq:=match S.aK,b.aK with |.c O,.c h=>g O h |_,_=>.aU
theorem xP {g:q8}{w:Int->Int->aq}(Y:∀O h F,bD I (w O h) (g O h) F)(d:∀O h,(w O h).e8=ag):iG I (s6 g) k (oi λO h=>.f (w O h)):=by
 intro S b X q F Q o e a c V;have a:=bD.aK a;have c:=bD.aK c;unfold oi at V;split at V
 ·rename_i aR aB;rw[aR]at a;rw[aB]at c;cases a.c;cases c.c;exact tA V e (Y _ _ _) (d _ _)
 exact V.elim
theorem Nk [∀O h,Decidable (aO O h)]{g:q8}{w:Int->Int->aq}(Y:∀O h F,bD I (w O h) (g O h) F)(d:∀O h,(w O h).e8=ag):iG I (xg aO g) k (oi λO h=>.ea (aO O h) (.f (w O h))):=by
 intro S b X q F Q o e a c V;have a:=bD.aK a;have c:=bD.aK c;unfold oi at V;split at V
 ·rename_i aR aB;rw[aR]at a;rw[aB]at c;cases a.c;cases c.c
  obtain⟨R,V⟩:=V.ea;exact⟨R,tA V e (Y _ _ _) (d _ _)⟩
 exact V.elim
abbrev FW:=oi λO h=>.f (.c (O-h))
abbrev Bh:=oi λO h=>.ea (0<h) (.f (.c (O % h)))
abbrev xQ:=oi λO h=>.ea (vm O h) (.f (.c (O / h)))
theorem ZR:iG I ES k FW:=xP (λ_ _ _=>rfl) λ_ _=>rfl
theorem ZS:iG I ET k Bh:=Nk  (λ_ _ _=>rfl) λ_ _=>rfl
theorem ZT:iG I Fm k xQ:=Nk (λ_ _ _=>rfl) λ_ _=>rfl
abbrev FX:=oi λO h=>.f (.aQ (decide (O<=h)))
abbrev FY:=oi λO h=>.f (.aQ (decide (h<O)))
abbrev FZ:=oi λO h=>.f (.aQ (decide (h<=O)))
abbrev F0:=oi λO h=>.f (.aQ (decide (O<h)))
theorem ZU:iG I EV k FX:=xP (λ_ _ _=>rfl) λ_ _=>rfl
theorem ZV:iG I EW k FY:=xP (λ_ _ _=>rfl) λ_ _=>rfl
theorem ZW:iG I EX k FZ:=xP (λ_ _ _=>rfl) λ_ _=>rfl
theorem ZX:iG I EU k F0:=xP (λ_ _ _=>rfl) λ_ _=>rfl
def oj (S b:aq):Mo aq:=match S.aK,b.aK with
 |.c O,.c h=>.ea (IntMulOk O h) (.f (.c (O*h)))|.d X,.c y=>.ea (xx X.length y) (.f (.d (m4 X y)))|.az .aM j,.c y=>.ea (xx j.length y) (.f (.az .aM ((m4 j y).map .bM)))|_,_=>.aU
theorem cc.Ak (E:cc I ab ae Q)(y:Int):cc I (m4 ab y) (m4 ae y) Q:=cc.lV.mpr (Ye (T:=gb I) (cc.lV.mp E) y)
theorem cc.F1 (E:cc I ab ae Q)(a8 aE:eR):cc I (fU ab a8 aE) (rg ae a8 aE) Q:=cc.lV.mpr (XU (T:=gb I) (cc.lV.mp E) a8 aE)
theorem ZY:iG I Fp k oj:=by
 intro S b X q F Q o d a c V;have a:=bD.aK a;have c:=bD.aK c;unfold oj at V;split at V
 ·rename_i aR aB;rw[aR]at a;rw[aB]at c;cases a.c;cases c.c
  obtain⟨R,V⟩:=V.ea;exact⟨R,mB V d⟩
 ·rename_i aR aB;rw[aR]at a;rw[aB]at c;cases a.d;cases c.c
  obtain⟨R,V⟩:=V.ea;exact⟨R,nG V d⟩
 ·rename_i aR aB;rw[aR]at a;rw[aB]at c
  obtain⟨N,ae,rfl,y,E⟩:=a.az;cases c.c;obtain⟨R,V⟩:=V.ea;exact⟨ae,d _ _ y,by rwa[<- E.cn],λs e=>nH V d e (E.Ak _)⟩
 exact V.elim
def F2 (S b:aq):Mo aq:=match b.aK with
 |.c O=>(match S.aK with
  |.az C j=>(match C with |.aM=>.fj ((dW j O).map .bM)|.bb=>.fj ((dW j O).map .bM)|.dR=>.fj ((dW j O).map .bM)|.iW=>.fj ((dW j O).map .bM)|_=>.aU)|.d s=>.ei s.length (.fj ((dW s O).map λR=>.d [R]))|_=>.aU)
 |_=>.aU
theorem Bi {O:Int}(a:bx F Q)(y:d1 I Q N ae\/fL I Q N ae)(E:cc I ab ae F)(V:cC I (.fj ((dW ab O).map .bM)) k F Q (fF (gG I) Q o)):Aw I (.a0 N) (.c O) Q o:=by
 obtain⟨t,e,V⟩:=V.fj;obtain⟨eh,b,rfl⟩:=iR.mp e;obtain⟨v,aB,c⟩:=E.dW b;refine⟨ae,y,?_⟩;rw[aB];exact Bg V a c
theorem ZZ:iG I (Aw I) k F2:=by
 intro S b X q F Q o a f g V;have f:=bD.aK f;have g:=bD.aK g;unfold F2 at V;cases aB:b.aK with
 |c O=>
  rw[aB]at V g;cases g.c;cases aR:S.aK with
  |az C j=>
   rw[aR]at V f;obtain⟨N,ae,rfl,y,E⟩:=f.az;cases C with
   |aM=>exact Bi a (.inl (.of (a _ _ y))) E V|bb=>exact Bi a (.inr (.of (a _ _ y))) E V|dR=>exact Bi a (.inl (a.seq y)) E V|iW=>exact Bi a (.inr (.inr y)) E V|_=>exact V.elim
  |d s=>
   rw[aR]at V f;cases f.d;obtain⟨G,V⟩:=V.ei;obtain⟨t,e,V⟩:=V.fj;obtain⟨R,h,rfl⟩:=iR.mp e;refine⟨G,?_⟩;rw[h];exact nG V a
  |_=>rw[aR]at V;exact V.elim
 |_=>rw[aB]at V;exact V.elim
def nI (t:aq):Option ey:=match t.aK with
 |.c O=>D (.inl O)|.d s=>D (.inr ⟨s.toArray⟩)|_=>i
theorem xR {C:ey}(e:nI t=D C)(Y:bD I t v Q):rn v=D C/\v=iv C:=by
 have Y:=bD.aK Y;unfold nI at e;cases a:t.aK with
 |c O=>rw[a]at e Y;cases e;cases Y.c;trivial|d s=>rw[a]at e Y;cases e;cases Y.d;trivial|_=>simp_all
def om (a:kD)(ab:bO)(C:ey):Option aq:=((a.zip ab).find? λV=>decide (V.1=C)).map (·.2)
theorem F3 {C:ey}:∀{b:kD}{ab:bO}{ae:bp},cc I ab ae Q->(om b ab C=i/\hB (b.zip ae) C=i)\/∃t v,om b ab C=D t/\hB (b.zip ae) C=D v/\bD I t v Q
 |[],ab,ae,Y=>.inl ⟨rfl,rfl⟩|c::b,[],ae,Y=>by subst Y;exact .inl ⟨rfl,rfl⟩
 |c::b,t::ab,ae,Y=>by
  obtain⟨v,a,rfl,S,E⟩:=Y;by_cases e:c=C
  ·subst e
   exact .inr ⟨t,v,by simp[om],by simp[hB],S⟩
  ·rcases F3   E with⟨af,ai⟩|⟨eh,d,af,ai,bw⟩
   ·exact .inl ⟨by unfold om at af ⊢;rwa[kB,zf (by simpa using e)],by unfold hB at ai ⊢;rwa[kB,zf (by simpa using e)]⟩
   ·exact .inr ⟨eh,d,by unfold om at af ⊢;rwa[kB,zf (by simpa using e)],by unfold hB at ai ⊢;rwa[kB,zf (by simpa using e)],bw⟩
def F4 (S b:aq):Mo aq:=match S.aK,nI b with
 |.az (.gP a) ab,D C=>.fj ((om a ab C).map .bM)|_,_=>.aU
def F5 (cM:Bool)(b S:aq):Mo aq:=match S.aK,nI b with
 |.az (.gP a) ab,D C=>.f (.aQ (if cM then !(om a ab C).isSome else(om a ab C).isSome))|_,_=>.aU
theorem Bj {X q:aS}{a3:ba->oW->ey->Prop} {C:ey}(a:X=.a0 N)(b:rn q=D C)(Y:Q N=D (.eN bl))(E:a3 N bl C):td X q Q a3:=by
 subst a;unfold td;rw[b];exact⟨bl,Y,E⟩
def vB (X q:aS)(Q:ar)(a3:ba->oW->ey->Prop):Prop:=match X with
 |.a0 S=>(match rn q with |some C=>∃bl,eg Q S (.eN bl)/\a3 S bl C |none=>False)|_=>False
theorem F6 {X q:aS}{Q:ar}{a3:ba->oW->ey->Prop}(Y:vB X q Q a3):∃S bl C,X=.a0 S/\q=iv C/\eg Q S (.eN bl)/\a3 S bl C:=by
 unfold vB at Y;cases X with
 |a0 S=>
  cases e:rn q with
  |none=>simp_all|some C=>
   rw[e]at Y;obtain⟨bl,af,ai⟩:=Y;exact⟨S,bl,C,rfl,Me e,af,ai⟩
 |_=>exact Y.elim
theorem F7 {X q:aS}{a3:ba->oW->ey->Prop} {C:ey}(a:X=.a0 N)(b:rn q=D C)(Y:eg Q N (.eN bl))(E:a3 N bl C):vB X q Q a3:=by
 subst a;unfold vB;rw[b];exact⟨bl,Y,E⟩
section
variable {n eJ cR:b1}{E bI bW:eY}{x:aZ}
abbrev dH (I:cO)(n:b1)(k:cg)(x:aZ)(E:eY):Prop:=pe I n k (hh I x) E (gG I)
abbrev Z0 (I:cO)(n:b1)(k:cg)(x:aZ)(E:eY):Prop:=AP I n k (hh I x) E (gb I)
theorem hj (Y:dH I n k x E):Z0 I n k x E:=Y.bN
theorem Z1 {g:aq->aq->eY}(A:iG I m k g)(af:dH I eJ k x bI)(ai:dH I cR k x bW):dH I (n9 m eJ cR) k x (bI.aC λS=>bW.aC λb=>g S b):=XN A (hj af) (hj ai)
def fo (x:aZ)(O:Nat):Mo aq:=match x[O]? with |some (D t)=>.f t.bM |_=>.aU
theorem Z2 (O:Nat):dH I (o_ O) k x (fo x O):=by
 intro l F Q o b c V;unfold fo at V;split at V
 ·rename_i t e
  obtain⟨v,a,d⟩:=b O (nA I (D t)) (by simp_all)
  unfold o_;cases G:l[O]? with
  |none=>simp_all|some A=>rw[G]at a;cases(a);exact Bg V c d
 exact V.elim
theorem Z3 (Y:∀F,bD I t v F)(O:t.e8=ag:=by rfl):dH I (hy v) k x (.f t):=λl F Q o b a V=>tA V a (Y F) O
def fO (t:aq):Mo Bool:=match t.aK with |.aQ b=>.f b |_=>.aU
theorem xS (Y:dH I n k x E):m3 I (lQ n) k (hh I x) (E.aC fO):=by
 intro l F Q o d f V;refine hj Y l F Q _ d f (V.aC.de λS bF aw x1 a h g=>?_)
 have c:=bD.aK g;unfold fO at a;split at a
 ·rename_i b e;rw[e]at c;cases c.aQ;exact a.f x1.2.1
 exact a.elim
theorem Z4 (Y:dH I n k x E):dH I (u7 n) k x (E.aC λS=>(fO S).aC λb=>.f (.aQ (!b))):=by
 intro l F Q o d f V;refine hj Y l F Q _ d f (V.aC.de λS bF aw x1 a j g=>?_)
 have c:=bD.aK g;unfold fO at a;split at a
 ·rename_i b e;rw[e]at c;cases c.aQ
  exact jS (a.de λS m p x3 h=>h.ej x1.2.2.1) x1.2.1
 exact a.elim
def tB (S:aq)(E:eY):Mo aq:=(fO S).aC λb=>if b then E else .f (.aQ aA)
def tC (S:aq)(E:eY):Mo aq:=(fO S).aC λb=>if b then .f (.aQ ag)else E
theorem Z5 (af:dH I eJ k x bI)(ai:dH I cR k x bW):dH I (s7 eJ cR) k x (bI.aC λS=>tB S bW):=by
 intro l F Q o d g V;refine hj af l F Q _ d g (V.aC.de λS bF aw x1 a n h=>?_)
 have f:=bD.aK h;unfold tB fO at a;split at a
 ·rename_i b e;rw[e]at f;cases f.aQ
  refine⟨λG=>?_,λG=>?_⟩
  ·subst G;exact ai l bF aw _ (d.bQ x1.1) x1.2.1 (cC.de (a) λS j m x3 c=>c.ej x1.2.2.1)
  subst G;exact jS (cC.de (a) λS j m x3 c=>c.ej x1.2.2.1) x1.2.1
 exact a.elim
theorem Z6 (af:dH I eJ k x bI)(ai:dH I cR k x bW):dH I (rj eJ cR) k x (bI.aC λS=>tC S bW):=by
 intro l F Q o d g V;refine hj af l F Q _ d g (V.aC.de λS bF aw x1 a n h=>?_)
 have f:=bD.aK h;unfold tC fO at a;split at a
 ·rename_i b e;rw[e]at f;cases f.aQ
  refine⟨λG=>?_,λG=>?_⟩
  ·subst G;exact jS (cC.de (a) λS j m x3 c=>c.ej x1.2.2.1) x1.2.1
  subst G;exact ai l bF aw _ (d.bQ x1.1) x1.2.1 (cC.de (a) λS j m x3 c=>c.ej x1.2.2.1)
 exact a.elim
theorem Z7 (a:m3 I jq k (hh I x) b)(af:dH I eJ k x bI)(ai:dH I cR k x bW):dH I (Au jq eJ cR) k x (b.aC λR=>if R then bI else bW):=XS a af ai
def xT (S:aq):Mo aq:=match S.aK with |.c O=>.f (.c (-O))|_=>.aU
theorem Z8 (Y:dH I n k x E):dH I (AG n) k x (E.aC xT):=by
 intro l F Q o d f V;refine hj Y l F Q _ d f (V.aC.de λS bF aw x1 a j g=>?_)
 have c:=bD.aK g;unfold xT at a;split at a
 ·rename_i b e;rw[e]at c;cases c.c
  exact mB (a.de λS m p x3 h=>h.ej x1.2.2.1) x1.2.1
 exact a.elim
end
end
section
variable {I:jv}{k:cg}{F a4 Y af ai Q ay:ar}{t:aq}{ab:bO}{v:aS}{ae:bp}{C:iF}{N:ba}{o:cm}{x:aZ}{n:b1}{E bI bW:eY}{bG:fY}{gc:pl}
def nJ (w:Bd):List aq->bO->Option Bool
 |S::aG,b::c6=>(w S b).bind λX=>(nJ w aG c6).map λq=>X && q
 |_,_=>D ag
def aq.gn:aq->i5
 |.a9=>D .a9|.aQ b=>D (.aQ b)|.c O=>D (.c O)|.d s=>D (eX s)|_=>i
noncomputable def tD:aq->Option (Bool×bO)
 |.az .aM j=>D (ag,j)|.az .bb j=>D (aA,j)|_=>i
def F8 (w:Bd)(S b:aq):Option Bool:=match tD S with
 |none=>(match tD b with |none=>S.gn.bind λX=>b.gn.map λq=>jx X q |some _=>S.gn.map λ_=>aA)|some (C,j)=>(match tD b with
  |none=>b.gn.map λ_=>aA|some (a,aV)=>bif C == a then(bif C then(if j.length=aV.length then nJ w j aV else D aA)else(nJ w j aV).map λb=>b && j.length == aV.length)else D aA)
def gp:Nat->aq->aq->Option Bool
 |0,S,b=>S.aK.gn.bind λX=>b.aK.gn.map λq=>jx X q|y+1,S,b=>F8 (gp y) S.aK b.aK
theorem F9 {C:Bool}(e:tD t=D (C,j))(Y:bD I t v Q):∃N ae,v=.a0 N/\cc I j ae Q/\Q N=D (bif C then .aM ae else .bb ae):=by
 cases t with
 |az C ab=>
  obtain⟨N,ae,rfl,m,E⟩:=Y.az;cases C with
  |aM=>cases e;exact⟨N,ae,rfl,E,m⟩|bb=>cases e;exact⟨N,ae,rfl,E,m⟩|_=>cases e
 |_=>cases e
theorem qp {X:aS}(e:t.gn=D X)(Y:bD I t v Q):v=X/\gN X=ag:=by
 cases t with
 |a9=>cases e;trivial|aQ=>cases e;trivial|c=>cases e;trivial|d=>cases e;trivial|_=>cases e
theorem F_ {w:Bd}:∀{j aV:bO}{b:Bool},nJ w j aV=D b->∃e:Nat->Bool,(∀(O:Nat) X q,j[O]?=D X->aV[O]?=D q->w X q=D (e O))/\b=(fW (min j.length aV.length)).all e
 |[],_,_,Y=>by cases Y;exact⟨λ_=>ag,λO X q c=>by simp at c,by simp⟩
 |_::_,[],_,Y=>by cases Y;exact⟨λ_=>ag,λO X q c d=>by simp at d,by simp⟩
 |X::j,q::aV,b,Y=>by
  unfold nJ at Y;obtain⟨R,f,Y⟩:=hv.mp Y;obtain⟨cS,g,rfl⟩:=iR.mp Y;obtain⟨e,af,ai⟩:=F_ g;refine⟨λO=>match O with |0=>R |O+1=>e O,λO u p a hw=>?_,?_⟩
  ·cases O with
   |zero=>simp at a hw;subst a hw;exact f|succ O=>exact af O u p (by simpa using a) (by simpa using hw)
  rw[ai,ew,ew,Nat.succ_min_succ,Jm,k9,JI];rfl
theorem Nl:∀{y:Nat}{S b:aq}{X q:aS}{R:Bool},gp y S b=D R->bD I S X Q->bD I b q Q->hg I Q y X q R:=by
 intro y;induction y with
 |zero=>
  intro S b X q R Y c a;unfold gp at Y;obtain⟨B,s,Y⟩:=hv.mp Y;obtain⟨w,f,rfl⟩:=iR.mp Y;obtain⟨rfl,x⟩:=qp s (bD.aK c);obtain⟨rfl,d⟩:=qp f (bD.aK a);exact .tb x d
 |succ y F=>
  intro S b X q R Y c a;have c:=bD.aK c;have a:=bD.aK a;have A:∀{j aV:bO}{ae aH:bp}{e:md},cc I j ae Q->cc I aV aH Q->(∀(O:Nat) X q,j[O]?=D X->aV[O]?=D q->gp y X q=D (e O))->∀(O:Nat) u p,ae[O]?=D u->aH[O]?=D p->hg I Q y u p (e O):=λE bW g O u p n hw=>by
   rcases E.g8 O with⟨_,G⟩|⟨t,v,aR,aB,J⟩
   ·rw[G]at n;cases n
   rcases bW.g8 O with⟨_,G⟩|⟨eh,U,l,K,L⟩
   ·rw[G]at hw;cases hw
   rw[aB]at n;rw[K]at hw;cases n;cases hw;exact F (g O _ _ aR l) J L
  have M:∀{S b:aq},bD I S X Q->bD I b q Q->(S.gn.bind λX=>b.gn.map λq=>jx X q)=D R->hg I Q (y+1) X q R:=λc a Y=>by
   obtain⟨B,s,Y⟩:=hv.mp Y;obtain⟨w,f,rfl⟩:=iR.mp Y;obtain⟨rfl,x⟩:=qp s c;obtain⟨rfl,d⟩:=qp f a;exact(hg.tb x d).fB (mc _)
  have Y:F8 (gp y) S.aK b.aK=D R:=Y;unfold F8 at Y;cases z:tD S.aK with
  |none=>
   rw[z]at Y;cases h:tD b.aK with
   |none=>rw[h]at Y;exact M c a Y|some V=>
    rw[h]at Y;obtain⟨w,f,rfl⟩:=iR.mp Y;obtain⟨rfl,d⟩:=qp f c;obtain⟨N,ae,rfl,E,m⟩:=F9 (C:=V.1) (j:=V.2) h a;cases G:V.1<;>rw[G]at m
    ·exact .mZ (.of m) d
    ·exact .vc (.of m) d
  |some V=>
   rw[z]at Y;obtain⟨N,ae,rfl,bI,e3⟩:=F9 (C:=V.1) (j:=V.2) z c;obtain⟨C,j⟩:=V;cases h:tD b.aK with
   |none=>
    rw[h]at Y;obtain⟨w,f,rfl⟩:=iR.mp Y;obtain⟨rfl,d⟩:=qp f a;cases C
    ·exact .vd (.of e3) d
    ·exact .vb (.of e3) d
   |some V=>
    rw[h]at Y;obtain⟨dq,aH,rfl,bW,d_⟩:=F9 (C:=V.1) (j:=V.2) h a;obtain⟨P,aV⟩:=V;cases C<;>cases P
    ·obtain⟨cS,T,rfl⟩:=iR.mp (show(nJ (gp y) j aV).map _=_ from Y)
     obtain⟨e,l,rfl⟩:=F_ T;rw[bI.cn,bW.cn];exact .bb e (.of e3) (.of d_) (A bI bW l)
    ·cases Y;exact .iU (.of e3) (.of d_)
    ·cases Y;exact .iy (.of e3) (.of d_)
    ·have Y:(if j.length=aV.length then nJ (gp y) j aV else D aA)=D R:=Y
     split at Y
     ·rename_i o
      obtain⟨e,l,rfl⟩:=F_ Y;rw[<- o,sv,bI.cn];exact .aM e (.of e3) (.of d_) (by rw[<- bI.cn,<- bW.cn,o]) (A bI bW l)
     ·rename_i o;cases Y;exact .rk (.of e3) (.of d_) (by rw[<- bI.cn,<- bW.cn];exact o)
def gq (cM:Bool)(S b:aq):Mo aq:=(Mo.fj (gp 12 S b)).aC λR=>.f (.aQ (if cM then !R else R))
theorem Z9:iG I (FN I) k (gq aA):=by
 intro S b X q F Q o a c d V;unfold gq at V;cases e:gp 12 S b with
 |none=>rw[e]at V;exact V.elim|some R=>rw[e]at V;exact⟨12,R,by decide,Nl e ((gb I).bQ a c) ((gb I).bQ a d),jS V a⟩
theorem Z_:iG I (FO I) k (gq ag):=by
 intro S b X q F Q o a c d V;unfold gq at V;cases e:gp 12 S b with
 |none=>rw[e]at V;exact V.elim|some R=>rw[e]at V;exact⟨12,R,by decide,Nl e ((gb I).bQ a c) ((gb I).bQ a d),jS V a⟩
theorem Nm:∀(t:aq) {X:aq},t.aK≠.aL X
 |.aL t,X=>Nm t|.a9,_=>λG=>by cases G
 |.aQ _,_=>λG=>by cases G
 |.c _,_=>λG=>by cases G
 |.d _,_=>λG=>by cases G
 |.az _ _,_=>λG=>by cases G
 |.e5 _,_=>λG=>by cases G
 |.e4,_=>λG=>by cases G
def m7 (cM:Bool)(S b:aq):Mo aq:=match b with
 |.a9=>(match S.aK with |.e5 _=>.aU |.e4=>.aU |.a9=>.f (.aQ (!cM))|_=>.f (.aQ cM))|.aQ R=>(match S.aK with |.aQ b=>.f (.aQ (if cM then !decide (b=R)else decide (b=R)))|_=>.aU)|_=>.aU
theorem Nn (a:bD I t v Q) {R:Mo Unit}(e:m7 cM t .a9=.f b):b=.aQ (if cM then !decide (v=.a9)else decide (v=.a9)):=by
 have a:=bD.aK a;unfold m7 at e;cases G:t.aK with
 |a9=>rw[G]at a e;cases a.a9;simp_all|aQ=>rw[G]at a e;cases a.aQ;simp_all|c=>rw[G]at a e;cases a.c;simp_all|d=>rw[G]at a e;cases a.d;simp_all|az=>rw[G]at a e;obtain⟨_,_,rfl,_⟩:=a.az;simp_all|aL=>exact absurd G (Nm t)|_=>simp_all
theorem Np {C:aq->ar->ar->Prop}(V:cC I (m7 cM S b) k F Q C):(b=.a9/\∃R,m7 cM S .a9=.f R/\cC I (.f R) k F Q C)\/∃R e,b=.aQ R/\S.aK=.aQ e/\cC I (.f (.aQ (if cM then !decide (e=R)else decide (e=R)))) k F Q C:=by
 unfold m7 at V ⊢;split at V
 ·refine .inl ⟨rfl,?_⟩
  split at V
  ·exact V.elim
  ·exact V.elim
  ·exact⟨_,rfl,V⟩
  exact⟨_,rfl,V⟩
 ·split at V
  ·exact .inr ⟨_,_,rfl,by assumption,V⟩
  exact V.elim
 exact V.elim
theorem aaa:iG I EY k (m7 aA):=by
 intro S b X q F Q o d a f V;rcases Np V with⟨rfl,R,e,V⟩|⟨R,e,rfl,G,V⟩
 ·cases bD.a9 (I:=I) (Q:=F) f
  cases Nn (R:=.aU) a e;exact jS V d
 ·have a:=bD.aK a
  rw[G]at a;cases a.aQ;cases bD.aQ (I:=I) (Q:=F) f;exact jS V d
theorem aab:iG I EZ k (m7 ag):=by
 intro S b X q F Q o d a f V;rcases Np V with⟨rfl,R,e,V⟩|⟨R,e,rfl,G,V⟩
 ·cases bD.a9 (I:=I) (Q:=F) f
  cases Nn (R:=.aU) a e;exact jS V d
 ·have a:=bD.aK a
  rw[G]at a;cases a.aQ;cases bD.aQ (I:=I) (Q:=F) f;exact jS V d
def tE:bO->Option bp
 |[]=>D []|t::ab=>t.aK.gn.bind λX=>(tE ab).map λj=>X::j
theorem Nq:∀{ab:bO}{j ae:bp},tE ab=D j->cc I ab ae Q->ae=j/\j.all gN=ag
 |[],_,_,e,Y=>by cases e;trivial
 |t::ab,_,_,e,Y=>by
  unfold tE at e;obtain⟨X,aT,e⟩:=hv.mp e;obtain⟨j,b,rfl⟩:=iR.mp e;obtain⟨v,a,rfl,S,E⟩:=Y;obtain⟨rfl,c⟩:=qp aT (bD.aK S);obtain⟨rfl,d⟩:=Nq b E;exact⟨rfl,by rw[k9,c,d];rfl⟩
def tF (cM:Bool)(S:aq)(aV:bO):Mo aq:=(Mo.fj (S.aK.gn.bind λX=>(tE aV).map λa=>mX X a)).aC λR=>.f (.aQ (if cM then !R else R))
def Ga (cM:Bool)(S b:aq):Mo aq:=match b.aK with
 |.d n=>(match S.aK with |.d s=>.f (.aQ (if cM then !u6 s n else u6 s n))|_=>.aU)|.az .aM aV=>tF cM S aV|.az .bb aV=>tF cM S aV|.az .iW aV=>tF cM S aV|_=>.aU
theorem Gb {X:aS}(a:bx F Q)(b:bD I S X F)(y:d1 I Q N ae\/fL I Q N ae)(E:cc I aV ae F)(V:cC I (tF cM S aV) k F Q (fF (gG I) Q o)):xi I cM X (.a0 N) Q o:=by
 unfold tF at V;cases e:(S.aK.gn.bind λX=>(tE aV).map (mX X))with
 |none=>rw[e]at V;exact V.elim|some R=>
  rw[e]at V;obtain⟨g,aT,e⟩:=hv.mp e;obtain⟨h,c,rfl⟩:=iR.mp e;obtain⟨rfl,d⟩:=qp aT (bD.aK b);obtain⟨rfl,f⟩:=Nq c E;exact⟨ae,y,d,f,jS V a⟩
theorem aac:iG I (xi I cM) k (Ga cM):=by
 intro S b X q F Q o d c a V;have a:=bD.aK a;unfold Ga at V;split at V
 ·rename_i s e;rw[e]at a;cases a.d
  have c:=bD.aK c;split at V
  ·rename_i e;rw[e]at c;cases c.d;exact jS V d
  exact V.elim
 ·rename_i e;rw[e]at a;obtain⟨N,ae,rfl,y,E⟩:=a.az;exact Gb d c (.inl (.of (d _ _ y))) E V
 ·rename_i e;rw[e]at a;obtain⟨N,ae,rfl,y,E⟩:=a.az;exact Gb d c (.inr (.of (d _ _ y))) E V
 ·rename_i e;rw[e]at a;obtain⟨N,ae,rfl,y,E⟩:=a.az;exact Gb d c (.inr (.inr y)) E V
 exact V.elim
def mC (t:aq):Mo Int:=match t.aK with |.c O=>.f O |_=>.aU
theorem aad (c:dH I n k x E):xw I (Ax n) k (hh I x) (E.aC λt=>(mC t).aC λO=>.f (D O)):=by
 intro l F Q o d f V;refine hj c l F Q _ d f (V.aC.de λS bF aw x1 a h g=>?_)
 have b:=bD.aK g;unfold mC at a;split at a
 ·rename_i O e;rw[e]at b;cases b.c;exact a.f x1.2.1
 exact a.elim
def Nr (S:aq)(a8 aE:eR):Mo aq:=match S.aK with
 |.d s=>.ei s.length (.f (.d (fU s a8 aE)))|.az .aM j=>.f (.az .aM ((fU j a8 aE).map .bM))|.az .dR j=>.f (.az .aM ((fU j a8 aE).map .bM))|_=>.aU
def aae (I:cO)(Q:ar)(o:bp->ar->Prop)(ab:bO)(a4 ay:ar):Prop:=∀a Y,(∀N,Y N≠i->Q N=i)->c4 a4 Y->bx Y ay->bL I ab a a4 Y->o a ay
def lX (I:cO)(n:fY)(k:cg)(x:aZ)(E:pl):Prop:=∀l F Q (o:bp->ar->Prop),gY (hh I x) l F->bx F Q->cC I E k F Q (aae I Q o)->n l Q o
abbrev Gd (I:cO):qg bO:=⟨cc I,λg Y=>Y.bQ g⟩
theorem aaf:lX I ib k x (.f []):=λl F Q o b a V=>V.f a [] _ (λN G=>absurd rfl G) (λN=>.inr rfl) (λN A G=>by cases G) (⟨rfl,λ_=>rfl⟩)
theorem Nt (X:f9 F Q a4 ay)(t:c4 F Y)(z:bx Y Q):c4 a4 Y:=λN=>by
 cases G:Y N with
 |none=>exact .inr rfl|some A=>
  left;rcases t N with q |q
  ·cases p:a4 N with
   |none=>rfl|some b3=>have:=X.2.2.2 N q (by rw[p];exact fQ _);rw[z _ _ G]at this;cases this
  simp_all
theorem aag (af:dH I n k x E)(ai:lX I bG k x gc):lX I (hb n bG) k x (E.aC λS=>gc.aC λaG=>.f (S::aG)):=by
 intro l F Q o c e V;refine af l F Q _ c e (V.aC.de λS bF aw x1 f v C g h bf j=>?_)
 refine ai l bF aw _ (c.bQ x1.1) x1.2.1 (f.aC.de λaG av a7 x2 m a b d s bo dc=>?_)
 refine m.f x2.2.1 (v::a) (aK C b) (λN G=>?_) (λN=>?_) (λN A G=>?_) ?_
 ·unfold aK at G
  cases q:C N with
  |some A=>exact g N (by rw[q];exact fQ _)|none=>rw[q]at G;exact x1.2.2.1.cz (d N G)
 ·unfold aK
  cases q:C N with
  |some A=>
   rcases Nt x2 h bf N with p |p
   ·exact .inl p
   ·rw[q]at p;cases p
  |none=>exact s N
 ·unfold aK at G
  cases q:C N with
  |some b3=>rw[q]at G;cases G;exact x2.2.2.1 _ _ (bf _ _ q)|none=>rw[q]at G;exact bo _ _ G
 ·unfold bL
  exact⟨v,a,C,b,rfl,fZ (λN=>by
  cases G:C N with
  |none=>exact .inl rfl|some A=>
   right;cases q:b N with
   |none=>rfl|some b3=>have:=d N (by rw[q];exact fQ _);rw[bf _ _ G]at this;cases this),j.bQ x2.1,dc⟩
theorem vC (Y:lX I bG k x gc):Mi I bG k (hh I x) gc (Gd I):=by
 intro l F Q o c d V;refine Y l F Q o c d ?_;cases gc with
 |f S=>
  intro a4 ay X a aF g t z A;refine V _ ay ⟨X.1.ct mw,λN A e=>?_,X.2.2.1,λN S b=>?_⟩ a (bC.xO.eU mw (ro t) A)
  ·unfold aK at e
   cases G:a4 N with
   |some p=>rw[G]at e;cases e;exact X.2.1 _ _ G|none=>rw[G]at e;exact z _ _ e
  ·unfold aK at b
   cases G:a4 N with
   |some p=>exact X.2.2.2 N S (by rw[G];exact fQ _)|none=>rw[G]at b;exact g N b
 |_=>exact V
theorem bL.cn:∀{ab:bO}{ae:bp}{Y:ar},bL I ab ae F Y->ab.length=ae.length
 |[],_,_,V=>by rw[V.1];rfl
 |t::ab,_,_,V=>by obtain⟨v,a,af,ai,rfl,h,S,E⟩:=V;rw[ew,ew,bL.cn E]
theorem aah (Y:lX I bG k x gc):dH I (w_ bG) k x (gc.aC λab=>.ei ab.length (.f (.az .bb ab))):=by
 intro l F Q o e f V;refine Y l F Q _ e f (V.aC.de λab bF aw x1 b a C g h bf c=>?_)
 obtain⟨R,b⟩:=b.ei;rw[bL.cn c]at R;refine⟨R,λN d=>?_⟩
 have q:=f9.el x1.2.1 (A:=.bb a) d;exact b _ _ q _ C g (Nt q h bf) (bf.ct (pb d _)) ⟨N,a,λ_=>i,C,rfl,⟨jL,λ_=>rfl⟩,λV=>.inl ⟨rfl,rfl⟩,bC.bQ.eU q.1 c⟩
theorem aai (Y:lX I bG k x gc):dH I (Ew bG) k x (gc.aC λab=>.ei ab.length (.f (.az .aM ab))):=by
 intro l F Q o f g V;refine Y l F Q _ f g (V.aC.de λab bF aw x1 c a C h j bf d=>?_)
 obtain⟨R,c⟩:=c.ei;rw[bL.cn d]at R;refine⟨R,λN b=>?_⟩
 have m:C N=i:=by
  cases G:C N with
  |none=>rfl|some A=>rw[bf _ _ G]at b;cases b
 refine c bF _ (.heap x1.2.1 (pb b _)) (.a0 N) (aK (cW N (.aM a)) C) (λV G=>?_) (λV=>?_) (λV A G=>?_) ?_
 ·unfold aK at G;rw[kk]at G
  by_cases e:V=N
  ·subst e;exact x1.2.2.1.cz b
  ·rw[if_neg e]at G;exact h V G
 ·unfold aK;rw[kk]
  by_cases e:V=N
  ·subst e;exact .inl (x1.2.1.cz b)
  ·rw[if_neg e];exact j V
 ·unfold aK at G;rw[kk]at G
  by_cases e:V=N
  ·subst e;rw[if_pos rfl]at G;cases G;exact jL
  ·rw[if_neg e]at G;rw[f6 e];exact bf _ _ G
 ·show bC I _ _ _ _
  unfold bC;exact⟨N,a,_,C,rfl,rfl,fZ (λV=>by
  rw[kk];split
  ·rename_i e;rw[e];exact .inr m
  ·exact .inl rfl),d⟩
abbrev mD (I:cO)(m:bp->ar->cm->Prop)(k:cg)(g:bO->eY):Prop:=AQ I m k (Gd I) g (gG I)
theorem aaj {g:bO->eY}(A:mD I m k g)(Y:lX I bG k x gc):dH I (lO m bG) k x (gc.aC g):=XP A (vC Y)
theorem cc.cW (Y:cc I [t] ae Q):∃v,ae=[v]/\bD I t v Q:=by
 obtain⟨v,a,rfl,S,E⟩:=Y;subst E;exact⟨v,rfl,S⟩
theorem cc.jR (Y:cc I [t,eh] ae Q):∃v c,ae=[v,c]/\bD I t v Q/\bD I eh c Q:=by
 obtain⟨v,a,rfl,S,E⟩:=Y;obtain⟨c,rfl,b⟩:=cc.cW E;exact⟨v,c,rfl,S,b⟩
def pn (w:aq->eY)(ab:bO):Mo aq:=match ab with |[t]=>w t.aK |_=>.aU
def Ge (w:aq->aq->eY)(ab:bO):Mo aq:=match ab with |[t,e]=>w t.aK e.aK |_=>.aU
theorem rz {w:aq->eY}(Y:∀t v F Q (o:cm),bx F Q->bD I t v F->cC I (w t) k F Q (fF (gG I) Q o)->m [v] Q o):mD I m k (pn w):=by
 intro ab a F Q o b c V;unfold pn at V;split at V
 ·obtain⟨v,rfl,S⟩:=cc.cW c;exact Y _ _ F Q o b (bD.aK S) V
 exact V.elim
theorem aak {w:aq->aq->eY}(Y:∀t e v p F Q (o:cm),bx F Q->bD I t v F->bD I e p F->cC I (w t e) k F Q (fF (gG I) Q o)->m [v,p] Q o):mD I m k (Ge w):=by
 intro ab a F Q o c d V;unfold Ge at V;split at V
 ·obtain⟨v,p,rfl,S,b⟩:=cc.jR d;exact Y _ _ _ _ F Q o c (bD.aK S) (bD.aK b) V
 exact V.elim
def Nu:bO->eY:=pn λt=>match t with
 |.d s=>.ei s.length (.f (.c s.length))|.az .aM j=>.f (.c j.length)|.az .bb j=>.f (.c j.length)|.az .dR j=>.f (.c j.length)|.az .iW j=>.f (.c j.length)|_=>.aU
theorem aal:mD I (Ay I) k Nu:=rz λt v F Q o a b V=>by
 split at V
 ·cases b.d;obtain⟨R,V⟩:=V.ei;exact⟨R,mB V a⟩
 ·obtain⟨N,ae,rfl,y,E⟩:=b.az;exact⟨ae,.inl (.of (a _ _ y)),by rw[<- E.cn];exact mB V a⟩
 ·obtain⟨N,ae,rfl,y,E⟩:=b.az;exact⟨ae,.inr (.of (a _ _ y)),by rw[<- E.cn];exact mB V a⟩
 ·obtain⟨N,ae,rfl,y,E⟩:=b.az;exact⟨ae,.inl (a.seq y),by rw[<- E.cn];exact mB V a⟩
 ·obtain⟨N,ae,rfl,y,E⟩:=b.az;exact⟨ae,.inr (.inr y),by rw[<- E.cn];exact mB V a⟩
 exact V.elim
def Nv:bO->eY:=pn λt=>match t with |.az (.gP a) j=>.f (.c j.length)|_=>.aU
def Bk:bp->ar->cm->Prop:=λj Q o=>match j with |[.a0 S]=>∃bl,eg Q S (.eN bl)/\o (.c bl.length) Q |_=>False
theorem aam {H:bU}:i9 H (.builtin "len") Bk:=by
 intro aj z l Q j ae o a E Y;unfold Bk at Y;split at Y
 ·obtain⟨bl,b,V⟩:=Y
  obtain⟨u,rfl,c⟩:=mV E;cases c;exact XF a b λn bc d=>⟨.c _,Q,d,⟨n,rfl⟩,V⟩
 exact Y.elim
theorem aan:mD I Bk k Nv:=rz λt v F Q o a b V=>by
 split at V
 ·rename_i c j
  obtain⟨N,ae,rfl,y,E⟩:=b.az;refine⟨_,vz a y.1,?_⟩;rw[show(c.zip ae).length=j.length from by rw[q1,y.2.1,sv,E.cn]]
  exact mB V a
 exact V.elim
def Gf:bO->eY:=Ge λS b=>match S,b with |.c O,.c h=>.f (.c (min O h))|_,_=>.aU
theorem aao:mD I (Az min) k Gf:=aak λt e v p F Q o a b c V=>by
 split at V
 ·cases b.c;cases c.c;exact mB V a
 exact V.elim
def Gg:bO->eY:=pn λt=>match t with |.c O=>.ea (O.natAbs.log2<1920) (.f (.d (cH O)))|_=>.aU
theorem aap:mD I AH k Gg:=rz λt v F Q o a b V=>by
 split at V
 ·cases b.c;obtain⟨R,V⟩:=V.ea;exact⟨R,nG V a⟩
 exact V.elim
abbrev rA (I:cO)(m:aS->bp->ar->cm->Prop)(k:cg)(g:bt->bO->eY):Prop:=XW I m k (Gd I) g (gG I)
def lu (t:aq):Mo bt:=match t.aK with |.d s=>.f s |_=>.aU
theorem aaq {g:bt->bO->eY}(A:rA I m k g)(f:dH I n k x E)(Y:lX I bG k x gc):dH I (qe I "str" m n bG) k x (E.aC λt=>(lu t).aC λs=>gc.aC λR=>g s R):=by
 intro l F Q o c h V;refine hj f l F Q _ c h (V.aC.de λt bF aw x1 b v j=>?_)
 have d:=bD.aK j;unfold lu at b;split at b
 ·rename_i s e;rw[e]at d;cases d.d
  exact⟨rfl,(vC Y l bF aw _ (c.bQ x1.1) x1.2.1 (cC.de (cC.aC (b)) λR av a7 x2 p a q=>A s R a av a7 o x2.2.1 q (p.de λS w y x3 u=>u.ej (x1.2.2.1.ct x2.2.2.1))))⟩
 exact b.elim
end
noncomputable def iF.fl:iF->Bool
 |.dR=>aA |.iW=>aA |.qo _=>aA |_=>ag
def aq.at:aq->bt->m5
 |t,[]=>D t|.az C ab,O::c5=>bif C.fl then ab[O]?.bind λt=>t.at c5 else i|_,_=>i
theorem rB {C:iF}:(aq.az C ab).at (h::c5)=bif C.fl then ab[h]?.bind λt=>t.at c5 else i:=by rw[aq.at]
def Nw:lM->bp
 |.bb ae=>ae |.aM ae=>ae |.eN bl=>bl.map (·.2)|.iw _ (.eN bl)=>bl.map (·.2)|.fg _ _ au=>au.map (·.2)|_=>[]
def lY (Q:ar):aS->bt->i5
 |v,[]=>D v|v,h::c5=>(match v with |.a0 N=>(Q N).bind λA=>(Nw A)[h]? |_=>i).bind λp=>lY Q p c5
noncomputable def aq.gE:aq->bt->aq->aq
 |_,[],X=>X|.az C ab,O::c5,X=>(match ab[O]? with |some t=>.az C (ab.set O (t.gE c5 X))|none=>.az C ab)|t,_,_=>t
section
variable {I:jv}{F a4 Y af ai Q ay:ar}{t:aq}{ab:bO}{v:aS}{ae:bp}{C:iF}{N:ba}
theorem bL.focus:∀{ab:bO}{ae:bp}{Y:ar}{O:Nat}{R:aq},bL I ab ae F Y->ab[O]?=D R ->
  ∃u af ai,ae[O]?=D u/\cQ af ai Y/\bC I R u F af/\∀cS a4 b c aF,bx F a4->bC I cS b a4 c->cQ c ai aF->bL I (ab.set O cS) (ae.set O b) a4 aF
 |[],_,_,_,_,_,e=>by simp at e
 |t::ab,_,Y,0,R,V,e=>by
  obtain⟨v,a,af,ai,rfl,h,S,E⟩:=V;simp at e;subst e;refine⟨v,af,ai,rfl,h,S,λcS a4 b c aF g A d=>?_⟩
  rw[wA,wA];unfold bL;exact⟨b,a,c,ai,rfl,d,A,bC.bQ.eU g E⟩
 |t::ab,_,Y,O+1,R,V,e=>by
  obtain⟨v,a,af,ai,rfl,h,S,E⟩:=V;obtain⟨u,k,l,aR,n,o,w⟩:=bL.focus E (by simpa using e)
  obtain⟨m,f,p⟩:=ja n (jA h);refine⟨u,k,m,by simpa using aR,p,o,λcS a4 b j aF g b3 d=>?_⟩
  rw[zj,zj];unfold bL;exact⟨v,a.set O b,af,aK j l,rfl,MS f d,S.bQ g,w cS a4 b j _ g b3 (fZ (MT f d))⟩
theorem Bl {aP:Type}{s:List aP}{O:Nat}{X:aP}(Y:s[O]?=D X):s.set O X=s:=X5 Y
theorem m6.same (g:bx F a4)(R:m6 I C N ae F Y):m6 I C N ae a4 Y:=R.bQ g.q_
theorem aar {C:iF}(a:C.fl=ag)(y:nF I C N ae Q):∃A,Q N=D A/\Nw A=ae:=by
 cases C with
 |bb=>exact⟨_,y,rfl⟩|aM=>exact⟨_,y,rfl⟩|gP b=>exact y.1.elim (λe=>⟨_,e,DE (uF y.2.1.symm)⟩) λ⟨_,e⟩=>⟨_,e,DE (uF y.2.1.symm)⟩|dV R c=>obtain⟨bS,e,s⟩:=y;exact⟨_,e,DE (uF s.symm)⟩|_=>cases a
theorem xU (g:bx Q ay):∀{c5:bt}{v u:aS},lY Q v c5=D u->lY ay v c5=D u
 |[],_,_,Y=>Y|h::c5,v,u,Y=>by
  unfold lY at Y ⊢;obtain⟨p,hw,ai⟩:=hv.mp Y;clear Y;cases v with
  |a0 N=>
   obtain⟨A,a,hw⟩:=hv.mp hw;dsimp only;rw[g _ _ a];exact hv.mpr ⟨p,hw,xU g ai⟩
  |_=>cases hw
theorem Nx {C:iF} {p u:aS}(a:C.fl=ag)(y:nF I C N ae Q)(hw:ae[h]?=D p)(Y:lY Q p c5=D u):lY Q (.a0 N) (h::c5)=D u:=by
 obtain⟨A,b,e⟩:=aar a y;unfold lY;simp_all
theorem Gh {C:iF} {p:aS}(a:C.fl=ag)(y:nF I C N ae Q)(hw:ae[h]?=D p):∀{c5:bt}{v:aS},lY Q v c5=D (.a0 N)->lY Q v (c5++[h])=D p
 |[],_,Y=>by cases Y;exact Nx a y hw rfl
 |O::c5,v,Y=>by
  obtain⟨X,b,Y⟩:=hv.mp Y;exact hv.mpr ⟨X,b,Gh a y hw Y⟩
theorem bC.focus:∀{c5:bt}{t:aq}{v:aS}{Y:ar}{R:aq},bC I t v F Y->t.at c5=D R ->
  ∃u af ai,(∀Q,bx F Q->bx Y Q->lY Q v c5=D u)/\cQ af ai Y/\bC I R u F af/\∀cS a4 a aF,bx F a4->bC I cS u a4 a->cQ a ai aF->bC I (t.gE c5 cS) v a4 aF
 |[],t,v,Y,R,V,e=>by
  unfold aq.at at e;cases e;refine⟨v,Y,λ_=>i,λQ _ _=>rfl,λN=>.inr ⟨rfl,rfl⟩,V,λcS a4 a aF g A h=>?_⟩
  unfold aq.gE;have:aF=a:=by
   funext N;rcases h N with⟨S,b⟩|⟨S,b⟩
   ·rw[S,b]
   ·exact b
  rw[this];exact A
 |O::c5,.az C ab,v,Y,R,V,e=>by
  rw[rB]at e;cases d:C.fl with
  |false=>rw[d]at e;cases e|true=>
  rw[d,cond_true]at e;obtain⟨eh,aR,aB⟩:=hv.mp e;unfold bC at V;obtain⟨N,ae,j,Z,rfl,b7,h,E⟩:=V;obtain⟨y,aa,B,k,l,J,w⟩:=bL.focus E aR;obtain⟨u,K,f,L,M,dc,g⟩:=bC.focus J aB;obtain⟨S,m,P⟩:=ja M l;obtain⟨b,c,T⟩:=ja P (jA h);refine⟨u,K,b,λQ bf bo=>Nx d (b7.az bf (h.s.ct bo)) k (L Q bf (l.s.ct (h.E.ct bo))),T,dc,λcS a4 a aF z b3 o=>?_⟩
  unfold aq.gE;rw[aR];dsimp only;unfold bC;have s:c4 a S:=λV=>by
   rcases o.f_ V with G |G
   ·exact .inl G
   ·exact .inr (c.s.cz G)
  have U:c4 a f:=λV=>by
   rcases s V with G |G
   ·exact .inl G
   ·exact .inr (m.s.cz G)
  have W:cQ (aK a f) B (aK a S):=λV=>by
   unfold aK;rcases m V with⟨G,p⟩|⟨G,p⟩
   ·rw[G]
    cases q:a V with
    |none=>left;exact⟨rfl,p⟩|some A=>
     right;rcases s V with n |n
     ·rw[n]at q;cases q
     ·rw[p]at n;exact⟨n,rfl⟩
   ·right
    refine⟨G,?_⟩;cases q:a V with
    |none=>exact p|some A=>rfl
  have on:=g cS a4 a (aK a f) z b3 (fZ U);have x:=w _ a4 y _ (aK a S) z on W;rw[Bl k]at x;refine⟨N,ae,j,aK a S,rfl,b7.same z,?_,x⟩;intro V;unfold aK;rcases o V with⟨G,p⟩|⟨G,p⟩
  ·rw[G,p]
   rcases c V with⟨q,n⟩|⟨q,n⟩
   ·right;exact⟨q,n⟩
   ·left;exact⟨q,n⟩
  ·rw[p]
   have X:j V=i:=c.E.cz G;left;refine⟨X,?_⟩;cases q:a V with
   |none=>exact(c.s.cz G).symm|some A=>rfl
 |_::_,.a9,_,_,_,_,e=>by simp[aq.at]at e
 |_::_,.aQ _,_,_,_,_,e=>by simp[aq.at]at e
 |_::_,.c _,_,_,_,_,e=>by simp[aq.at]at e
 |_::_,.d _,_,_,_,_,e=>by simp[aq.at]at e
 |_::_,.aL _,_,_,_,_,e=>by simp[aq.at]at e
 |_::_,.e5 _,_,_,_,_,e=>by simp[aq.at]at e
 |_::_,.e4,_,_,_,_,e=>by simp[aq.at]at e
theorem da.vD:∀{L:iD}{l:L2.ck}{Y:ar}{O:Nat}{z:ih},da L l F Y->L[O]?=D z ->
  ∃A af ai,l[O]?=D A/\cQ af ai Y/\z.P A F af/\∀bc b3 a4 a aF,bx F a4->bc.P b3 a4 a->cQ a ai aF->da (L.set O bc) (l.set O b3) a4 aF
 |[],_,_,_,_,_,e=>by simp at e
 |z::L,[],_,_,_,V,_=>V.elim
 |z::L,A::l,Y,0,n,c,e=>by
  obtain⟨af,ai,h,N,E⟩:=c;simp at e;subst e;exact⟨A,af,ai,rfl,h,N,λbc b3 a4 a aF g fh b=>⟨a,ai,b,fh,E.bQ g⟩⟩
 |z::L,A::l,Y,O+1,n,c,e=>by
  obtain⟨af,ai,h,N,E⟩:=c;obtain⟨j,k,o,aR,p,q,w⟩:=da.vD E (by simpa using e)
  obtain⟨m,d,s⟩:=ja p (jA h);exact⟨j,k,m,by simpa using aR,s,q,λbc b3 a4 f aF g t b=>⟨af,aK f o,MS d b,N.bQ g,w bc b3 a4 f _ g t (fZ (MT d b))⟩⟩
theorem da.qi:∀{L:iD}{l:L2.ck}{Y g aF:ar},da L l F Y->cQ g Y aF->da L l F aF
 |[],[],_,_,_,_,_=>trivial|z::L,[],_,_,_,V,_=>V.elim|[],_::_,_,_,_,V,_=>V.elim|z::L,A::l,Y,g,aF,a,b=>by
  obtain⟨af,ai,h,N,E⟩:=a;obtain⟨m,c,d⟩:=ja h (jA b);exact⟨af,m,d,N,da.qi E (jA c)⟩
noncomputable abbrev iX:=Nat->i5
def oo (I:cO)(p:i5)(A:m5):ih:=match A with
 |none=>.od|some t=>(match p with |none=>.qh (gG I) t |some u=>.qh (YW u (gG I)) t)
abbrev eV (I:cO)(aH:iX)(x:aZ):List ih:=x.mapIdx λO A=>oo I (aH O) A
variable {aH:iX}{x:aZ}{l:L2.ck}{O:Nat}{c5:bt}{R:aq}
theorem vE (a:x[O]?=D A):(eV I aH x)[O]?=D (oo I (aH O) A):=by simp_all
theorem Bm:(eV I aH x).set O (oo I (aH O) A)=eV I aH (x.set O A):=by grind
theorem aas {p:i5} {X:i5}(Y:(oo I p A).Z X F):(nA I A).Z X F:=by
 cases A with
 |none=>trivial|some t=>cases p with  |_=>exact Y
theorem rC (Y:gY (eV I aH x) l F):gY (hh I x) l F:=by
 intro O z e;rw[gS]at e;cases G:x[O]? with
 |none=>rw[G]at e;cases e|some A=>
  rw[G]at e;cases e;exact aas (Y O _ (vE G))
theorem xV {p:i5} {X:i5}(Y:(oo I p (D t)).P X F af):∃v,X=D v/\(∀u,p=D u->v=u)/\bC I t v F af:=by
 cases p with
 |none=>obtain⟨v,e,A⟩:=Y;exact⟨v,e,(λu G=>by cases G),A⟩|some u=>obtain⟨v,e,G,A⟩:=Y;exact⟨v,e,(λa q=>by lia),A⟩
theorem Bn {p:i5}(hw:∀u,p=D u->v=u)(A:bC I t v F af):(oo I p (D t)).P (D v) F af:=by
 cases p with
 |none=>exact⟨v,rfl,A⟩|some u=>exact⟨v,rfl,hw u rfl,A⟩
theorem Bo (e:da (eV I aH x) l F Y)(aE:x[O]?=D (D t))(f:t.at c5=D R):
  ∃v u af ai,l[O]?=D (D v)/\(∀Q,bx F Q->bx Y Q->lY Q v c5=D u)/\cQ af ai Y/\bC I R u F af/\∀cS a4 a aF,bx F a4->bC I cS u a4 a->cQ a ai aF->da (eV I aH (x.set O (D (t.gE c5 cS)))) l a4 aF:=by
 obtain⟨A,L,j,aR,h,k,w⟩:=da.vD e (vE aE);obtain⟨v,rfl,m,o⟩:=xV k;obtain⟨u,s,c,y,B,C,g⟩:=o.focus f;obtain⟨S,b,E⟩:=ja B h;refine⟨v,u,s,S,aR,(λQ bf bo=>y Q bf (h.s.ct bo)),E,C,λcS a4 a aF z b3 d=>?_⟩
 have J:c4 a c:=λV=>by
  rcases d.f_ V with G |G
  ·exact .inl G
  ·exact .inr (b.s.cz G)
 have:=w (oo I (aH O) (D (t.gE c5 cS))) (D v) a4 (aK a c) aF z (Bn m (g cS a4 a _ z b3 (fZ J))) ?_
 ·rw[Bm,Bl aR]at this;exact this
 ·intro V
  unfold aK;rcases d V with⟨G,p⟩|⟨G,p⟩
  ·rw[G,p]
   rcases b V with⟨q,n⟩|⟨q,n⟩
   ·left;exact⟨q,n⟩
   ·right;exact⟨q,n⟩
  ·rw[p]
   have K:j V=i:=b.E.cz G;right;refine⟨K,?_⟩;cases q:a V with
   |none=>exact(b.s.cz G).symm|some A=>rfl
end
inductive b8 (z aP:Type) where
 |f (S:aP) (n:z)|aT (R:m2) (n:z)|aU
noncomputable abbrev bY:=bO->b8 bO aq
abbrev rD:=List (Str×bY)
def bY.b4 (w:bY)(ab:bO):Mo aq:=match w ab with |.f t _=>.f t |.aT R _=>.aT R |.aU=>.aU
section
variable {I:jv}{k:cg}{F a4 bE bk Y af ai Q ay:ar}{t:aq}{ab:bO}{v:aS}{ae a:bp}{C:iF}{N:ba}{o:cm}{x:aZ}{n:b1}{E:eY}{bG:fY}{gc:pl}{w:bY}
def Gi (I:cO)(E:b8 bO aq)(k:cg)(bE bk:ar)(a:bp)(o:cm):Prop:=match E with
 |.f t ab=>∀v F Y Q b ai,dG bE bk F Y Q->cQ b ai Y->bC I t v F b->bL I ab a F ai->o v Q|.aT R ab=>∀F Y Q,dG bE bk F Y Q->bL I ab a F Y->kN I k R bk F Q|.aU=>False
def f3 (I:cO)(w:bY):gW:=λa Q o k=>∃F Y ab,bx F Q/\c4 F Y/\bx Y Q/\bL I ab a F Y/\Gi I (w ab) k F (gm Q Y) a o
theorem Gj (c:bx F Q)(d:cc I ab a F)(V:cC I (w.b4 (ab.map aq.bM)) k F Q (fF (gG I) Q o)):f3 I w a Q o k:=by
 refine⟨F,λ_=>i,ab.map _,c,λ_=>.inr rfl,(λN A G=>by cases G),bL.bM (λ_=>rfl) d,?_⟩
 unfold bY.b4 at V;cases e:w _ with
 |aU=>rwa[e]at V|f t dJ=>
  rw[e]at V;intro v a4 aF ay b ai ok h A _;refine V a4 ay ok.1 v b (λN G=>ok.2.2.2.1 N ?_) (xD ok.2.1 h) (h.s.ct ok.2.2.1) A
  cases q:b N with
  |none=>exact absurd q G|some p=>rw[h.s _ _ q];exact fQ _
 |aT R dJ=>rw[e]at V;exact λa4 aF ay ok _=>V a4 ay ok.1
theorem aat (Y:lX I bG k x gc):dH I (rd (f3 I w) [] k bG) k x (gc.aC λab=>w.b4 (ab.map aq.bM)):=by
 intro l F Q o b c V;refine vC Y l F Q _ b c (V.aC.de λab bF aw x1 d a e=>?_)
 rw[l_];exact Gj x1.2.1 e (d.de λE av a7 x2 f=>f.ej x1.2.2.1)
theorem Gk:∀{a:c_}{ae:bp}{w:Str}{v:aS},ae[a.idxOf w]?=D v->a.length=ae.length->(a.zip ae).lookup w=D v
 |[],ae,w,v,Y,s=>by simp_all
 |y::a,[],w,v,Y,s=>by simp at s
 |y::a,u::ae,w,v,Y,s=>by
  rw[kB,Jx];by_cases e:y=w
  ·simp_all
  ·rw[JB,beq_eq_false_iff_ne.mpr e]at Y
   rw[beq_eq_false_iff_ne.mpr λG=>e G.symm]
   exact Gk Y (by simpa using s)
def Bp (I:cO)(a:c_)(n:b1)(w:Str):b1:=λl Q o=>∃R∈a,MP (dz I R) n w l Q o
def jT (a:c_)(w:Str)(t:aq):Mo aq:=match t.aK with
 |.az (.dV R b) ab=>if R∈a then .fj ((ab[b.idxOf w]?).map .bM)else .aU
 |_=>.aU
theorem aau {a:c_}{w:Str}(j:a≠[])(m:dH I n k x E):dH I (Bp I a n w) k x (E.aC (jT a w)):=by
 intro l F Q o q u V;have h:∀R∈a,(∀t,E=.f t->∃b ab,t.aK=.az (.dV R b) ab)->Bp I a n w l Q o:=λR c y=>⟨R,c,by
  refine hj m l F Q _ q u ?_;cases e:E with
  |aU=>rw[e]at V;exact V|aT X=>rw[e]at V;exact V|f t=>
   obtain⟨b,ab,aB⟩:=y t e;rw[e]at V;intro bF aw x1 v d;have d:=bD.aK d;rw[aB]at d;obtain⟨N,ae,rfl,⟨bS,z,s⟩,A⟩:=d.az;have V:cC I (jT a w t) k F Q _:=V;unfold jT at V;rw[aB]at V;dsimp only at V;rw[if_pos c]at V;obtain⟨eh,B,V⟩:=V.fj;obtain⟨L,g,rfl⟩:=iR.mp B;rcases A.g8 (b.idxOf w)with⟨G,_⟩|⟨M,p,C,J,K⟩
   ·rw[G]at g;cases g
   ·rw[C]at g;cases g
    refine⟨bS,_,p,x1.2.1 _ _ z,Gk J s,?_⟩;exact Bg (k:=k) (λav a7 x2=>(V av a7 (x1.ct x2)).ej x1.2.2.1) x1.2.1 K⟩
 cases e:E with
 |aU=>rw[e]at V;exact V.elim|f t=>
  rw[e]at V;have dq:cC I (jT a w t) k F Q (fF (gG I) Q o):=V;unfold jT at dq;split at dq
  ·rename_i R b ab aB
   by_cases c:R∈a
   ·exact h R c λeh G=>by rw[e]at G;cases G;exact⟨b,ab,aB⟩
   ·rw[if_neg c]at dq;exact dq.elim
  ·exact dq.elim
 |aT X=>
  cases a with
  |nil=>exact absurd rfl j|cons R a=>exact h R (eI ..) λeh G=>by rw[e]at G;cases G
def Ny (t:aq):Mo bO:=match t.aK with
 |.d s=>.f (s.map λR=>.d [R])|.az .aM j=>.f j|.az .bb j=>.f j|.az .dR j=>.f j|.az .iW j=>.f j|_=>.aU
theorem Nz (c:d1 I bF N ae)(E:cc I ab ae bF):vj I (Em I N) ab (gb I) bF:=by
 refine⟨λO Q X a d=>?_,λQ a=>⟨ae,a.seq c,by rw[E.cn];exact cZ _⟩⟩
 rcases E.g8 O with⟨S,_⟩|⟨q,u,S,b,R⟩
 ·lia
 ·rw[S]at d;cases d
  refine⟨⟨ae,u,a.seq c,b⟩,?_⟩;rintro v ay ⟨rfl,G⟩ F f g;have e:=G ae (a.seq c);rw[b]at e;cases e;exact⟨F,.fu g,(gb I).bQ f R⟩
theorem NA (c:∀Q,bx bF Q->fL I Q N ae)(E:cc I ab ae bF):vj I (En I N) ab (gb I) bF:=by
 refine⟨λO Q X a d=>?_,λQ a=>⟨ae,c Q a,by rw[E.cn];exact cZ _⟩⟩
 rcases E.g8 O with⟨S,_⟩|⟨q,u,S,b,R⟩
 ·lia
 ·rw[S]at d;cases d
  refine⟨⟨ae,u,c Q a,b⟩,?_⟩;rintro v ay ⟨rfl,G⟩ F f g;have e:=G ae (c _ a);rw[b]at e;cases e;exact⟨F,.fu g,(gb I).bQ f R⟩
def NB (I:cO)(a:bp)(l:L2.ck)(aw:ar)(a3:kg->ar->Prop):Prop:=match a with |[X]=>LQ I (hy X) l aw a3 |_=>False
def tG (I:cO)(k:cg)(c:bp->L2.ck->ar->(kg->ar->Prop)->Prop)(g:bO->pl):Prop:=
 ∀ab a l bF aw a3,bx bF aw->cc I ab a bF->cC I (g ab) k bF aw (λj a4 ay=>∀b,vj I b j (gb I) a4->a3 b ay)->c a l aw a3
theorem aav {g:bO->pl}(p:tG I k wi g)(b:lX I bG k x gc):vk I (λl Q a3=>bG l Q λa aw=>wi a l aw a3) k (hh I x) (gc.aC g) (gb I):=by
 intro l F Q a3 c d V;exact vC b l F Q _ c d (V.aC.de λab bF aw x1 e a f=>p ab a l bF aw a3 x1.2.1 f e)
def pq (ab:bO):Mo bO:=match ab with |[t]=>Ny t |_=>.aU
theorem aaw:tG I k (NB I) pq:=by
 intro ab a l bF aw a3 x1 g b;unfold pq at b;split at b
 rotate_left
 ·exact b.elim
 obtain⟨v,rfl,h⟩:=cc.cW g;have c:=bD.aK h;unfold Ny at b;split at b
 ·rename_i s e;rw[e]at c;cases c.d
  refine b.f x1 _ ⟨λO Q X f d=>?_,λQ f=>?_⟩
  ·rw[gS]at d
   cases e:s[O]? with
   |none=>rw[e]at d;cases d|some R=>
    rw[e]at d;cases d;have aE:=(ia.mp e).1;refine⟨aE,?_⟩;rintro v ay ⟨rfl,rfl⟩ F _ j;refine⟨F,.fu j,?_⟩;show bD I (.d [R]) (eX [s.getD O 0]) F
    rw[nv,e];unfold bD;rfl
  ·show s.length<=_
   rw[cE];exact cZ _
 ·rename_i e;rw[e]at c;obtain⟨N,ae,rfl,y,E⟩:=c.az
  exact .inl ⟨⟨ae,.of (x1 _ _ y)⟩,b.f x1 _ (Nz (.of y) E)⟩
 ·rename_i e;rw[e]at c;obtain⟨N,ae,rfl,y,E⟩:=c.az
  exact .inr ⟨⟨ae,.of (x1 _ _ y)⟩,b.f x1 _ (NA (λQ f=>.of (f _ _ y)) E)⟩
 ·rename_i e;rw[e]at c;obtain⟨N,ae,rfl,y,E⟩:=c.az
  exact .inl ⟨⟨ae,x1.seq y⟩,b.f x1 _ (Nz y E)⟩
 ·rename_i e;rw[e]at c;obtain⟨N,ae,rfl,y,E⟩:=c.az
  exact .inr ⟨⟨ae,.inr y⟩,b.f x1 _ (NA (λQ f=>.inr y) E)⟩
 ·exact b.elim
theorem NC {a8:Int}{y:Nat}{bF:ar}:vj I (o4 a8 y) ((gF a8 y).map aq.c) (gb I) bF:=by
 have q:=X2 (I:=I) (a8:=a8) (y:=y) (bF:=bF);refine⟨λO Q X a b=>?_,λQ a=>by rw[cE];exact q.p8 Q a⟩
 rw[gS]at b;obtain⟨S,c,rfl⟩:=iR.mp b;obtain⟨g,G⟩:=q.eU O Q S a c;trivial
def tH (ab:bO):Mo bO:=match ab with
 |[t]=>(mC t).aC λh=>.ea (-(2 ^ 62)<=h/\h<2 ^ 62) (.f ((gF 0 h.toNat).map .c))|_=>.aU
def Bq (ab:bO):Mo bO:=match ab with
 |[R,t]=>(mC R).aC λO=>(mC t).aC λh=>.ea (-(2 ^ 62)<=O/\O<2 ^ 62 /\ -(2 ^ 62)<=h/\h<2 ^ 62) (.f ((gF O (h-O).toNat).map .c))|_=>.aU
theorem xW {C:Int->Mo aP}(V:cC I ((mC t).aC C) k F Q iz)(a:bD I t v ay):∃O,v=.c O/\cC I (C O) k F Q iz:=by
 have a:=bD.aK a;unfold mC at V;split at V
 ·rename_i O e;rw[e]at a;exact⟨O,a.c,V⟩
 exact V.elim
theorem aax:tG I k (λa _ aw a3=>match a with |[.c h] => -(2 ^ 62)<=h/\h<2 ^ 62/\a3 (o4 0 h.toNat) aw |_=>False) tH:=by
 intro ab a l bF aw a3 x1 c b;unfold tH at b;split at b
 ·obtain⟨v,rfl,S⟩:=cc.cW c
  obtain⟨O,rfl,b⟩:=xW b S;obtain⟨G,b⟩:=b.ea;exact⟨G.1,G.2,b.f x1 _ NC⟩
 exact b.elim
theorem aay:tG I k (λa _ aw a3=>match a with |[.c O,.c h]=>(-(2 ^ 62)<=O/\O<2 ^ 62 /\ -(2 ^ 62)<=h/\h<2 ^ 62)/\a3 (o4 O (h-O).toNat) aw |_=>False) Bq:=by
 intro ab a l bF aw a3 x1 d c;unfold Bq at c;split at c
 ·obtain⟨v,e,rfl,S,b⟩:=cc.jR d
  obtain⟨O,rfl,c⟩:=xW c S;obtain⟨h,rfl,c⟩:=xW c b;obtain⟨G,c⟩:=c.ea;exact⟨G,c.f x1 _ NC⟩
 exact c.elim
def vF (ab:bO):Mo bO:=match ab with
 |[t]=>(match t.aK with
  |.az .aM j=>.f ((mx j).map λV=>.az .bb [.c V.1,V.2])|_=>.aU)
 |_=>.aU
theorem aaz:tG I k (λa _ aw a3=>∃S,a=[.a0 S]/\(∃j,d1 I aw S j)/\a3 (An I S) aw) vF:=by
 intro ab a l bF aw a3 x1 g c;unfold vF at c;split at c
 ·rename_i t
  obtain⟨v,rfl,S⟩:=cc.cW g;have S:=bD.aK S;split at c
  ·rename_i j e;rw[e]at S;obtain⟨N,ae,rfl,y,E⟩:=S.az
   refine⟨N,rfl,⟨ae,.of (x1 _ _ y)⟩,c.f x1 _ ⟨λO Q X d f=>?_,λQ d=>?_⟩⟩
   ·rw[gS,Fi]at f
    rcases E.g8 O with⟨S,_⟩|⟨q,u,S,b,R⟩
    ·simp_all
    ·rw[S]at f;cases f
     refine⟨⟨ae,u,.of (d _ _ y),b⟩,?_⟩;rintro v ay ⟨dI,p,G,h,rfl,rfl⟩ F m n;have e:=G ae (.of (d _ _ y));rw[b]at e;cases e;have X:=f9.el (A:=.bb [.c O,u]) n h;refine⟨_,X,?_⟩;unfold bD;refine⟨dI,_,rfl,jL,?_⟩;unfold cc;refine⟨_,_,rfl,rfl,?_⟩;unfold cc;exact⟨u,[],rfl,R.bQ (m.ct X.1),rfl⟩
   ·refine⟨ae,.of (d _ _ y),?_⟩
    rw[cE,Fj,E.cn];exact cZ _
  ·exact c.elim
 ·exact c.elim
structure kl where
 bb:Bool
 is:bt
def Br (g:kl)(t:aq):Option bO:=if g.bb then(match t.aK with |.az .bb ab=>if ab.length=g.is.length then D ab else i |.az .aM ab=>if ab.length=2/\g.is.length=2 then D ab else i |_=>i)else if g.is.length=1 then D [t]else i
def vG:bt->kH
 |[]=>LR|O::is=>LS (o1 O) (vG is)
def aaA (I:cO)(y:Nat)(n:kH):i7:=λv l Q o=>LU I y n v l Q o\/y=2/\MZ I n v l Q o
def qq (I:cO)(g:kl):i7:=if g.bb then aaA I g.is.length (vG g.is)else o1 (g.is.headD 0)
def Gl (I:cO)(g:kl):hC bO:=⟨λab v F=>ab.length=g.is.length/\if g.bb then∃N ae,v=.a0 N/\(F N=D (.bb ae)\/g.is.length=2/\F N=D (.aM ae))/\cc I ab ae F else cc I ab [v] F,
 λ{ab v Q ay} z V=>⟨V.1,by
  have V:=V.2;split at V
  ·rename_i e;rw[if_pos e];obtain⟨N,ae,aR,aB,a⟩:=V;exact⟨N,ae,aR,aB.imp (z _ _) λG=>⟨G.1,z _ _ G.2⟩,a.bQ z⟩
  ·rename_i e;rw[if_neg e];exact V.bQ z⟩⟩
def xX (I:cO)(is:bt)(ab:bO):List (Nat×ih):=is.zip (ab.map λt=>.aL (gb I) t)
theorem Bs:∀{is:bt}{ab:bO}{ae:bp}{l:L2.ck}{F Q:ar}{o:L2.ck->ar->Prop},ab.length=is.length->cc I ab ae F->(∀a,rr F (xX I is ab) a->o (rq l a) Q)->vG is ae l Q o
 |[],[],ae,l,F,Q,o,_,E,V=>by subst E;exact V [] .nil
 |O::is,t::ab,ae,l,F,Q,o,s,E,V=>by
  obtain⟨v,a,rfl,S,E⟩:=E;exact Bs (l:=l.set O _) (by simpa using s) E λaH hw=>V _ (.cons S hw)
 |[],_::_,_,_,_,_,_,s,_,_=>by simp at s
 |_::_,[],_,_,_,_,_,s,_,_=>by simp at s
theorem ND (g:kl):Ml I (qq I g) (Gl I g) (xX I g.is):=by
 rintro ab v l F Q o d ⟨b,a⟩ V;unfold qq;split at a
 ·rename_i e;rw[if_pos e]
  obtain⟨N,ae,rfl,c |⟨ai,c⟩,E⟩:=a
  ·exact .inl ⟨ae,.of (d _ _ c),by rw[<- E.cn,b],Bs b E V⟩
  ·obtain⟨X,n,rfl⟩:=kz (show ae.length=2 by rw[<- E.cn,b,ai])
   obtain⟨q,rfl⟩:=qW.mp (show n.length=1 by have:=E.cn;rw[b,ai]at this;simpa using this.symm)
   exact .inr ⟨ai,X,q,.of (d _ _ c),Bs b E V⟩
 ·rename_i e;rw[if_neg e]
  match Y:g.is,ab,b,a,V with
  |[O],[t],_,a,V=>
   obtain⟨_,e,S⟩:=cc.cW a;cases e;exact V [(O,D v)] (.cons S .nil)
  |[],ab,b,a,_=>rw[qV.mp b]at a;trivial|_::_::_,t::e::ab,_,a,_=>obtain⟨_,_,G,_,E⟩:=a;cases G;unfold cc at E;simp_all
def ij (g:kl):List aq->Option (List bO)
 |[]=>D []|t::ab=>(Br g t).bind λX=>(ij g ab).map λj=>X::j
theorem NF {g:kl}{X:bO}(e:Br g t=D X)(Y:bD I t v F):(Gl I g).a3 X v F:=by
 unfold Br at e;split at e
 ·rename_i G
  have Y:=bD.aK Y;split at e
  ·rename_i ab aB
   rw[aB]at Y;obtain⟨N,ae,rfl,y,E⟩:=Y.az;split at e
   ·rename_i s;cases e;exact⟨s,by rw[if_pos G];exact⟨N,ae,rfl,.inl y,E⟩⟩
   ·cases e
  ·rename_i ab aB
   rw[aB]at Y;obtain⟨N,ae,rfl,y,E⟩:=Y.az;split at e
   ·rename_i s;cases e;exact⟨s.1.trans s.2.symm,by rw[if_pos G];exact⟨N,ae,rfl,.inr ⟨s.2,y⟩,E⟩⟩
   ·cases e
  ·cases e
 ·rename_i G
  split at e
  ·rename_i s;cases e;exact⟨s.symm,by rw[if_neg G];unfold cc;exact⟨v,[],rfl,Y,by unfold cc;rfl⟩⟩
  ·cases e
theorem Gm {g:kl}:∀{ab:bO}{j:List bO},ij g ab=D j->j.length=ab.length/\∀(O:Nat) X,j[O]?=D X->∃t,ab[O]?=D t/\Br g t=D X
 |[],_,e=>by cases e;exact⟨rfl,λO X Y=>by simp at Y⟩
 |t::ab,_,e=>by
  unfold ij at e;obtain⟨X,aR,e⟩:=hv.mp e;obtain⟨j,aB,rfl⟩:=iR.mp e;obtain⟨s,w⟩:=Gm aB;refine⟨by simp_all,λO q Y=>?_⟩
  cases O with
  |zero=>simp at Y;subst Y;exact⟨t,rfl,aR⟩|succ O=>exact w O q (by simpa using Y)
theorem aaB (g:kl)(Y:vk I wi k L rs (gb I)):vk I wi k L (rs.aC λs=>.fj (ij g s)) (Gl I g):=by
 intro l F Q a3 d f V;refine Y l F Q _ d f (V.aC.de λab bF aw x1 a h c=>?_)
 obtain⟨j,e,a⟩:=a.fj;obtain⟨s,w⟩:=Gm e;refine a.f x1.2.1 h ⟨λO Q X b m=>?_,λQ b=>by rw[s];exact c.p8 Q b⟩
 obtain⟨t,n,aB⟩:=w O X m;obtain⟨o,G⟩:=c.eU O Q t b n;refine⟨o,λv ay V F p q=>?_⟩
 obtain⟨a4,u,x⟩:=G v ay V F p q;exact⟨a4,u,NF aB x⟩
def jb (x:aZ):List Nat->bO->aZ
 |O::is,t::ab=>jb (x.set O (D t.bM)) is ab
 |_,_=>x
def hT (b2:c_)(bN:jJ)(x:aZ):aZ:=b2.map (λ_=>i)++bN.map λV=>(x[V.2]?).join
theorem aaC {bN:jJ}:cX b2 bN (hh I x)=hh I (hT b2 bN x):=by
 unfold cX hT;show _=List.map _ _
 rw[iQ,gT,gT];congr 1;refine sf λV _=>?_
 simp only[Function.comp,gS];cases x[V.2]? with
 |_=>rfl
def vH (L a:iD):Prop:=∀(O:Nat) bc,a[O]?=D bc->∃z,L[O]?=D z/\∀A F,z.Z A F->bc.Z A F
theorem vH.NG (G:vH L L')(Y:gY L l F):gY L' l F:=λO bc e=>by
 obtain⟨z,aR,aB⟩:=G O bc e;exact aB _ _ (Y O z aR)
theorem NH:∀{is:bt}{ab:bO}{L:iD}{x:aZ},vH L (hh I x)->vH (vi L (xX I is ab)) (hh I (jb x is ab))
 |[],_,_,_,G=>G|_::_,[],_,_,G=>G|O::is,t::ab,L,x,G=>by
  refine NH (is:=is) (ab:=ab) (L:=L.set O (.aL (gb I) t))  ?_;intro h bc e;rw[gS,zd]at e;by_cases a:O=h
  ·subst a
   rw[if_pos rfl]at e;by_cases c:O<x.length
   ·rw[if_pos c]at e
    cases e;obtain⟨z,aR,_⟩:=G O _ (by rw[gS,gx c];rfl)
    refine⟨.aL (gb I) t,by rw[uy (ia.mp aR).1],?_⟩
    rintro A F ⟨v,aB,b⟩;refine⟨v,aB,?_⟩;unfold aq.bM;split
    ·exact b
    ·split
     ·exact b
     ·unfold bD;exact b
   simp_all
  ·rw[if_neg a]at e
   obtain⟨z,aR,aB⟩:=G h bc (by rw[gS];exact e)
   exact⟨z,by rw[j9 a];exact aR,aB⟩
theorem aaD:vH L L:=λO z e=>⟨z,e,λ_ _ Y=>Y⟩
theorem aaE (Y:(vt (gG I)).br ab v F af):bC I (.az .aM ab) v F af:=by
 obtain⟨N,a,ai,rfl,h,V⟩:=Y;have b:∀{ab:bO}{a:bp}{Y:ar},kS (gG I) F ab a Y->bL I ab a F Y:=λ{ab}=>by
  induction ab with
  |nil=>intro a Y V;cases a with |nil=>trivial |cons=>exact V.elim
  |cons t ab c=>intro a Y V;cases a with |nil=>exact V.elim |cons v a=>obtain⟨af,ai,h,S,E⟩:=V;exact⟨v,a,af,ai,rfl,h,S,c E⟩
 exact⟨N,a,_,ai,rfl,rfl,h,b V⟩
theorem aaF {bN:jJ} {g:kl} {R:bO->pd}{w:bO->eY}(aE:vk I wi k (hh I x) rs (gb I))(c:∀O∈g.is,O<b2.length)
  (d:∀S,m3 I jq jO (hh I (jb (hT b2 bN x) g.is S)) (R S)) (f:∀S,dH I eC jO (jb (hT b2 bN x) g.is S) (w S)):
  dH I (xe b2 bN wi (qq I g) jq eC) k x ((rs.aC λs=>.fj (ij g s)).aC λj=>(lT (λX=>lU (R X) (w X)) j []).aC λaV=>.f (.az .aM aV)):=by
 have G:∀S,vH (vi (cX b2 bN (hh I x)) (xX I g.is S)) _:=λS=>NH (by rw[aaC];exact aaD)
 have:=Y4   (aaB g aE) (ND g) (λS O aE z e=>by
  have:O∈g.is:=by
   obtain⟨V,h,rfl⟩:=fk.mp aE;exact(sj h).1
  have n:=c O this;unfold cX at e;rw[ux (by rwa[cE]),gS,gx n]at e
  cases (e);rfl) (λS l F Q o a b V=>d S l F Q o ((G S).NG a) b V) (λS l F Q o a b V=>f S l F Q o ((G S).NG a) b V)
 intro l F Q o a b V;refine this l F Q o a b ?_;have e:∀(m:Mo _),(m.aC λj=>(lT _ j []).aC λaV=>.f (aq.az .aM aV))=(m.aC λj=>lT (λX=>lU (R X) (w X)) j []).aC λaV=>.f _:=λm=>(Mo.XM _ _ _).symm
 rw[e]at V;exact V.aC.de λaV bF aw x1 p v C q t z A=>p.f x1.2.1 v C q t z (aaE A)
end
def Gn:ez:=λX q Q o=>vB X q Q λ_ bl C=>∃v,hB bl C=D v/\o v Q
def NI (cM:Bool):ez:=λq X Q o=>vB X q Q λ_ bl C=>o (.aQ (if cM then !(hB bl C).isSome else(hB bl C).isSome)) Q
def Gp (I:cO):ez:=λX q Q o=>Aw I X q Q o\/Gn X q Q o
def xY (I:cO)(cM:Bool):ez:=λX q Q o=>xi I cM X q Q o\/NI cM X q Q o
def Gq (I:cO):List aS->ar->cm->Prop:=λa Q o=>Ay I a Q o\/Bk a Q o
section
variable {H:bU}
theorem aaG (t:H.r.units+60<cLine):sY H Gn:=by
 intro kL c aj z l Q X q v u o a d e Y f;obtain⟨S,bl,C,rfl,rfl,h,p,hw,V⟩:=F6 Y;obtain rfl:v=kc S:=d;have g:xu Q S (iv C) (D p):=by rw[<- hw];exact .inl ⟨bl,C,h,rfl,rfl⟩
 have j:=XG a g;refine bR ?_;refine bR (wpAny_specialOf j PySem.F.slot_dict_getitem.lookup ?_);have k:bT (model H.cu H.p) H.r (subscripted c aA (.ref S) u) (λE b=>bT (model H.cu H.p) H.r (letTemporaryGo kL (.ref S) E>>=λ_=>pure E) (kG H aj l o) H.fm b) H.fm z:=by
  rw[f];exact wpAny_operating (kx (XB  (by lia) a g e λw x m n=>⟨p,Q,m,n,V⟩) (λE b s=>bR (wpAny_letTemporaryGo (dQ s))) λ_ _ X=>X)
 exact dQ (bR k)
theorem NJ (f:H.r.units+60<cLine):sY H (Gp H.I):=λkL a aj z l Q X q v u o b c d Y e=>by
 rcases Y with Y |Y
 ·exact WN kL a aj z l Q X q v u o b c d Y e
 exact aaG f kL a aj z l Q X q v u o b c d Y e
theorem aaH (f:H.r.units+60<cLine):dF H (e0 .In) (xY H.I aA):=λaj z l Q X q v u o a b c Y=>by
 rcases Y with Y |Y
 ·exact WC aj z l Q X q v u o a b c Y
 ·obtain⟨S,bl,C,rfl,rfl,d,V⟩:=F6 Y
  cases c;exact XC (by lia) a (.inl ⟨bl,C,d,rfl,rfl⟩) b λg e=>⟨.aQ _,Q,e,rfl,V⟩
theorem aaI (f:H.r.units+60<cLine):dF H (e0 .NotIn) (xY H.I ag):=λaj z l Q X q v u o a b c Y=>by
 rcases Y with Y |Y
 ·exact WD aj z l Q X q v u o a b c Y
 ·obtain⟨S,bl,C,rfl,rfl,d,V⟩:=F6 Y
  cases c;exact XD (by lia) a (.inl ⟨bl,C,d,rfl,rfl⟩) b λg e=>⟨.aQ _,Q,e,rfl,V⟩
theorem aaJ:i9 H (.builtin "len") (Gq H.I):=λaj z l Q j ae o a E Y=>by
 rcases Y with Y |Y
 ·exact WR aj z l Q j ae o a E Y
 exact aam aj z l Q j ae o a E Y
end
section
variable {I:jv}{k:cg}{F a4 Y af ai Q ay:ar}{t:aq}{ab:bO}{v:aS}{ae a:bp}{C:iF}{N:ba}{o:cm}{x:aZ}{n:b1}{E bI bW:eY}{bG:fY}{gc:pl}{w:bY}
def Gr (t:aq):Bool:=match t.aK with |.az (.gP _) _=>ag |_=>aA
def df (S b:aq):Mo aq:=if Gr S then F4 S b else F2 S b
theorem aaK:iG I Gn k F4:=by
 intro S b X q F Q o c a f V;have a:=bD.aK a;unfold F4 at V;split at V
 ·rename_i g ab C aR aB
  rw[aR]at a;obtain⟨N,ae,rfl,y,E⟩:=a.az;obtain⟨t,e,V⟩:=V.fj;obtain⟨n,d,rfl⟩:=iR.mp e;rcases F3 (C:=C) (b:=g) E with⟨af,ai⟩|⟨eh,h,j,l,m⟩
  ·simp_all
  ·rw[j]at d;cases d
   exact F7 rfl (xR aB f).1 (vz c y.1) ⟨h,l,Bg V c m⟩
 exact V.elim
theorem aaL:iG I (Gp I) k df:=by
 intro S b X q F Q o a c d V;unfold df at V;split at V
 ·exact .inr (aaK S b X q F Q o a c d V)
 exact .inl (ZZ S b X q F Q o a c d V)
def nK (cM:Bool)(S b:aq):Mo aq:=if Gr b then F5 cM S b else Ga cM S b
theorem aaM:iG I (NI cM) k (F5 cM):=by
 intro S b X q F Q o c f a V;have a:=bD.aK a;unfold F5 at V;split at V
 ·rename_i d ab C aR aB
  rw[aR]at a;obtain⟨N,ae,rfl,y,E⟩:=a.az;refine F7 rfl (xR aB f).1 (vz c y.1) ?_;have e:(hB (d.zip ae) C).isSome=(om d ab C).isSome:=by
   rcases F3   E with⟨af,ai⟩|⟨eh,g,h,j,l⟩
   ·rw[af,ai];rfl
   simp_all
  rw[e];exact jS V c
 exact V.elim
theorem aaN:iG I (xY I cM) k (nK cM):=by
 intro S b X q F Q o a c d V;unfold nK at V;split at V
 ·exact .inr (aaM S b X q F Q o a c d V)
 exact .inl (aac S b X q F Q o a c d V)
def m8 (ab:bO):Mo aq:=match ab with |[t]=>if Gr t then Nv ab else Nu ab |_=>.aU
theorem aaO:mD I (Gq I) k m8:=by
 intro ab a F Q o b c V;unfold m8 at V;split at V
 ·split at V
  ·exact .inr (aan _ a F Q o b c V)
  exact .inl (aal _ a F Q o b c V)
 exact V.elim
def qr (w:bY)(R:Str)(ab:bO):Mo aq:=match w (.az (.dV R []) []::ab.map .bM)with
 |.f .a9 (A::_)=>.f A|.aT X _=>.aT X|_=>.aU
theorem tI:jR N bS A V=if V=N then D A else if V=bS then D (.fl N)else i:=rfl
theorem NK:∀{ab ax:bO}{a ae:bp}{F:ar},cc I ab a F->cc I ax ae F->cc I (ab++ax) (a++ae) F
 |[],_,_,_,_,Y,g=>by subst Y;exact g
 |t::ab,_,_,_,_,Y,g=>by obtain⟨v,a,rfl,S,E⟩:=Y;exact⟨v,_,rfl,S,NK E g⟩
theorem aaP {R:Str}(y:lX I bG k x gc)(z:∀F,cc I γ fT F):dH I (u1 (dz I R) (f3 I w) fT k bG) k x (gc.aC λab=>qr w R (ab++γ)):=by
 intro l F Q o B C V;refine vC y l F Q _ B C (V.aC.de λab bF aw x1 b a c=>?_)
 intro X bS d g ne;have c:=NK c (z bF);have b:=b.de λS O P x3 E=>E.ej x1.2.2.1
 have J:bx aw (cq (cq aw bS (.fl X)) X (.fg (dz I R) bS [])):=(pb g _).ct (pb (by rw[f6 λG=>ne G.symm];exact d) _)
 have K:gm (cq (cq aw bS (.fl X)) X (.fg (dz I R) bS [])) (jR X bS (.fg (dz I R) bS []))=aw:=funext λN=>by
  unfold gm;rw[tI];by_cases e:N=X
  ·subst e;rw[if_pos rfl];exact d.symm
  ·rw[if_neg e]
   by_cases aB:N=bS
   ·subst aB;rw[if_pos rfl];exact g.symm
   ·rw[if_neg aB,f6 e,f6 aB]
 refine⟨bF,jR X bS (.fg (dz I R) bS []),.az (.dV R []) []::(ab++γ).map .bM,x1.2.1.ct J,λN=>?_,λN A G=>?_,?_,?_⟩
 ·rw[tI]
  by_cases e:N=X
  ·subst e;exact .inl (x1.2.1.cz d)
  ·rw[if_neg e]
   by_cases aB:N=bS
   ·subst aB;exact .inl (x1.2.1.cz g)
   ·rw[if_neg aB];exact .inr rfl
 ·rw[tI]at G
  by_cases e:N=X
  ·subst e;rw[if_pos rfl]at G;cases G;exact jL
  ·rw[if_neg e]at G
   by_cases aB:N=bS
   ·subst aB;rw[if_pos rfl]at G;cases G;rw[f6 e];exact jL
   ·rw[if_neg aB]at G;cases G
 ·unfold bL
  refine⟨.a0 X,_,_,λ_=>i,rfl,hi _ λ_=>rfl,?_,bL.bM (λ_=>rfl) c⟩
  unfold bC;exact⟨X,[],_,λ_=>i,rfl,⟨bS,ne,rfl,rfl⟩,hi _ λ_=>rfl,by unfold bL;exact⟨rfl,λ_=>rfl⟩⟩
 ·rw [K]
  unfold qr at b;cases e:w (.az (.dV R []) []::(ab++γ).map .bM)with
  |aU=>rw[e]at b;exact b|aT X dJ=>rw[e]at b;exact λa4 aF ay ok _=>b a4 ay ok.1|f t dJ=>
   rw[e]at b;intro v a4 aF ay T ai ok h n s;split at b
   ·rename_i A iU j
    cases j;refine⟨?_,?_⟩
    ·unfold bC at n;exact n.2.a9
    ·unfold bL at s
     obtain⟨p,aH,m,U,L,u,M,_⟩:=s;cases L;have bf:bx m aF:=u.s.ct h.E;refine b a4 ay ok.1 (.a0 X) m (λN G=>ok.2.2.2.1 N ?_) (xD (A6 ok.2.1 h) u) (bf.ct ok.2.2.1) M
     cases q:m N with
     |none=>exact absurd q G|some p=>rw[bf _ _ q];exact fQ _
   ·rename_i j;cases j
   ·exact b.elim
theorem aaQ {R:Str}(a:lX I bG k x gc):dH I (u1 (dz I R) (f3 I w) [] k bG) k x (gc.aC (qr w R)):=by
 have:=aaP (R:=R) (w:=w) (γ:=[]) a λF=>rfl
 simp_all
def vI (I:cO)(au:rD)(m:Str)(k:cg)(n:b1)(bG:fY):b1:=λl Q o=>∃V∈au,Ad (dz I V.1) m (f3 I V.2) [] k n bG l Q o
def rE (au:rD)(m:Str)(t:aq)(gc:pl):Mo aq:=match t.aK with
 |.az (.dV R a) _=>(match au.find? (λV=>V.1 == R)with |some V=>if m∈a then .aU else gc.aC λab=>V.2.b4 (t.bM::ab.map .bM)|none=>.aU)|_=>.aU
theorem NL:∀{a:c_}{ae:bp}{w:Str},w∉a->(a.zip ae).lookup w=i:=MQ
theorem aaR {au:rD}(q:au≠[])(u:dH I n k x E)(w:lX I bG k x gc):dH I (vI I au m k n bG) k x (E.aC λt=>rE au m t gc):=by
 intro l F Q o d y V;have h:∀g∈au,(∀t,E=.f t->∃b ab,t.aK=.az (.dV g.1 b) ab/\au.find? (λV=>V.1 == g.1)=D g)->vI I au m k n bG l Q o:=λg z A=>⟨g,z,by
  refine hj u l F Q _ d y ?_;cases e:E with
  |aU=>rw[e]at V;exact V|aT X=>rw[e]at V;exact V|f t=>
   obtain⟨b,ab,aB,B⟩:=A t e;rw[e]at V;intro bF aw x1 v j;have p:=bD.aK j;rw[aB]at p;obtain⟨N,ae,rfl,⟨bS,C,s⟩,P⟩:=p.az;have V:cC I (rE au m t gc) k F Q (fF (gG I) Q o):=V;unfold rE at V;rw[aB]at V;dsimp only at V;rw[B]at V;dsimp only at V;split at V
   ·exact V.elim
   ·rename_i J
    refine⟨N,bS,_,rfl,x1.2.1 _ _ C,NL J,?_⟩;have K:cC I (gc.aC λab=>g.2.b4 (t.bM::ab.map aq.bM)) k bF aw (fF (gG I) Q o):=by
     generalize gc.aC (λab=>g.2.b4 (t.bM::ab.map aq.bM))=G at V ⊢
     cases G with
     |aU=>exact V|f S=>exact λav a7 x2=>V av a7 (x1.ct x2)|aT R=>exact λav a7 x2=>(V av a7 (x1.ct x2)).i_ x1.2.2.1
    refine vC w l bF aw _ (d.bQ x1.1) x1.2.1 (K.aC.de λaG av a7 x2 L a M=>?_)
    rw[l_];exact Gj (ab:=t::aG) x2.2.1 (by unfold cc;exact⟨_,_,rfl,(gb I).bQ x2.1 j,M⟩) (L.de λE T U x3 O=>O.ej (x1.2.2.1.ct x2.2.2.1))⟩
 cases e:E with
 |aU=>rw[e]at V;exact V.elim|f t=>
  rw[e]at V;have dq:cC I (rE au m t gc) k F Q (fF (gG I) Q o):=V;unfold rE at dq;split at dq
  ·rename_i R b ab aB
   split at dq
   ·rename_i g c
    have af:g.1=R:=by simpa using JC c
    exact h g (Jk c) λeh G=>by rw[e]at G;cases G;exact⟨b,ab,by rw[af];exact aB,by rw[af];exact c⟩
   ·exact dq.elim
  ·exact dq.elim
 |aT X=>
  cases au with
  |nil=>exact absurd rfl q|cons g au=>exact h g (eI ..) λeh G=>by rw[e]at G;cases G
def tJ:bO->Option kd
 |[]=>D []|t::ab=>(match t.aK with |.d s=>D s |_=>i).bind λX=>(tJ ab).map λj=>X::j
theorem NM:∀{ab:bO}{j:kd}{ae:bp},tJ ab=D j->cc I ab ae Q->ae=j.map eX
 |[],_,_,e,Y=>by cases e;trivial
 |t::ab,_,_,e,Y=>by
  unfold tJ at e;obtain⟨X,aT,e⟩:=hv.mp e;obtain⟨j,b,rfl⟩:=iR.mp e;obtain⟨v,a,rfl,S,E⟩:=Y;have S:=bD.aK S;split at aT
  ·rename_i aB;cases aT;rw[aB]at S;cases S.d;rw[NM b E];rfl
  cases aT
def km (s:bt)(ab:bO):Mo aq:=match ab with
 |[t]=>(match t.aK with |.az .aM j=>(Mo.fj (tJ j)).aC λa=>.ea (JoinOk ⟨s.toArray⟩ (pg a)=ag) (.f (.d (xk s (pg a))))|_=>.aU)|_=>.aU
theorem aaS:∀a:kd,pa (a.map eX)=D (pg a):=NN
 where NN:∀a:List _,pa _=D _
 |[]=>rfl|s::a=>by show(pa _).map _=_;rw[NN a];rfl
theorem aaT:rA I (AE I) k km:=by
 intro s ab a F Q o c d V;unfold km at V;split at V
 ·obtain⟨v,rfl,S⟩:=cc.cW d
  have S:=bD.aK S;split at V
  ·rename_i j e;rw[e]at S;obtain⟨N,ae,rfl,y,E⟩:=S.az
   cases b:tJ j with
   |none=>rw[b]at V;exact V.elim|some f=>
    rw[b]at V;obtain⟨G,V⟩:=cC.ea (V);refine⟨ae,.of (c _ _ y),?_⟩;rw[NM b E,aaS];exact⟨G,nG V c⟩
  exact V.elim
 exact V.elim
def oq (s:bt)(ab:bO):Mo aq:=match ab with
 |[t]=>(match t.aK with |.d R=>.ea (s.length<=100000/\R≠[]) (.f (.az .aM (((ry R s).map .d).map .bM)))|_=>.aU)|_=>.aU
theorem Gs:∀a:kd,cc I (a.map .d) (a.map eX) F
 |[]=>rfl|s::a=>⟨_,_,rfl,rfl,Gs a⟩
theorem aaU:rA I A8 k oq:=by
 intro s ab a F Q o b c V;unfold oq at V;split at V
 ·obtain⟨v,rfl,S⟩:=cc.cW c
  have S:=bD.aK S;split at V
  ·rename_i R e;rw[e]at S;cases S.d
   obtain⟨⟨d,f⟩,V⟩:=V.ea;exact⟨by simpa using d,by simpa using f,λN g=>nH V b g (Gs _)⟩
  exact V.elim
 exact V.elim
def xZ (g:bt->bt->eY)(s:bt)(ab:bO):Mo aq:=match ab with |[t]=>(match t.aK with |.d R=>g s R |_=>.aU)|_=>.aU
theorem Gu {g:bt->bt->eY}(b:∀s R F Q (o:cm),bx F Q->cC I (g s R) k F Q (fF (gG I) Q o)->m (eX s) [eX R] Q o):rA I m k (xZ g):=by
 intro s ab a F Q o c d V;unfold xZ at V;split at V
 ·obtain⟨v,rfl,S⟩:=cc.cW d
  have S:=bD.aK S;split at V
  ·rename_i R e;rw[e]at S;cases S.d;exact b s R F Q o c V
  exact V.elim
 exact V.elim
abbrev NO:=xZ λs R=>.f (.c (nE s R))
abbrev NP:=xZ λs R=>.ea (nE s R ≠ -1) (.f (.c (nE s R)))
theorem aaV:rA I AB k NO:=Gu λs R F Q o a V=>mB V a
theorem aaW:rA I AD k NP:=Gu λs R F Q o a V=>by obtain⟨G,V⟩:=V.ea;exact⟨G,mB V a⟩
def tK (t:aq):Mo aq:=match t.aK with
 |.d s=>.ei s.length (.f (.d s))|.c O=>.ea (O.natAbs.log2<1920) (.f (.d (cH O)))|_=>.aU
theorem aaX (b:dH I n k x E):dH I (Ep E3 n) k x (E.aC tK):=by
 intro l F Q o c d V;refine hj b l F Q _ c d (V.aC.de λt bF aw x1 a v f=>?_)
 have S:=bD.aK f;have a:=a.de λS h j x3 g=>g.ej x1.2.2.1
 unfold tK at a;split at a
 ·rename_i s e;rw[e]at S;cases S.d
  obtain⟨G,a⟩:=a.ei;exact⟨by trivial,nG a x1.2.1⟩
 ·rename_i s e;rw[e]at S;cases S.c
  obtain⟨G,a⟩:=a.ea;exact⟨G,nG a x1.2.1⟩
 exact a.elim
def x9 (I:cO)(a:ta)(k:cg)(x:aZ)(E:Ff):Prop:=
 ∀(bA:bt) l F Q (a3:Str->ar->Prop),gY (hh I x) l F->bx F Q->cC I (E bA) k F Q (λs a4 ay=>a3 ⟨s.toArray⟩ ay)->a ⟨bA.toArray⟩ l Q a3
theorem aaY:x9 I E4 k x .f:=λbA l F Q a3 b a V=>V.f a
theorem aaZ {g:Ff}(c:dH I n k x E)(d:x9 I jy k x g):x9 I (E5 n jy) k x (λbA=>E.aC λt=>(lu t).aC λs=>.ei (bA.length+s.length) (g (bA++s))):=by
 intro bA l F Q a3 b f V;refine hj c l F Q _ b f (V.aC.de λt bF aw x1 a v h=>?_)
 have S:=bD.aK h;unfold lu at a;split at a
 ·rename_i s e;rw[e]at S;cases S.d
  obtain⟨G,a⟩:=cC.ei (a);have e:((⟨bA.toArray⟩:Str)++⟨s.toArray⟩)=⟨(bA++s).toArray⟩:=by
   show(⟨bA.toArray++s.toArray⟩:Str)=_
   simp
  show(⟨bA.toArray⟩++(⟨s.toArray⟩:Str)).length<=cA/\jy _ l aw a3
  rw[e];exact⟨by show(bA++s).toArray.size<=cA;simp_all,d _ l bF aw a3 (b.bQ x1.1) x1.2.1 a⟩
 exact a.elim
theorem aa0 {g:Ff}(b:x9 I tj k x g):dH I (E6 tj) k x ((g []).aC λs=>.ei s.length (.f (.d s))):=by
 intro l F Q o c d V;refine b [] l F Q _ c d (V.aC.de λs bF aw x1 a=>?_)
 obtain⟨G,a⟩:=a.ei;exact⟨by assumption,nG (a.de λS f h x3 e=>e.ej x1.2.2.1) x1.2.1⟩
noncomputable def NQ:aq->Option String
 |.c _=>D "int" |.aQ _=>D "bool" |.d _=>D "str" |.a9=>D "NoneType" |.az .aM _=>D "list" |.az .bb _=>D "tuple" |_=>i
def ot (y:String)(t:aq):Mo aq:=.fj (((NQ t.aK).bind λT=>AA T y).map .aQ)
theorem aa1 (Y:NQ t=D T)(S:bD I t v F)(a:bx F Q):E2 I Q v T:=by
 cases t with
 |c=>cases Y;cases S.c;rfl|aQ=>cases Y;cases S.aQ;rfl|d=>cases Y;cases S.d;rfl|a9=>cases Y;cases S.a9;rfl|az C ab=>
  obtain⟨N,ae,rfl,m,_⟩:=S.az;cases C with
  |aM=>cases Y;exact .inl ⟨rfl,ae,a _ _ m⟩|bb=>cases Y;exact .inr ⟨rfl,ae,a _ _ m⟩|_=>cases Y
 |_=>cases Y
def Bt (I:cO):List aS->ar->cm->Prop:=λj Q o=>∃X R T b,j=[X,.gd R]/\E2 I Q X T/\AA T R=D b/\o (.aQ b) Q
theorem aa2 {H:bU}:i9 H (.builtin "isinstance") (Bt H.I):=by
 rintro aj z l Q j ae o a E ⟨X,R,T,b,rfl,c,d,e⟩;obtain⟨u,g,rfl,bI,bW⟩:=z_ E;cases bW;exact kE (Vb a bI (WU c) (WV d) λf h=>⟨.aQ b,Q,a.fS f,rfl,e⟩)
theorem aa3 (y:String)(c:dH I n k x E):dH I (lO (Bt I) (hb n (hb (hy (.gd y)) ib))) k x (E.aC (ot y)):=by
 intro l F Q o d f V;refine hj c l F Q _ d f (V.aC.de λt bF aw x1 a v g=>?_)
 have a:=a.de λS m q x3 h=>h.ej x1.2.2.1
 obtain⟨p,e,a⟩:=a.fj;obtain⟨b,j,rfl⟩:=iR.mp e;obtain⟨T,aR,aB⟩:=hv.mp j;exact⟨v,y,T,b,rfl,aa1 aR (bD.aK g) x1.2.1,aB,jS a x1.2.1⟩
def tL:bO->Option q7
 |[]=>D []|t::ab=>match t.aK,tL ab with |.aQ b,D c6=>D (b::c6)|_,_=>i
theorem NR:∀{ab:bO}{ae:bp}{c6:q7}{F:ar},tL ab=D c6->cc I ab ae F->ae=c6.map aS.aQ
 |[],ae,c6,F,Y,E=>by subst E;cases (Y);rfl
 |t::ab,ae,c6,F,Y,E=>by
  obtain⟨v,a,rfl,S,E⟩:=E;unfold tL at Y;split at Y
  ·rename_i b c aR aB
   cases Y;have S:=bD.aK S;rw[aR]at S;cases S.aQ;rw[NR aB E];rfl
  cases Y
def vJ:bO->eY:=pn λt=>match t with |.az .aM ab=>(match tL ab with |some c6=>.f (.aQ (c6.all id))|none=>.aU)|_=>.aU
theorem aa4:mD I (AI I) k vJ:=rz λt v F Q o a b V=>by
 split at V
 ·obtain⟨N,ae,rfl,y,E⟩:=b.az
  split at V
  ·rename_i c6 e
   refine⟨c6,?_,jS V a⟩;rw[<- NR e E];exact .of (a _ _ y)
  exact V.elim
 exact V.elim
theorem aa5:dH I Fe k x (.f (.az (.gP []) [])):=by
 intro l F Q o d a V N c;refine V F _ (.heap a (pb c _)) _ (cW N (.eN [])) (λb G=>?_) (λb=>?_) (λb A G=>?_) ?_
 ·rw[kk]at G;split at G
  ·rename_i e;rwa[e]
  trivial
 ·rw[kk];split
  ·rename_i e;rw[e];exact .inl (a.cz c)
  exact .inr rfl
 ·rw[kk]at G;split at G
  ·rename_i e;rw[e];cases G;exact jL
  cases G
 ·exact⟨N,[],_,λ_=>i,rfl,⟨rfl,rfl,DG⟩,hi _ λ_=>rfl,⟨rfl,λ_=>rfl⟩⟩
def rF (ab:bO):Mo bO:=match ab with
 |[t,e]=>(match t.aK,e.aK with
  |.az .aM j,.d s=>.f ((j.zip s).map λV=>.az .bb [V.1,.d [V.2]])|_,_=>.aU)
 |_=>.aU
theorem aa6:tG I k (λa _ aw a3=>match a with
  |[.a0 S,.d X]=>(∃j,d1 I aw S j)/\a3 (A5 I S X.cps.size (mm X)) aw|_=>False) rF:=by
 intro ab a l bF aw a3 x1 z d;unfold rF at d;split at d
 ·obtain⟨v,K,rfl,S,h⟩:=cc.jR z
  have S:=bD.aK S;have h:=bD.aK h;split at d
  ·rename_i t c aR aB
   rw[aR]at S;rw[aB]at h;obtain⟨N,ae,rfl,m,w⟩:=S.az;cases h.d;refine⟨⟨ae,.of (x1 _ _ m)⟩,d.f x1 _ ⟨λO Q X n g=>?_,λQ n=>?_⟩⟩
   ·rw[gS]at g
    cases s:(t.zip c)[O]? with
    |none=>rw[s]at g;cases g|some V=>
    rw[s]at g;cases g;obtain⟨f,x⟩:=Jl.mp (show(t.zip c)[O]?=D (V.1,V.2)from s)
    rcases w.g8 O with⟨S,_⟩|⟨q,u,S,b,R⟩
    ·rw[S]at f;cases f
    rw[S]at f;injection f with f;have aE:=(ia.mp x).1;refine⟨⟨ae,u,.of (n _ _ m),b,aE⟩,?_⟩;rintro v ay ⟨A,p,G,B,rfl,rfl⟩ F C E;have e:=G ae (.of (n _ _ m));rw[b]at e;cases e;have y:=f9.el (A:=.bb [u,L2.mm ⟨c.toArray⟩ O]) E B;refine⟨_,y,?_⟩;show bD I _ _ _
    unfold bD;refine⟨A,_,rfl,jL,?_⟩;unfold cc;refine⟨_,_,rfl,by rw[<- f];exact bD.bQ (C.ct y.1) R,?_⟩
    unfold cc;refine⟨_,_,rfl,?_,by unfold cc;rfl⟩
    unfold bD;have J:(c.toArray).getD O 0=V.2:=by rw[Array.getD_eq_getD_getElem?,List.getElem?_toArray,x];rfl
    show aS.d ⟨#[(c.toArray).getD O 0]⟩=eX [V.2]
    rw[J]
   ·refine⟨ae,.of (n _ _ m),?_⟩
    rw[cE,q1,w.cn];show min ae.length c.length=ae.length\/min ae.length c.length<ae.length/\min ae.length c.length=c.length
    lia
  ·exact d.elim
 ·exact d.elim
theorem Bu (V:cC I (.f (.az .bb (ab.map .bM))) k F Q (fF (gG I) Q o))(a:bx F Q)(c:Q N=i)(E:cc I ab ae F):o (.a0 N) (cq Q N (.bb ae)):=by
 have X:=f9.el (A:=.bb ae) a c;exact V _ _ X _ _ (λb G=>absurd rfl G) (λ_=>.inr rfl) (λb A G=>by cases G) ⟨N,ae,λ_=>i,λ_=>i,rfl,⟨jL,λ_=>rfl⟩,hi _ λ_=>rfl,bL.bM (λ_=>rfl) (E.bQ X.1)⟩
noncomputable def Gv (N:Str×Str×Str):List aq:=[.d N.1.cps.toList,.d N.2.1.cps.toList,.d N.2.2.cps.toList]
abbrev Gw (w:Str->Str->Str×Str×Str):=xZ λs R=>.ea (R≠[]/\s.length<=100000) (.f (.az .bb ((Gv (w ⟨s.toArray⟩ ⟨R.toArray⟩)).map .bM)))
theorem aa7 {w:Str->Str->Str×Str×Str}:rA I (vy w) k (Gw w):=Gu λs R F Q o a V=>by
 obtain⟨⟨b,c⟩,V⟩:=V.ea;refine⟨_,_,rfl,rfl,?_,?_,λN d=>Bu V a d ?_⟩
 ·cases R with |nil=>exact absurd rfl b |cons S R=>rfl
 ·exact lR (show s.toArray.size<=100000 by simpa using c)
 ·have e:∀z:Str,bD I (.d z.cps.toList) _ F:=λz=>rfl
  exact⟨_,_,rfl,e _,_,_,rfl,e _,_,_,rfl,e _,rfl⟩
def Gx (I:cO):aS->eR->eR->ar->cm->Prop:=λX a8 aE Q o=>LM I X a8 aE Q o\/Lh I X a8 aE Q o
theorem aa8 {H:bU}:n_ H (Gx H.I):=n_.or WO VB
def lx (S:aq)(a8 aE:eR):Mo aq:=match S.aK with
 |.az .bb j=>if HT.d3 j.length 0 a8=0/\HT.d3 j.length j.length aE=j.length then .aU else .f (.az .bb ((fU j a8 aE).map .bM))
 |_=>Nr S a8 aE
theorem aa9 (g:dH I n k x E)(h:xw I iU k (hh I x) rl)(m:xw I u2 k (hh I x) rh):dH I (Ez (Gx I) n iU u2) k x (E.aC λs=>rl.aC λS=>rh.aC λb=>lx s S b):=by
 intro l F Q o f p V;refine hj g l F Q _ f p (V.aC.de λs bF aw x1 q v t=>?_)
 refine h l bF aw _ (f.bQ x1.1) x1.2.1 (q.aC.de λa8 av a7 x2 u=>?_)
 refine m l av a7 _ (f.bQ (x1.1.ct x2.1)) x2.2.1 (u.aC.de λaE A B x3 a=>?_)
 have c:=bD.aK ((gb I).bQ (x2.1.ct x3.1) t);have a:=a.de λR C G x4 w=>w.ej (x1.2.2.1.ct (x2.2.2.1.ct x3.2.2.1))
 unfold lx at a;split at a
 ·rename_i j e;rw[e]at c;obtain⟨N,ae,rfl,y,E⟩:=c.az
  split at a
  ·exact a.elim
  ·rename_i z
   exact .inr ⟨N,ae,rfl,.of (x3.2.1 _ _ y),by rw[<- E.cn];exact z,λN d=>Bu a x3.2.1 d (E.F1 a8 aE)⟩
 ·refine .inl ?_
  unfold Nr at a;split at a
  ·rename_i s e;rw[e]at c;cases c.d
   obtain⟨R,a⟩:=a.ei;exact⟨R,nG a x3.2.1⟩
  ·rename_i e;rw[e]at c;obtain⟨N,ae,rfl,y,E⟩:=c.az
   exact⟨ae,.of (x3.2.1 _ _ y),λN d=>nH a x3.2.1 d (E.F1 a8 aE)⟩
  ·rename_i e;rw[e]at c;obtain⟨N,ae,rfl,y,E⟩:=c.az
   exact⟨ae,x3.2.1.seq y,λN d=>nH a x3.2.1 d (E.F1 a8 aE)⟩
  ·exact a.elim
def Gy (I:cO):ez:=λX q Q o=>EP X q Q o\/Li I X q Q o
theorem aa_ {H:bU}:dF H (ky .Add) (Gy H.I):=λaj z l Q X q v u o a b c Y=>by
 rcases Y with Y |Y
 ·exact Wr aj z l Q X q v u o a b c Y
 exact VC aj z l Q X q v u o a b c Y
def iY (S b:aq):Mo aq:=match S.aK,b.aK with
 |.az .bb j,.az .bb aV=>if j=[]then .aU else .ei (j.length+aV.length) (.f (.az .bb ((j++aV).map .bM)))
 |_,_=>FV S b
noncomputable instance (s:bO):Decidable (s=[]):=match s with |[]=>.isTrue rfl |_::_=>.isFalse λY=>by cases Y
theorem aba:iG I (Gy I) k iY:=by
 intro S b X q F Q o a c d V;unfold iY at V;split at V
 ·rename_i j aV aR aB
  have c:=bD.aK c;have d:=bD.aK d;rw[aR]at c;rw[aB]at d;obtain⟨N,ae,rfl,y,E⟩:=c.az;obtain⟨dI,aH,rfl,d_,bW⟩:=d.az;split at V
  ·exact V.elim
  ·rename_i e
   obtain⟨R,V⟩:=V.ei;have af:ae≠[]:=λG=>e (qV.mp (by rw[E.cn,G];rfl))
   refine .inr ⟨N,dI,ae,aH,rfl,rfl,.of (a _ _ y),.of (a _ _ d_),af,by rwa[<- E.cn,<- bW.cn],λG=>?_,λ_ s f=>Bu V a f (E.vA bW)⟩
   have  := qV.mp (by rw[bW.cn,G];rfl)
   subst this;rw[l_]at V;refine V F Q (f9.fu a) _ _ (λb G=>absurd rfl G) (λ_=>.inr rfl) (λb A G=>by cases G) ?_
   exact⟨N,ae,λ_=>i,λ_=>i,rfl,⟨y,λ_=>rfl⟩,hi _ λ_=>rfl,bL.bM (λ_=>rfl) E⟩
 exact .inl (ZQ S b X q F Q o a c d V)
theorem Bv:∀(a:eM) {Q:ar},cc I (a.map aq.c) (a.map aS.c) Q
 |[],_=>rfl|y::a,Q=>⟨_,_,rfl,rfl,Bv a⟩
def Bw (S b:aq):Mo aq:=(mC S).aC λO=>(mC b).aC λh=>.ea (-50000<=O/\O<=50000 /\ -50000<=h/\h<=50000) (.f (.az .aM (((gF O (h-O).toNat).map aq.c).map .bM)))
theorem abb (af:dH I iB k x iI)(ai:dH I iA k x iH):dH I (lO (AK I) (hb (lO AJ (hb iB (hb iA ib))) ib)) k x (iI.aC λX=>iH.aC λq=>Bw X q):=by
 intro l F Q o c d V;refine hj af l F Q _ c d (V.aC.de λS bF aw x1 f v g=>?_)
 refine hj ai l bF aw _ (c.bQ x1.1) x1.2.1 (f.aC.de λb av a7 x2 a p hw=>?_)
 have a:=a.de λR t u x4 j=>j.ej (x1.2.2.1.ct x2.2.2.1)
 obtain⟨O,rfl,a⟩:=xW a ((gb I).bQ x2.1 g);obtain⟨h,rfl,a⟩:=xW a hw;obtain⟨R,a⟩:=a.ea;intro N m;have X:=f9.el (A:=.sJ O h) x2.2.1 m;have e:xn O h=(gF O (h-O).toNat).map aS.c:=by unfold xn gF;simp
 refine .inr ⟨O,h,jL,R,λs n=>?_⟩
 rw[e];refine nH (k:=k)    (λa4 ay q=>fF.ej X.2.2.1 (a a4 ay (X.ct q))) X.2.1 n (Bv _)
def Bx:bO->Option eM
 |[]=>D []|t::ab=>match t.aK,Bx ab with |.c O,D is=>D (O::is)|_,_=>i
def tM:kD->Option eM
 |[]=>D []|.inl O::a=>(tM a).map (O::·)|_=>i
theorem NS:∀{ab:bO}{ae:bp}{is:eM}{F:ar},Bx ab=D is->cc I ab ae F->fM vh F is ae
 |[],ae,is,F,Y,E=>by subst E;cases Y;exact .nil
 |t::ab,ae,is,F,Y,E=>by
  obtain⟨v,a,rfl,S,E⟩:=E;unfold Bx at Y;split at Y
  ·rename_i b c aR aB
   cases Y;have S:=bD.aK S;rw[aR]at S;exact .cons S.c (NS aB E)
  cases Y
def rG (is:eM):Mo aq:=.ea (is.length<64) (.f (.az .aM ((kR tq is).map .c)))
noncomputable def ql (V:Int×Int):aq:=.az .bb [.c V.1,.c V.2]
noncomputable def Gz:aq->eR
 |.c O=>D O |_=>i
def NT (t:aq):Option (Int×Int):=match t with
 |.az .bb ab=>(ab[0]?.bind Gz).bind λS=>(ab[1]?.bind Gz).bind λb=>if ab.length=2 then D (S,b)else i
 |_=>i
def vK:bO->Option zT
 |[]=>D []|t::ab=>(NT t).bind λV=>(vK ab).map λa=>V::a
abbrev By:hC (Int×Int):=Fg (Mg vh (AM vh))
theorem NU {O:Int}(e:Gz t=D O)(Y:bD I t v F):v=.c O:=by
 cases t with
 |c h=>cases e;exact Y.c|_=>cases e
theorem abc (e:NT t=D V)(Y:bD I t v F):By.a3 V v F:=by
 cases t with
 |az C ab=>
  cases C with
  |bb=>
   obtain⟨S,aR,e⟩:=hv.mp (e);obtain⟨b,aB,e⟩:=hv.mp e;obtain⟨X,aR,aT⟩:=hv.mp aR;obtain⟨q,aB,f⟩:=hv.mp aB;split at e
   rotate_left
   ·cases e
   rename_i d
   cases e;obtain⟨N,ae,rfl,y,E⟩:=Y.az;obtain⟨a,c,rfl⟩:∃a c,ab=[a,c]:=by
    obtain⟨a,n,rfl⟩:=kz d;obtain⟨c,rfl⟩:=qW.mp (fP d);exact⟨a,c,rfl⟩
   cases aR;cases aB;obtain⟨u,ae,rfl,g,p,aH,rfl,rw,rfl⟩:=E;exact⟨N,_,rfl,y,u,_,rfl,NU aT g,p,rfl,NU f rw⟩
  |_=>cases e
 |_=>cases e
theorem NV:∀{ab:bO}{b:zT}{ae:bp},vK ab=D b->cc I ab ae F->fM By F b ae
 |[],b,ae,e,Y=>by subst Y;cases e;exact .nil
 |t::ab,b,ae,e,Y=>by
  obtain⟨V,aR,e⟩:=hv.mp (e);obtain⟨c,aB,rfl⟩:=iR.mp e;obtain⟨v,a,rfl,S,E⟩:=Y;exact .cons (abc aR S) (NV aB E)
theorem NW:∀{s:zT}{a:bp}{F:ar},fM By F s a->bL I (s.map ql) a F (λ_=>i)
 |[],_,F,.nil=>⟨rfl,λ_=>rfl⟩|O::s,v::a,F,.cons E n=>by
  refine⟨v,a,λ_=>i,λ_=>i,rfl,hi _ λ_=>rfl,?_,NW n⟩
  obtain⟨N,ae,rfl,y,u,_,rfl,b,p,rfl,hw⟩:=E;refine⟨N,_,λ_=>i,λ_=>i,rfl,⟨y,λ_=>rfl⟩,hi _ λ_=>rfl,?_⟩
  refine⟨_,_,λ_=>i,λ_=>i,rfl,hi _ λ_=>rfl,?_,_,_,λ_=>i,λ_=>i,rfl,hi _ λ_=>rfl,?_,rfl,λ_=>rfl⟩<;>(exact⟨λ_=>rfl,by assumption⟩)
abbrev qt:Int×Int->Int×Int->Bool:=tr tq tq
def GA (a:zT):Mo aq:=.ea (a.length<64) (.f (.az .aM ((kR qt a).map ql)))
def GB:bO->eY:=pn λt=>match t with
 |.az .aM ab=>(match vK ab with |some a=>GA a |none=>.aU)|_=>.aU
theorem abd (V:cC I (GA qs) k F Q (fF (gG I) Q o)):cC I (.ea (qs.length<64) (.f (kR qt qs))) k F Q (fF (xv By) Q o):=by
 obtain⟨R,V⟩:=V.ea;rw[show Mo.ea _ _=.f _ from if_pos R]
 rintro a4 ay X v Y b t z ⟨N,a,rfl,rfl,c⟩;exact V a4 ay X _ _ b t z (⟨N,a,_,λ_=>i,rfl,rfl,hi _ λ_=>rfl,NW c⟩)
theorem abe:mD I (vq 64 I) k GB:=rz λt v F Q o a b V=>by
 split at V
 rotate_left
 ·exact V.elim
 obtain⟨N,ae,rfl,y,E⟩:=b.az;split at V
 rotate_left
 ·exact V.elim
 rename_i c e
 exact YE (Yz MH (Yy MH rx)) (MG rx rx) (by decide) c _ F Q o a ⟨_,rfl,N,ae,rfl,y,NV e E⟩ (abd V)
def GC (I:cO):List aS->ar->cm->Prop:=λj Q o=>AK I j Q o\/match j with
 |[.a0 N]=>∃bl,eg Q N (.eN bl)/\bl.length<=cA/\∀s,Q s=i->o (.a0 s) (cq Q s (.aM (bl.map λV=>iv V.1)))|_=>False
theorem NX:∀(S:oW) (b:List (ey×bq)) (O:Nat) V γ X,jK S b->S[O]?=D V->b[O]?=D (γ,X)->V.1=γ:=by
 intro S b O V γ X a;induction a generalizing O with
 |nil=>intro e;simp at e
 |cons E n c=>
  intro aR aB;cases O with
  |zero=>simp at aR aB;subst aR;have:=E.1;rwa[aB]at this|succ O=>exact c O (by simpa using aR) (by simpa using aB)
theorem GD:∀(a:oW) (ae:dt),a.length=ae.length->(∀(O:Nat) (V:ey×aS) (u:bq),a[O]?=D V->ae[O]?=D u->cw (iv V.1) u)->b9 (a.map λV=>iv V.1) ae
 |[],ae,b,_=>by cases ae with |nil=>exact .nil |cons _ _=>simp at b
 |V::a,ae,b,c=>by
  cases ae with
  |nil=>simp at b|cons u ae=>exact .cons (c 0 V u rfl rfl) (GD a ae (by simpa using b) λO dq d aR aB=>c (O+1) dq d (by simpa using aR) (by simpa using aB))
theorem abf {H:bU}(c:H.fD=ag):i9 H (.type "list") (GC H.I):=by
 intro aj z l Q j ae o b E Y;rcases Y with Y |Y
 ·exact L1 c aj z l Q j ae o b E Y
 ·split at Y
  ·obtain⟨bl,f,w,V⟩:=Y
   obtain⟨u,rfl,g⟩:=mV E;cases g;obtain⟨G,h,a,d,dy⟩:=qf b.cL f;obtain⟨x,k⟩:=dy.dictAt;have m  := d.dS;refine kE (W.kdl_call (W.kdl_dict    h) (b.f.gB c) k (by simp_all) λaF y bA R n p e A=>?_)
   refine⟨.a0 _,_,b.hx (A:=.aM _)  n (cZ _) ⟨by rwa[cE],bA.toList,R,?_,by simpa using p⟩,rfl,V _ (b.cL.fK (cZ _))⟩
   have q:bA.toList.length=bl.length:=by rw[m];exact e.1
   refine GD bl _ q.symm λO V u aR aB=>?_
   obtain⟨s,X,t,v⟩:=e.2 O u (by rwa[<- Ke])
   rw[NX bl a O V s X d aR t];exact MK v
  exact Y.elim
def NY:ey->aq
 |.inl O=>.c O|.inr z=>.d z.cps.toList
theorem NZ:∀(a:kD) (ae:bp) {Q:ar},a.length=ae.length->cc I (a.map NY) ((a.zip ae).map λV=>iv V.1) Q
 |[],ae,_,_=>rfl|C::a,[],_,b=>by cases b
 |C::a,u::ae,Q,b=>by
  refine⟨_,_,rfl,?_,NZ a ae (by simpa using b)⟩
  cases C with
  |_=>rfl
def x_:bO->eY:=pn λt=>match t with
 |.az .aM j=>.f (.az .aM (j.map .bM))|.az .bb j=>.f (.az .aM (j.map .bM))|.az .dR j=>.f (.az .aM (j.map .bM))|.az (.gP a) _=>.ei a.length (.f (.az .aM ((a.map NY).map .bM)))|_=>.aU
theorem abg:mD I (GC I) k x_:=rz λt v F Q o a c V=>by
 split at V
 ·obtain⟨N,ae,rfl,y,E⟩:=c.az;exact .inl (.inl ⟨ae,.inl (.of (a _ _ y)),λs b=>nH V a b E⟩)
 ·obtain⟨N,ae,rfl,y,E⟩:=c.az;exact .inl (.inl ⟨ae,.inr (.of (a _ _ y)),λs b=>nH V a b E⟩)
 ·obtain⟨N,ae,rfl,y,E⟩:=c.az;exact .inl (.inl ⟨ae,.inl (a.seq y),λs b=>nH V a b E⟩)
 ·obtain⟨N,ae,rfl,y,E⟩:=c.az
  obtain⟨R,V⟩:=V.ei;refine .inr ⟨_,vz a y.1,by rwa[q1,y.2.1,sv,<- y.2.1],λs b=>nH V a b (NZ _ _ y.2.1)⟩
 exact V.elim
def Bz (I:cO):List aS->ar->cm->Prop:=λj Q o=>match j with
 |[.a0 N]=>∃a:eM,(d1 I Q N (a.map .c)\/∃bl,eg Q N (.eN bl)/\(bl.map λV=>iv V.1)=a.map .c)/\a.length<64/\∀b:eM,b.Perm a->b.Pairwise (·<=·)->∀s,Q s=i->o (.a0 s) (cq Q s (.aM (b.map .c)))|_=>False
theorem GF:∀{a:dt}{b:eM},IntsAre a b->b9 (b.map .c) a
 |_,_,.nil=>.nil|_,_,.cons _ _ Y=>.cons ⟨_,rfl⟩ (GF Y)
theorem u3:∀{b:eM}{a:dt},b9 (b.map .c) a->IntsAre a b
 |[],_,E=>by cases E;exact .nil
 |y::b,_,E=>by cases E with |cons S E=>obtain⟨n,rfl⟩:=S;exact .cons y n (u3 E)
theorem abh {H:bU}(J:H.fD=ag):i9 H (.builtin "sorted") (Bz H.I):=by
 intro aj z l Q j ae o c E Y;unfold Bz at Y;split at Y
 rotate_left
 ·exact Y.elim
 rename_i N
 obtain⟨t,f,ah,V⟩:=Y;obtain⟨u,rfl,K⟩:=mV E;cases K;rcases f with f |⟨bl,f,v⟩
 ·obtain⟨L,k,M,ai⟩:=c.d9 f
  have P:=k.dS;rw[cE]at P;refine sorted_ints M.isList (u3 k) (by lia) λd g n h p=>?_
  obtain⟨e,q⟩:=sortedAll_at z.heap L d;exact⟨.a0 (z.heap.objs.size+1),_,c.hx (A:=.aM (g.map .c)) (d:=z.toks) (λ_ _=>sortedAll_old) (oR _) ⟨by rw[cE,h.length_eq];exact lR (by lia),d.toList,e,GF n,by simpa using q⟩,rfl,V g h p _ (c.cL.fK (oR _))⟩
 ·obtain⟨G,R,a,w,dy⟩:=qf c.cL f
  obtain⟨S,T⟩:=dy.dictAt;have x:bl.length=a.length:=w.dS;have ak:bl.length=t.length:=by have:=congrArg mb v;simpa using this
  refine Calls.call_function_entry kind_sorted plain_sorted entry_sorted (args_sorted1 _) ?_;unfold sd.«sorted»;refine bR (m:=checkCount "sorted" 1 1 _) (dQ ?_);refine bR (kE (YF (W.kdl_dict (knd:=lg H.cu H.p) (kvs:=a) (ep:=S) R) (c.f.gB J) T (by rw[<- x,sizeLine_eq];lia) λaf y bA B C F al=>?_))
  have U:bA.toList.length=bl.length:=by rw[zP,x];exact F.1
  have k:b9 (t.map .c) bA.toList:=by
   rw[<- v];refine GD bl bA.toList U.symm λO V u aR aB=>?_
   obtain⟨Z,X,aa,ab⟩:=F.2 O u (by rw[<- Ke];exact aB)
   rw[NX bl a O V Z X w aR aa];exact MK ab
  refine bR (wpAny_newList ?_ (by rw[sizeLine_eq];lia))
  have s:(af.push (seqObj "list" bA.toList.toArray 0)).get? af.objs.size=D (seqObj "list" bA.toList.toArray 0):=gK _ rfl;show bT _ _ _ _ _ {z with heap:=af.push (seqObj "list" bA.toList.toArray 0),toks:=y}
  refine bR (wpAny_holding (wpAny_call_entry slot_list_sort ⟨_,s,rfl⟩ entry_list_sort (list_sort_tree s (u3 k) (by lia) λd g n h p=>⟨_,rfl,?_⟩) (args_list_sort _)))
  obtain⟨e,q⟩:=sortedHeap_at (out:=d) s;have ac:∀b A,z.heap.get? b=D A->(sortedHeap (af.push (seqObj "list" bA.toList.toArray 0)) af.objs.size bA.toList d).get? b=D A:=λb A G=>by
   have I:=e1 (C b A G);rw[sortedHeap_old (gz I) (by rw[size_push'];exact wH I)]
   exact eQ _ (C b A G)
  exact dQ ⟨_,rfl,.a0 af.objs.size,_,c.hx (A:=.aM (g.map .c)) (d:=y) ac (wJ B) ⟨by rw[cE,h.length_eq];exact lR (by lia),d.toList,e,GF n,by simpa using q⟩,rfl,V g h p _ (c.cL.fK (wJ B))⟩
def ya:bO->eY:=pn λt=>match t with
 |.az .aM ab=>(match Bx ab with |some is=>rG is |none=>.aU)|.az (.gP a) _=>(match tM a with |some is=>rG is |none=>.aU)|_=>.aU
theorem N0:∀{is:eM}{ae:bp},fM vh F is ae->ae=is.map .c
 |_,_,.nil=>rfl|_,_,.cons S E=>by cases S;rw[eW,<- N0 E]
theorem N1:∀{a:kD}{is:eM}{ae:bp},tM a=D is->a.length=ae.length->((a.zip ae).map λV=>iv V.1)=is.map .c
 |[],is,ae,Y,e=>by cases (Y);rfl
 |.inl O::a,is,[],Y,e=>by cases e
 |.inl O::a,is,u::ae,Y,e=>by
  unfold tM at Y;obtain⟨b,aF,rfl⟩:=iR.mp Y;rw[kB,eW,N1 aF (by simpa using e)];rfl
 |.inr _::_,_,_,Y,_=>by cases Y
theorem N2 (N:bg.Perm ns)(z:bg.Pairwise (·<=·)):bg=kR tq ns:=AZ rx N (z.imp λ{S b} Y=>by exact decide_eq_false (by lia))
theorem N3 (s:eM):(s.map aq.c).map aq.bM=s.map aq.c:=by rw[gT];rfl
theorem abi:mD I (Bz I) k ya:=rz λt v F Q o a f V=>by
 split at V
 ·obtain⟨N,ae,rfl,y,E⟩:=f.az
  split at V
  rotate_left
  ·exact V.elim
  rename_i is e
  obtain⟨R,V⟩:=V.ea;refine⟨is,.inl ?_,R,λg b c s d=>?_⟩
  ·rw[<- N0 (NS e E)];exact .of (a _ _ y)
  ·rw[N2 b c];exact nH (by rwa[N3]) a d (Bv _)
 ·obtain⟨N,ae,rfl,y,E⟩:=f.az
  split at V
  rotate_left
  ·exact V.elim
  rename_i is e
  obtain⟨R,V⟩:=V.ea;refine⟨is,.inr ⟨_,vz a y.1,N1 e y.2.1⟩,R,λg b c s d=>?_⟩
  rw[N2 b c];exact nH (by rwa[N3]) a d (Bv _)
 exact V.elim
end
section
variable {I:jv}{F:ar}
theorem N4 {X:aS}:∀{t:aq},t.aK.gn=D X->bD I t X F
 |.aL t,e=>N4 (t:=t) e|.a9,e=>by cases (e);rfl
 |.aQ _,e=>by cases (e);rfl
 |.c _,e=>by cases (e);rfl
 |.d _,e=>by cases (e);rfl
 |.az _ _,e=>by cases e
 |.e5 _,e=>by cases e
 |.e4,e=>by cases e
variable {k:cg}{Q:ar}{t:aq}{o:cm}
def N5:bO->eY:=pn λt=>match t with |.aQ b=>.f (.c (if b=ag then 1 else 0))|_=>.aU
theorem abj:mD I AU k N5:=rz λt v F Q o a b V=>by
 split at V
 ·cases b.aQ;exact mB V a
 exact V.elim
def N6 (I:cO)(V:String×Bool):bq:=if V.2 then .ref (dz I V.1)else .type V.1
def abk (I:cO)(a:ba)(b:dt):Option Bool:=if(LY I a (.ref a)).isSome then W.kitAny I (.ref a) b else i
def abl (I:cO)(a:uL)(dr:uL):Prop:=∀N∈dr,(match a with |[R]=>LY I (dz I N.1) (N6 I R)|a=>abk I (dz I N.1) (a.map (N6 I)))=D N.2/\a.length<=1000
end
inductive ou where
 |m1 (s m:Nat)|qu
def ou.n (I:cO):ou->b1->b1
 |.m1 s m,n=>Ng ⟨#[s]⟩ ⟨#[m]⟩ n|.qu,n=>Nf n (Ax (AG (hy (.c 1))))
def ou.w:ou->bt->eY
 |.m1 s m,z=>.ea (z.length+(z.length+1)*1<=16777216) (.f (.d (Txt.replace ⟨z.toArray⟩ ⟨#[s]⟩ ⟨#[m]⟩).cps.toList))|.qu,z=>.ei z.length (.f (.d z.reverse))
section
variable {I:jv}{k:cg}{F Q:ar}{x:aZ}{n:b1}{E:eY}{t:aq}{v:aS}
theorem N7 {g:bt->Mo aP}(b:bD I t v F)(C:cC I ((lu t).aC g) k F Q aO):∃z,v=eX z/\cC I (g z) k F Q aO:=by
 have a:=bD.aK b;unfold lu at C;split at C
 ·rename_i s e;rw[e]at a;exact⟨s,a.d,C⟩
 exact C.elim
theorem abm (A:ou)(Y:dH I n k x E):dH I (A.n I n) k x (E.aC λt=>(lu t).aC A.w):=by
 intro l F Q o d e V;cases A with
 |m1 s m=>
  refine hj Y l F Q _ d e (V.aC.de λt bF aw x1 a v b=>?_)
  obtain⟨z,rfl,C⟩:=N7 b a;obtain⟨R,C⟩:=cC.ea (C);exact⟨_,rfl,R,nG (cC.de C λS f g x5 c=>c.ej x1.2.2.1) x1.2.1⟩
 |qu=>
  refine(hj Y l F Q _ d e (V.aC.de λt bF aw x1 a v b=>?_))
  obtain⟨z,rfl,C⟩:=N7 b a;obtain⟨R,C⟩:=cC.ei (C);exact⟨rfl,by simpa using R,nG (cC.de C λS f g x5 c=>c.ej x1.2.2.1) x1.2.1⟩
theorem abn {H:bU}(p:s9 H.a6 "zip")(q:gV H [S,b] bG)(t:i6 H "zip")(v:eH [S,b] H.x=[(aA,eval S H.x),(aA,eval b H.x)])(g:eH [b] H.x=[(aA,eval b H.x)]):
  o3 H (.Tuple ri iz LB) (.Call (.Name "zip" N) [S,b] [] pos) (λl Q a3=>bG l Q λa aw=>match a with
   |[.a0 S,.d X]=>(∃j,d1 H.I aw S j)/\a3 (A5 H.I S X.cps.size (mm X)) aw|_=>False):=by
 intro aj z l Q a3 h Y;refine Call_ (sR h t p (u:=.type "zip") (by rfl) (wM (cv (q pos aj z l Q _ h Y) λae bf w=>?_) (by rw[v,g]) (by rw[g];rfl)))
 obtain⟨a,aw,d,bI,f⟩:=w
 try dsimp only at f
 have a8:∀b∈[bf.heap.objs.size+4,bf.heap.objs.size+2,bf.heap.objs.size+3,bf.heap.objs.size,bf.heap.objs.size+1],bf.heap.objs.size<=b:=λb c=>by
  simp only[dn,gJ,or_false]at c;rcases c with rfl |rfl |rfl |rfl |rfl<;>first |exact Dv _ _ |exact cZ _
 split at f
 ·rename_i s X
  obtain⟨⟨j,x⟩,V⟩:=f;obtain⟨I,J,rfl,E,y⟩:=z_ bI;cases E;obtain⟨n,rfl⟩:=y;obtain⟨K,L,k,M⟩:=d.d9 x;refine YR k.isList λaF m B C af ai F=>?_
  refine wpAny_pyIter_zip (s:={bf with heap:=aF}) m ?_;have G:a5 H aj l aw {bf with heap:=aF}:=d.jm (a:=bf.toks) F;have o:s<bf.heap.objs.size:=by obtain⟨A,e,_⟩:=k.isList;exact e1 e
  refine⟨bf.heap.objs.size+4,[bf.heap.objs.size+4,bf.heap.objs.size+2,bf.heap.objs.size+3,bf.heap.objs.size,bf.heap.objs.size+1],_,_,aw,rfl,G,YS _ _ _ _ _ s X n (YT o) (gz o),⟨m,B,⟨_,_,C⟩,af,ai⟩,λb c=>?_,V⟩
  exact d.sU (a8 b c) (d.cL.fK (a8 b c))
 ·exact f.elim
end
structure fG where
 dg:c_
 m9:List (Str×kd):=[]
 aT:c_:=[]
 fq:List (uL×uL):=[]
 gM:List (String×uL):=[]
structure fG.dZ (ak:fG)(I:cO):Prop where
 dg:ak.dg≠[]
 m9:∀V∈ak.m9,Be I (dz I V.1) (V.2.map eX)
 fq:∀V∈ak.fq,abl I V.1 V.2
 gM:∀V∈ak.gM,Zv I V.1 V.2
inductive hU where
 |dA |kT |mE |es |jc |iy |fB |hV |vL |fH |ne |is |rH |ps |BA |fq
inductive pv where
 |cn |d9 |min |d |all |vM |c |tN
inductive kj where
 |iJ |split |find |index |vN |rI
inductive iZ where
 |dw |bI |bW |rJ |zip
set_option genInjectivity false in
inductive H where
 |v (O:Nat)|C (t:aq)|fI (X:Str) (t:aq)
 |hV (X:Str) (a:List (List Nat))
 |aY (A:hU) (S b:H)|ke (A b3:hU) (S b R:H)
 |and (S b:H)|or (S b:H)|not (S:H)|cM (S:H)|jU (R S b:H)
 |sl (S:H) (a8 aE:Option H)
 |bb (aG:List H)|aM (aG:List H)
 |dh (S:H) (w:Str)
 |b0 (w:bY) (X:Str) (aG:List H)
 |dX (A:pv) (aG:List H)
 |eA (A:kj) (S:H) (aG:List H)
 |ek (b2:List Str) (bN:List (Str×Nat)) (d4:iZ) (ed:List H) (bZ:kl) (R:Option H) (e:H)
 |jn (w:bY) (R:Str) (aG:List H)
 |eL (c:List (Str×bY)) (S:H) (m:Str) (aG:List H)
 |au (aJ:List H)|hD (S:H)
 |pw (S b:H)
 |m_ (A:ou) (S:H)
 |kn (S:H) (y:String)|ov |px (A b3 d:hU) (S b R t:H)
abbrev kU:=Option H
abbrev hF:=List H
def hU.E (I:cO):hU->ez
 |.dA=>Gy I |.kT=>ES |.mE=>Fp |.es=>ET |.jc=>Fm
 |.iy=>EU |.fB=>EV |.hV=>EW |.vL=>EX |.fH=>FN I |.ne=>FO I |.is=>EY |.rH=>EZ
 |.ps=>xY I aA |.BA=>xY I ag |.fq=>Gp I
def hU.w:hU->aq->aq->eY
 |.dA=>iY |.kT=>FW |.mE=>oj |.es=>Bh |.jc=>xQ
 |.iy=>F0 |.fB=>FX |.hV=>FY |.vL=>FZ |.fH=>gq aA |.ne=>gq ag |.is=>m7 aA |.rH=>m7 ag
 |.ps=>nK aA |.BA=>nK ag |.fq=>df
def pv.E (I:cO):pv->bp->ar->cm->Prop
 |.cn=>Gq I |.d9=>GC I |.min=>Az Min.min |.d=>AH |.all=>AI I |.vM=>Bz I |.c=>AU |.tN=>vq 64 I
def pv.w:pv->bO->eY
 |.cn=>m8 |.d9=>x_ |.min=>Gf |.d=>Gg |.all=>vJ |.vM=>ya |.c=>N5 |.tN=>GB
def kj.E (I:cO):kj->aS->bp->ar->cm->Prop
 |.iJ=>AE I |.split=>A8 |.find=>AB |.index=>AD |.vN=>vy Txt.partition |.rI=>vy Txt.rpartition
def kj.w:kj->bt->bO->eY
 |.iJ=>km |.split=>oq |.find=>NO |.index=>NP |.vN=>Gw Txt.partition |.rI=>Gw Txt.rpartition
def iZ.p (I:cO):iZ->bp->L2.ck->ar->(kg->ar->Prop)->Prop
 |.dw=>NB I|.bI=>λa _ aw a3=>match a with |[.c h] => -(2 ^ 62)<=h/\h<2 ^ 62/\a3 (o4 0 h.toNat) aw |_=>False
 |.bW=>λa _ aw a3=>match a with |[.c O,.c h]=>(-(2 ^ 62)<=O/\O<2 ^ 62 /\ -(2 ^ 62)<=h/\h<2 ^ 62)/\a3 (o4 O (h-O).toNat) aw |_=>False
 |.rJ=>λa _ aw a3=>∃S,a=[.a0 S]/\(∃j,d1 I aw S j)/\a3 (An I S) aw|.zip=>λa _ aw a3=>match a with
  |[.a0 S,.d X]=>(∃j,d1 I aw S j)/\a3 (A5 I S X.cps.size (mm X)) aw|_=>False
def iZ.n (I:cO)(A:iZ)(bG:fY):p_:=λl Q a3=>bG l Q λa aw=>A.p I a l aw a3
def iZ.w:iZ->bO->pl
 |.dw=>pq |.bI=>tH |.bW=>Bq |.rJ=>vF |.zip=>rF
theorem N8 {I:cO}{k:cg}(A:iZ):tG I k (A.p I) A.w:=by
 cases A with
 |dw=>exact aaw|bI=>exact aax|bW=>exact aay|rJ=>exact aaz|zip=>exact aa6
theorem abo {I:cO}{k:cg}{x:aZ}{bG:fY}{gc:pl}(A:iZ)(Y:lX I bG k x gc):vk I (A.n I bG) k (hh I x) (gc.aC A.w) (gb I):=aav (N8 A) Y
section
variable (I:jv)(ak:fG)
mutual
def H.cf:cg->H->b1
 |_,.v O=>o_ O|_,.C t=>hy (t.gn.getD .a9)|_,.fI _ t=>hy (t.gn.getD .a9)|_,.hV X _=>hy (.a0 (dz I X))|k,.aY A S b=>n9 (A.E I) (S.cf k) (b.cf k)|k,.ke A b3 S b R=>xj (A.E I) (b3.E I) (S.cf k) (b.cf k) (R.cf k)|k,.and S b=>s7 (S.cf k) (b.cf k)|k,.or S b=>rj (S.cf k) (b.cf k)|k,.not S=>u7 (S.cf k)|k,.cM S=>AG (S.cf k)|k,.jU R S b=>Au (lQ (R.cf k)) (S.cf k) (b.cf k)|k,.sl S a8 aE=>Ez (Gx I) (S.cf k) (H.BB k a8) (H.BB k aE)|k,.bb aG=>w_ (H.et k aG)|k,.aM aG=>Ew (H.et k aG)|k,.dh S w=>Bp I ak.dg (S.cf k) w|k,.b0 w _ aG=>rd (f3 I w) [] k (H.et k aG)|k,.dX A aG=>lO (A.E I) (H.et k aG)|k,.eA A S aG=>qe I "str" (A.E I) (S.cf k) (H.et k aG)|k,.ek b2 bN d4 ed bZ R e=>xe b2 bN (d4.n I (H.et k ed)) (qq I bZ) (H.yb jO R) (e.cf jO)|k,.jn w R aG=>u1 (dz I R) (f3 I w) [] k (H.et k aG)|k,.eL a S m aG=>vI I a m k (S.cf k) (H.et k aG)|k,.au aJ=>E6 (H.tO k aJ)|k,.hD S=>Ep E3 (S.cf k)|k,.pw S b=>lO (AK I) (hb (lO AJ (hb (S.cf k) (hb (b.cf k) ib))) ib)|k,.m_ A S=>A.n I (S.cf k)|k,.kn S y=>lO (Bt I) (hb (S.cf k) (hb (hy (.gd y)) ib))|_,.ov=>Fe|k,.px A b3 c S b R t=>xq (A.E I) (b3.E I) (c.E I) (S.cf k) (b.cf k) (R.cf k) (t.cf k)
def H.et:cg->hF->fY
 |_,[]=>ib|k,S::aG=>hb (S.cf k) (H.et k aG)
def H.BB:cg->kU->qd
 |_,i=>Af|k,D S=>Ax (S.cf k)
def H.yb:cg->kU->hQ
 |_,i=>Ar|k,D S=>lQ (S.cf k)
def H.tO:cg->hF->ta
 |_,[]=>E4|k,S::aG=>E5 (S.cf k) (H.tO k aG)
end
end
def qv (A b3:hU)(X q:aq)(E:eY):Mo aq:=(A.w X q).aC λG=>(fO G).aC λb=>if b then E.aC λp=>b3.w q p else .f (.aQ aA)
def BC (A b3 a:hU)(X q:aq)(E z:eY):Mo aq:=(A.w X q).aC λG=>(fO G).aC λb=>if b then E.aC λp=>qv b3 a q p z else .f (.aQ aA)
section
variable (ak:fG)
mutual
def H.aW:aZ->H->eY
 |x,.v O=>fo x O|_,.C t=>if t.gn.isSome then .f t else .aU
 |_,.fI _ t=>if t.gn.isSome then .f t else .aU
 |_,.hV X a=>if(X,a)∈ak.m9 then .f (.az .iW (a.map .d))else .aU
 |x,.aY A S b=>(S.aW x).aC λX=>(b.aW x).aC λq=>A.w X q|x,.ke A b3 S b R=>(S.aW x).aC λX=>(b.aW x).aC λq=>qv A b3 X q (R.aW x)|x,.and S b=>(S.aW x).aC λX=>tB X (b.aW x)|x,.or S b=>(S.aW x).aC λX=>tC X (b.aW x)|x,.not S=>(S.aW x).aC λX=>(fO X).aC λb=>.f (.aQ (!b))|x,.cM S=>(S.aW x).aC xT|x,.jU R S b=>((R.aW x).aC fO).aC λn=>if n then S.aW x else b.aW x
 |x,.sl S a8 aE=>(S.aW x).aC λX=>(H.qw x a8).aC λs=>(H.qw x aE).aC λY=>lx X s Y|x,.bb aG=>(H.gZ x aG).aC λab=>.ei ab.length (.f (.az .bb ab))|x,.aM aG=>(H.gZ x aG).aC λab=>.ei ab.length (.f (.az .aM ab))|x,.dh S w=>(S.aW x).aC (jT ak.dg w)|x,.b0 w _ aG=>(H.gZ x aG).aC λab=>w.b4 (ab.map .bM)|x,.dX A aG=>(H.gZ x aG).aC A.w|x,.eA A S aG=>(S.aW x).aC λt=>(lu t).aC λs=>(H.gZ x aG).aC λR=>A.w s R|x,.ek b2 bN d4 ed bZ R e=>if bZ.is.all (·<b2.length)then(((H.gZ x ed).aC d4.w).aC λs=>.fj (ij bZ s)).aC λj=>(lT (λX=>lU (H.ow (jb (hT b2 bN x) bZ.is X) R) (e.aW (jb (hT b2 bN x) bZ.is X))) j []).aC λaV=>.f (.az .aM aV)else .aU
 |x,.jn w R aG=>(H.gZ x aG).aC (qr w R)|x,.eL c S m aG=>if c.isEmpty then .aU else(S.aW x).aC λt=>rE c m t (H.gZ x aG)
 |x,.au aJ=>(H.kV x aJ []).aC λs=>.ei s.length (.f (.d s))|x,.hD S=>(S.aW x).aC tK|x,.pw S b=>(S.aW x).aC λX=>(b.aW x).aC λq=>Bw X q|x,.m_ A S=>(S.aW x).aC λt=>(lu t).aC A.w|x,.kn S y=>(S.aW x).aC (ot y)|_,.ov=>.f (.az (.gP []) [])|x,.px A b3 d S b R t=>(S.aW x).aC λX=>(b.aW x).aC λq=>BC A b3 d X q (R.aW x) (t.aW x)
def H.gZ:aZ->hF->pl
 |_,[]=>.f []|x,S::aG=>(S.aW x).aC λt=>(H.gZ x aG).aC λab=>.f (t::ab)
def H.qw:aZ->kU->Mo eR
 |_,i=>.f i|x,D S=>(S.aW x).aC λt=>(mC t).aC λO=>.f (D O)
def H.ow:aZ->kU->pd
 |_,i=>.f ag|x,D S=>(S.aW x).aC fO
def H.kV:aZ->hF->bt->Mo bt
 |_,[],bA=>.f bA|x,S::aG,bA=>(S.aW x).aC λt=>(lu t).aC λs=>.ei (bA.length+s.length) (H.kV x aG (bA++s))
end
end
section
variable {I:jv}{k:cg}{x:aZ}{ak:fG}
theorem tP (A:hU):iG I (A.E I) k A.w:=by
 cases A with
 |dA=>exact aba|kT=>exact ZR|mE=>exact ZY|es=>exact ZS|jc=>exact ZT|iy=>exact ZX|fB=>exact ZU|hV=>exact ZV|vL=>exact ZW|fH=>exact Z9|ne=>exact Z_|is=>exact aaa|rH=>exact aab|fq=>exact aaL |_=>exact aaN
theorem abp (A:pv):mD I (A.E I) k A.w:=by
 cases A with
 |cn=>exact aaO|d9=>exact abg|min=>exact aao|d=>exact aap|all=>exact aa4|vM=>exact abi|c=>exact abj|tN=>exact abe
theorem abq (A:kj):rA I (A.E I) k A.w:=by
 cases A with
 |iJ=>exact aaT|split=>exact aaU|find=>exact aaV|index=>exact aaW|_=>exact aa7
theorem GG {aP:Type}{br:lS aP}{m:Mo aP}{F Q:ar}{o:cm}(V:cC I m k F Q (λR a4 ay=>∀v,br.bN.a3 R v a4->o v ay)):cC I m k F Q (fF br Q o):=by
 cases m with
 |aU=>exact V|aT R=>exact V|f S=>
  intro a4 ay X v aF a t z A;refine V _ ay ⟨X.1.ct mw,λN A e=>?_,X.2.2.1,λN S b=>?_⟩ v (br.iw t A)
  ·unfold aK at e
   cases G:a4 N with
   |some p=>rw[G]at e;cases e;exact X.2.1 _ _ G|none=>rw[G]at e;exact z _ _ e
  ·unfold aK at b
   cases G:a4 N with
   |some p=>exact X.2.2.2 N S (by rw[G];exact fQ _)|none=>rw[G]at b;exact a N b
theorem abr {A b3:hU}{eJ cR f:b1}{bI bW g:eY}(af:dH I eJ k x bI)(ai:dH I cR k x bW)(bw:dH I f k x g):dH I (xj (A.E I) (b3.E I) eJ cR f) k x (bI.aC λX=>bW.aC λq=>qv A b3 X q g):=by
 intro l F Q o c n V;refine hj af l F Q _ c n (V.aC.de λS bF aw x1 s t u=>?_)
 refine hj ai l bF aw _ (c.bQ x1.1) x1.2.1 (s.aC.de λb av a7 x2 v h j=>?_)
 refine tP A S b t h av a7 _ x2.2.1 ((gb I).bQ x2.1 u) j (GG (v.aC.de λG w y x3 a p hw=>?_))
 have m:=bD.aK hw;unfold fO at a;split at a
 ·rename_i R e
  rw[e]at m;cases m.aQ;refine⟨λG=>?_,λG=>?_⟩
  ·subst G
   exact hj bw l w y _ (c.bQ (x1.1.ct (x2.1.ct x3.1))) x3.2.1 (cC.de (cC.aC (a)) λp z B x4 C E J=>tP b3 b p h E z B o x4.2.1 ((gb I).bQ (x3.1.ct x4.1) j) J (C.de λS K L x5 d=>d.ej (x1.2.2.1.ct (x2.2.2.1.ct (x3.2.2.1.ct x4.2.2.1)))))
  ·subst G
   exact jS (cC.de (a) λS K L x5 d=>d.ej (x1.2.2.1.ct (x2.2.2.1.ct x3.2.2.1))) x3.2.1
 exact a.elim
theorem abt {A b3 c:hU}{eJ cR v w:b1}{bI bW m f:eY}(af:dH I eJ k x bI)(ai:dH I cR k x bW)(bw:dH I v k x m)(M:dH I w k x f):dH I (xq (A.E I) (b3.E I) (c.E I) eJ cR v w) k x (bI.aC λX=>bW.aC λq=>BC A b3 c X q m f):=by
 intro l F Q o g N V;refine hj af l F Q _ g N (V.aC.de λS bF aw x1 O P T=>?_)
 refine hj ai l bF aw _ (g.bQ x1.1) x1.2.1 (O.aC.de λb av a7 x2 U y z=>?_)
 refine tP A S b P y av a7 _ x2.2.1 ((gb I).bQ x2.1 T) z (GG (U.aC.de λG n s x3 d p hw=>?_))
 have B:=bD.aK hw;unfold fO at d;split at d
 ·rename_i R e
  rw[e]at B;cases B.aQ;refine⟨λG=>?_,λG=>?_⟩
  ·subst G
   refine hj bw l n s _ (g.bQ (x1.1.ct (x2.1.ct x3.1))) x3.2.1 (cC.de (cC.aC (show cC I (m.aC λp=>qv b3 c b p f) k n s _ from d)) λp C E x4 W J K=>?_)
   refine tP b3 b p y J C E _ x4.2.1 ((gb I).bQ (x3.1.ct x4.1) z) K (GG ((cC.aC (show cC I ((b3.w b p).aC _) k C E _ from W)).de λal h j x5 a am Y=>?_))
   have L:=bD.aK Y;unfold fO at a;split at a
   ·rename_i an Z
    rw[Z]at L;cases L.aQ;refine⟨λG=>?_,λG=>?_⟩
    ·subst G
     refine hj M l h j _ (g.bQ (x1.1.ct (x2.1.ct (x3.1.ct (x4.1.ct x5.1))))) x5.2.1 (cC.de (cC.aC (show cC I (f.aC λt=>c.w p t) k h j _ from a)) λt aa ab x6 ac ae ah=>?_)
     exact tP c p t J ae aa ab o x6.2.1 ((gb I).bQ (x5.1.ct x6.1) K) ah (ac.de λS aj ak x7 u=>u.ej (x1.2.2.1.ct (x2.2.2.1.ct (x3.2.2.1.ct (x4.2.2.1.ct (x5.2.2.1.ct x6.2.2.1))))))
    ·subst G
     exact jS (cC.de (show cC I (.f (aq.aQ aA)) k h j (fF (gG I) Q o)from a) λS aj ak x7 u=>u.ej (x1.2.2.1.ct (x2.2.2.1.ct (x3.2.2.1.ct (x4.2.2.1.ct x5.2.2.1))))) x5.2.1
   ·exact a.elim
  ·subst G
   exact jS (cC.de (show cC I (.f (aq.aQ aA)) k n s (fF (gG I) Q o)from d) λS h j x5 a=>a.ej (x1.2.2.1.ct (x2.2.2.1.ct x3.2.2.1))) x3.2.1
 ·exact d.elim
theorem N9 (O:Str):dH I (hy (t.gn.getD .a9)) k x (if t.gn.isSome then .f t else .aU):=by
 cases e:t.gn with
 |none=>exact λl F Q o b a V=>V.elim|some v=>
  intro l F Q o b a V;show o v Q
  cases t with
  |a9=>cases e;exact ZP V a|aQ=>cases e;exact jS V a|c=>cases e;exact mB V a|d=>cases e;exact nG V a|_=>cases e
theorem N_:∀a:kd,aq.mA (a.map .d)=ag
 |[]=>rfl|s::a=>by rw[eW];unfold aq.mA;rw[N_ a];rfl
mutual
theorem H.dB (a:ak.dZ I):∀(X:H) (k:cg) (x:aZ),dH I (X.cf I ak k) k x (X.aW ak x)
 |.v O,k,x=>Z2 O|.C t,k,x=>N9 ""|.fI X t,k,x=>N9 X|.hV X c,k,x=>by
  show dH I _ k x (if _ then _ else _)
  by_cases Y:(X,c)∈ak.m9
  ·rw[if_pos Y]
   exact Z3 (λF=>by unfold bD;exact⟨_,_,rfl,a.m9 _ Y,Gs c⟩) (by unfold aq.e8;exact N_ c)
  ·rw[if_neg Y];exact λl F Q o d f V=>V.elim
 |.aY A S b,k,x=>Z1 (tP A) (H.dB a S k x) (H.dB a b k x)|.ke A b3 S b R,k,x=>abr (H.dB a S k x) (H.dB a b k x) (H.dB a R k x)|.and S b,k,x=>Z5 (H.dB a S k x) (H.dB a b k x)|.or S b,k,x=>Z6 (H.dB a S k x) (H.dB a b k x)|.not S,k,x=>Z4 (H.dB a S k x)|.cM S,k,x=>Z8 (H.dB a S k x)|.jU R S b,k,x=>Z7 (xS (H.dB a R k x)) (H.dB a S k x) (H.dB a b k x)|.sl S a8 aE,k,x=>aa9 (H.dB a S k x) (H.Oa a a8 k x) (H.Oa a aE k x)|.bb aG,k,x=>aah (H.iK a aG k x)|.aM aG,k,x=>aai (H.iK a aG k x)|.dh S w,k,x=>aau a.dg (H.dB a S k x)|.b0 w X aG,k,x=>aat (H.iK a aG k x)|.dX A aG,k,x=>aaj (abp A) (H.iK a aG k x)|.eA A S aG,k,x=>aaq (abq A) (H.dB a S k x) (H.iK a aG k x)|.ek b2 bN d4 ed bZ R e,k,x=>by
  show dH I _ k x (if _ then _ else _)
  split
  ·rename_i Y
   exact aaF (abo d4 (H.iK a ed k x)) (λO aE=>by simpa using nx.mp Y O aE) (λS=>H.abu a R jO _) (λS=>H.dB a e jO _)
  ·exact λl F Q o d f V=>V.elim
 |.jn w R aG,k,x=>aaQ (H.iK a aG k x)|.eL g S m aG,k,x=>by
  show dH I _ k x (if _ then _ else _)
  split
  ·exact λl F Q o d f V=>V.elim
  ·rename_i Y;exact aaR (λe=>Y (by rw[e];rfl)) (H.dB a S k x) (H.iK a aG k x)
 |.au aJ,k,x=>aa0 (H.Ob a aJ k x)|.hD S,k,x=>aaX (H.dB a S k x)|.pw S b,k,x=>abb (H.dB a S k x) (H.dB a b k x)|.m_ A S,k,x=>abm A (H.dB a S k x)|.kn S y,k,x=>aa3 y (H.dB a S k x)|.ov,k,x=>aa5|.px A b3 h S b R t,k,x=>abt (H.dB a S k x) (H.dB a b k x) (H.dB a R k x) (H.dB a t k x)
theorem H.iK (a:ak.dZ I):∀(aG:hF) (k:cg) (x:aZ),lX I (H.et I ak k aG) k x (H.gZ ak x aG)
 |[],k,x=>aaf|S::aG,k,x=>aag (H.dB a S k x) (H.iK a aG k x)
theorem H.Oa (a:ak.dZ I):∀(S:kU) (k:cg) (x:aZ),xw I (H.BB I ak k S) k (hh I x) (H.qw ak x S)
 |none,k,x=>XT|some S,k,x=>aad (H.dB a S k x)
theorem H.abu (a:ak.dZ I):∀(S:kU) (k:cg) (x:aZ),m3 I (H.yb I ak k S) k (hh I x) (H.ow ak x S)
 |none,k,x=>X_|some S,k,x=>xS (H.dB a S k x)
theorem H.Ob (a:ak.dZ I):∀(aG:hF) (k:cg) (x:aZ),x9 I (H.tO I ak k aG) k x (H.kV ak x aG)
 |[],k,x=>by
  have:H.kV ak x []=.f:=by funext bA;unfold H.kV;rfl
  rw[this];unfold H.tO;exact aaY
 |S::aG,k,x=>by
  have:H.kV ak x (S::aG)=λbA=>(S.aW ak x).aC λt=>(lu t).aC λs=>.ei (bA.length+s.length) (H.kV ak x aG (bA++s)):=by funext bA;rw[H.kV]
  rw[this];unfold H.tO;exact aaZ (H.dB a S k x) (H.Ob a aG k x)
end
end
mutual
def H.eD:H->bt
 |.v O=>[O]|.C _=>[]|.fI _ _=>[]|.hV _ _=>[]|.aY _ S b=>S.eD++b.eD|.ke _ _ S b R=>S.eD++b.eD++R.eD|.and S b=>S.eD++b.eD|.or S b=>S.eD++b.eD|.not S=>S.eD|.cM S=>S.eD|.jU R S b=>R.eD++S.eD++b.eD|.sl S a8 aE=>S.eD++H.BD a8++H.BD aE|.bb aG=>H.nc aG|.aM aG=>H.nc aG|.dh S _=>S.eD|.b0 _ _ aG=>H.nc aG|.dX _ aG=>H.nc aG|.eA _ S aG=>S.eD++H.nc aG|.ek _ bN _ ed _ _ _=>H.nc ed++bN.map (·.2)|.jn _ _ aG=>H.nc aG|.eL _ S _ aG=>S.eD++H.nc aG|.au aJ=>H.nc aJ|.hD S=>S.eD|.pw S b=>S.eD++b.eD|.m_ _ S=>S.eD|.kn S _=>S.eD|.ov=>[]|.px _ _ _ S b R t=>(S.eD++b.eD)++(R.eD++t.eD)
def H.nc:hF->bt
 |[]=>[]|S::aG=>S.eD++H.nc aG
def H.BD:kU->bt
 |none=>[]|some S=>S.eD
end
def nd (is:bt)(e a:aZ):Prop:=∀O∈is,fo e O=fo a O
theorem nd.s {is c5:bt}{e a:aZ}(Y:nd (is++c5) e a):nd is e a:=λO aE=>Y O (zh _ aE)
theorem nd.E {is c5:bt}{e a:aZ}(Y:nd (is++c5) e a):nd c5 e a:=λO aE=>Y O (kA _ aE)
section
variable {ak:fG}
theorem abv {bN:jJ}{e a:aZ}(Y:nd (bN.map (·.2)) e a)(h:Nat):fo (hT b2 bN e) h=fo (hT b2 bN a) h:=by
 unfold hT;by_cases c:h<b2.length
 ·unfold fo
  rw[ux (by rwa[cE]),ux (by rwa[cE])]
 ·have b:∀e:aZ,fo (b2.map (λ_=>i)++bN.map λV=>(e[V.2]?).join) h=match bN[h-b2.length]? with |some V=>fo e _ |none=>.aU:=λe=>by
   unfold fo;rw[pV (by rw[cE];exact(JR c)),cE,gS]
   cases bN[h-b2.length]? with
   |none=>rfl|some V=>
    rw[JX];dsimp only;cases e[V.2]? with  |_=>rfl
  rw[b,b];cases G:bN[h-b2.length]? with
  |none=>rfl|some V=>exact Y _ (fk.mpr ⟨V,qX G,rfl⟩)
theorem abw {e a:aZ}{O:Nat}(c:e.length=a.length)(Y:∀h,fo e h=fo a h)(h:Nat):fo (e.set O A) h=fo (a.set O A) h:=by
 by_cases b:O=h
 ·subst b
  unfold fo;rw[zd,zd,if_pos rfl,if_pos rfl,c]
 ·have:=Y h
  unfold fo at this ⊢;rwa[j9 b,j9 b]
theorem Oc:∀{is:bt}{ab:bO}{e a:aZ},e.length=a.length->(∀h,fo e h=fo a h)->∀h,fo (jb e is ab) h=fo (jb a is ab) h
 |[],_,_,_,_,Y=>Y|_::_,[],_,_,_,Y=>Y|O::is,t::ab,e,a,hl,Y=>λh=>Oc     (by simp_all) (abw hl Y) h
theorem abx {bN:jJ}{e a:aZ}:(hT b2 bN e).length=(hT b2 bN a).length:=by unfold hT;simp
mutual
theorem H.gh:∀(X:H) {e a:aZ},nd X.eD e a->X.aW ak e=X.aW ak a
 |.v O,e,a,Y=>Y O (List.mem_singleton_self _)|.C t,e,a,Y=>rfl|.fI X t,e,a,Y=>rfl|.hV X j,e,a,Y=>rfl|.aY A S b,e,a,Y=>by show Mo.aC _ _=Mo.aC _ _;rw[H.gh S Y.s,H.gh b Y.E]
 |.ke A b3 S b R,e,a,Y=>by show Mo.aC _ _=Mo.aC _ _;rw[H.gh S Y.s.s,H.gh b Y.s.E,H.gh R Y.E]
 |.and S b,e,a,Y=>by show Mo.aC _ _=Mo.aC _ _;rw[H.gh S Y.s,H.gh b Y.E]
 |.or S b,e,a,Y=>by show Mo.aC _ _=Mo.aC _ _;rw[H.gh S Y.s,H.gh b Y.E]
 |.not S,e,a,Y=>by show Mo.aC _ _=Mo.aC _ _;rw[H.gh S Y]
 |.cM S,e,a,Y=>by show Mo.aC _ _=Mo.aC _ _;rw[H.gh S Y]
 |.jU R S b,e,a,Y=>by show Mo.aC _ _=Mo.aC _ _;rw[H.gh R Y.s.s,H.gh S Y.s.E,H.gh b Y.E]
 |.sl S a8 aE,e,a,Y=>by show Mo.aC _ _=Mo.aC _ _;rw[H.gh S Y.s.s,H.Od a8 Y.s.E,H.Od aE Y.E]
 |.bb aG,e,a,Y=>by show Mo.aC _ _=Mo.aC _ _;rw[H.qx aG Y]
 |.aM aG,e,a,Y=>by show Mo.aC _ _=Mo.aC _ _;rw[H.qx aG Y]
 |.dh S w,e,a,Y=>by show Mo.aC _ _=Mo.aC _ _;rw[H.gh S Y]
 |.b0 w X aG,e,a,Y=>by show Mo.aC _ _=Mo.aC _ _;rw[H.qx aG Y]
 |.dX A aG,e,a,Y=>by show Mo.aC _ _=Mo.aC _ _;rw[H.qx aG Y]
 |.eA A S aG,e,a,Y=>by show Mo.aC _ _=Mo.aC _ _;rw[H.gh S Y.s,H.qx aG Y.E]
 |.ek b2 bN d4 ed bZ R X,e,a,Y=>by
  show(if _ then Mo.aC _ _ else _)=(if _ then Mo.aC _ _ else _)
  rw[H.qx ed Y.s];have g:∀ab h,fo (jb (hT b2 bN e) bZ.is ab) h=fo (jb (hT b2 bN a) bZ.is ab) h:=λab=>Oc abx (abv Y.E)
  have c:∀ab,H.ow ak (jb (hT b2 bN e) bZ.is ab) R=H.ow ak (jb (hT b2 bN a) bZ.is ab) R:=λab=>H.aby R λO _=>g ab O
  have d:∀ab,X.aW ak (jb (hT b2 bN e) bZ.is ab)=X.aW ak (jb (hT b2 bN a) bZ.is ab):=λab=>H.gh X λO _=>g ab O
  have f:(λab=>lU (H.ow ak (jb (hT b2 bN e) bZ.is ab) R) (X.aW ak (jb (hT b2 bN e) bZ.is ab)))=λab=>lU (H.ow ak (jb (hT b2 bN a) bZ.is ab) R) (X.aW ak (jb (hT b2 bN a) bZ.is ab)):=funext λab=>by rw[c,d]
  rw[f]
 |.jn w R aG,e,a,Y=>by show Mo.aC _ _=Mo.aC _ _;rw[H.qx aG Y]
 |.eL k S m aG,e,a,Y=>by show(if _ then _ else Mo.aC _ _)=(if _ then _ else Mo.aC _ _);rw[H.gh S Y.s,H.qx aG Y.E]
 |.au aJ,e,a,Y=>by show Mo.aC _ _=Mo.aC _ _;rw[H.Oe aJ Y []]
 |.hD S,e,a,Y=>by show Mo.aC _ _=Mo.aC _ _;rw[H.gh S Y]
 |.pw S b,e,a,Y=>by show Mo.aC _ _=Mo.aC _ _;rw[H.gh S Y.s,H.gh b Y.E]
 |.m_ A S,e,a,Y=>by show Mo.aC _ _=Mo.aC _ _;rw[H.gh S Y]
 |.kn S y,e,a,Y=>by show Mo.aC _ _=Mo.aC _ _;rw[H.gh S Y]
 |.ov,e,a,Y=>rfl|.px A b3 l S b R t,e,a,Y=>by show Mo.aC _ _=Mo.aC _ _;rw[H.gh S Y.s.s,H.gh b Y.s.E,H.gh R Y.E.s,H.gh t Y.E.E]
theorem H.qx:∀(aG:hF) {e a:aZ},nd (H.nc aG) e a->H.gZ ak e aG=H.gZ ak a aG
 |[],e,a,Y=>rfl|S::aG,e,a,Y=>by show Mo.aC _ _=Mo.aC _ _;rw[H.gh S Y.s,H.qx aG Y.E]
theorem H.Od:∀(S:kU) {e a:aZ},nd (H.BD S) e a->H.qw ak e S=H.qw ak a S
 |none,e,a,Y=>rfl|some S,e,a,Y=>by show Mo.aC _ _=Mo.aC _ _;rw[H.gh S Y]
theorem H.aby:∀(S:kU) {e a:aZ},nd (H.BD S) e a->H.ow ak e S=H.ow ak a S
 |none,e,a,Y=>rfl|some S,e,a,Y=>by show Mo.aC _ _=Mo.aC _ _;rw[H.gh S Y]
theorem H.Oe:∀(aG:hF) {e a:aZ},nd (H.nc aG) e a->∀bA,H.kV ak e aG bA=H.kV ak a aG bA
 |[],e,a,Y,bA=>by unfold H.kV;rfl
 |S::aG,e,a,Y,bA=>by
  unfold H.nc at Y;rw[H.kV,H.kV,H.gh S Y.s];congr 1;funext t;congr 1;funext s;rw[H.Oe aG Y.E]
end
end
mutual
noncomputable def aq.e9:aq->Bool
 |.az .bb ab=>aq.lZ ab|.az .iW ab=>aq.lZ ab|.az _ _=>aA|_=>ag
noncomputable def aq.lZ:bO->Bool
 |[]=>ag|t::ab=>t.e9 && aq.lZ ab
end
section
variable {I:jv}{k:cg}{F a4 bE bF av bk Y af ai bw C Q ay aw a7:ar}{t:aq}{ab:bO}{v:aS}{ae a:bp}{N:ba}{o:cm}{x:aZ}{n:b1}{aH:iX}{l:L2.ck}{ak:fG}
theorem bC.e9:∀{t:aq}{v:aS}{Y:ar},t.e9=ag->bC I t v F Y->(∀N,Y N=i)/\bD I t v F
 |.az .bb ab,_,Y,G,V=>by
  unfold aq.e9 at G;unfold bC at V;obtain⟨N,ae,b,ai,e,R,h,E⟩:=V;obtain⟨y,E⟩:=eU G E;refine⟨λN=>?_,by unfold bD;exact⟨N,ae,e,R.1,E⟩⟩
  rcases h N with⟨_,q⟩|⟨_,q⟩
  ·rw[q,y]
  ·rw[q,R.2]
 |.az .iW ab,_,Y,G,V=>by
  unfold aq.e9 at G;unfold bC at V;obtain⟨N,ae,b,ai,e,R,h,E⟩:=V;obtain⟨y,E⟩:=eU G E;refine⟨λN=>?_,by unfold bD;exact⟨N,ae,e,R.1,E⟩⟩
  rcases h N with⟨_,q⟩|⟨_,q⟩
  ·rw[q,y]
  ·rw[q,R.2]
 |.az .aM _,_,_,G,_=>by simp[aq.e9]at G
 |.az .dR _,_,_,G,_=>by simp[aq.e9]at G
 |.az (.gP _) _,_,_,G,_=>by simp[aq.e9]at G
 |.az (.dV _ _) _,_,_,G,_=>by simp[aq.e9]at G
 |.a9,_,_,_,V=>by unfold bC at V;exact V
 |.aQ _,_,_,_,V=>by unfold bC at V;exact V
 |.c _,_,_,_,V=>by unfold bC at V;exact V
 |.d _,_,_,_,V=>by unfold bC at V;exact V
 |.aL _,_,_,_,V=>by unfold bC at V;exact V
 |.e5 _,_,_,_,V=>by unfold bC at V;exact V
 |.e4,_,_,_,V=>by unfold bC at V;exact V
where eU:∀{ab:bO}{ae:bp}{Y:ar},aq.lZ ab=ag->bL I ab ae F Y->(∀N,Y N=i)/\cc I ab ae F
 |[],_,_,_,V=>by unfold bL at V;exact⟨V.2,by unfold cc;exact V.1⟩
 |t::ab,_,Y,G,V=>by
  unfold aq.lZ at G;obtain⟨c,d⟩:=lJ.mp G;unfold bL at V;obtain⟨v,a,af,ai,e,h,S,E⟩:=V;obtain⟨e3,S⟩:=bC.e9 c S;obtain⟨d_,E⟩:=eU d E;refine⟨λN=>?_,by unfold cc;exact⟨v,a,e,S,E⟩⟩
  rcases h N with⟨_,q⟩|⟨_,q⟩
  ·rw[q,d_]
  ·rw[q,e3]
theorem GH:∀{t:aq},t.e8=ag->t.e9=ag
 |.az .bb ab,G=>eU G|.az .iW ab,G=>eU G|.az .aM _,G=>by trivial
 |.az .dR _,G=>by trivial
 |.az (.gP _) _,G=>by trivial
 |.az (.dV _ _) _,G=>by trivial
 |.a9,_=>rfl|.aQ _,_=>rfl|.c _,_=>rfl|.d _,_=>rfl|.aL _,_=>rfl|.e5 _,_=>rfl|.e4,_=>rfl
where eU:∀{ab:bO},aq.mA ab=ag->aq.lZ ab=ag
 |[],_=>rfl|t::ab,G=>by
  obtain⟨a,b⟩:=lJ.mp G;unfold aq.lZ;rw[GH a,eU b];rfl
theorem abz (t:aq):t.bM.e9=ag:=by
 unfold aq.bM;split
 ·exact GH (by assumption)
 split<;>rfl
theorem Of (t:aq):t.bM.bM=t.bM:=by
 unfold aq.bM;by_cases Y:t.e8=ag
 ·rw[if_pos Y,if_pos Y]
 ·rw[if_neg Y]
  lia
theorem vO (c:dG bE bk bF Y aw)(h:cQ C ai Y)(d:dG bF (gm aw ai) av bw a7):bx bF av/\c4 C bw/\dG bE bk av (aK C bw) a7:=by
 obtain⟨X,t,z,bN,f⟩:=c;obtain⟨x2,g,bo,k,l⟩:=d;have m:∀N,C N≠i->(gm aw ai) N≠i:=λN G=>by
  cases q:C N with
  |none=>exact absurd q G|some A=>
   have d_:ai N=i:=by
    rcases h.f_ N with p |p
    ·rw[p]at q;cases q
    ·exact p
   rw[vl d_,z _ _ (h.s _ _ q)];exact fQ _
 have n:c4 C bw:=λN=>by grind
 have a:bx bk (gm aw ai):=λN A e=>by
  have d_:ai N=i:=by
   cases p:ai N with
   |none=>rfl|some b3=>have:=bN N (by rw[h.E _ _ p];exact fQ _);rw[this]at e;cases e
  rw[vl d_];exact X.2.2.1 _ _ e
 refine⟨x2.1,n,⟨X.1.ct x2.1,x2.2.1,a.ct x2.2.2.1,λN S b=>?_⟩,λN=>?_,λN A e=>?_,λN G=>?_,λN j e=>?_⟩
 ·cases q:bF N with
  |some A=>exact X.2.2.2 N S (by rw[q];exact fQ _)|none=>exact a.cz (x2.2.2.2 N q b)
 ·unfold aK
  cases q:C N with
  |none=>exact g N|some A=>
   left;cases p:av N with
   |none=>rfl|some b3=>
    have e3:bF N=i:=by
     rcases t N with G |G
     ·exact G
     ·rw[h.s _ _ q]at G;cases G
    exact absurd (x2.2.2.2 N e3 (by rw[p];exact fQ _)) (m N (by rw[q];exact fQ _))
 ·unfold aK at e
  cases q:C N with
  |none=>rw[q]at e;exact bo _ _ e|some b3=>
   rw[q]at e;cases e;refine x2.2.2.1 _ _ ?_;have d_:ai N=i:=by
    rcases h.f_ N with p |p
    ·rw[p]at q;cases q
    ·exact p
   rw[vl d_];exact z _ _ (h.s _ _ q)
 ·unfold aK at G
  cases q:C N with
  |none=>rw[q]at G;exact a.cz (k N G)|some A=>exact bN N (by rw[h.s _ _ q];exact fQ _)
 ·unfold aK at e
  cases q:C N with
  |none=>rw[q]at e;exact l N j e|some A=>rw[q]at e;cases e;exact f N j (h.s _ _ q)
theorem Og (a:dG bE bk bF Y aw)(h:cQ C ai Y):dG bF (gm aw ai) bF ai aw:=
 vv a.1.2.1 (A6 a.2.1 h) (h.E.ct a.2.2.1) λN j e=>a.2.2.2.2 N j (h.E _ _ e)
theorem GI {R:m2}(a:dG bE bk bF Y aw)(h:cQ C ai Y)(n:kN I k R bk av a7):kN I k R (gm aw ai) av a7:=by
 refine n.i_ λN A e=>?_
 have d_:ai N=i:=by
  cases p:ai N with
  |none=>rfl|some b3=>have:=a.2.2.2.1 N (by rw[h.E _ _ p];exact fQ _);simp_all
 rw[vl d_];exact a.1.2.2.1 _ _ e
def nL (x:aZ)(O:Nat):aZ:=match x[O]? with |some (D t)=>x.set O (D t.bM)|_=>x
def qy (x:aZ)(is:bt):aZ:=is.foldl nL x
theorem abA {O:Nat}(f:da (eV I aH x) l F Y)(g:dG bE bk F Y Q):∃a4 aF,da (eV I aH (nL x O)) l a4 aF/\dG bE bk a4 aF Q:=by
 unfold nL;split
 ·rename_i t aE
  obtain⟨A,c,d,aR,h,m,w⟩:=da.vD f (vE aE);obtain⟨v,rfl,n,o⟩:=xV m;obtain⟨a,dc,eK,k,s⟩:=g;refine⟨aK F c,d,?_,⟨a.1.ct mw,λN A e=>?_,a.2.2.1,λN S b=>?_⟩,λN=>?_,h.E.ct eK,λN G=>?_,λN j e=>s N j (h.E _ _ e)⟩
  ·have:=w (oo I (aH O) (D t.bM)) (D v) (aK F c) (λ_=>i) d mw (Bn n (bC.bM (λ_=>rfl) (bC.xO mw (ro (xD dc h)) o))) λN=>.inl ⟨rfl,rfl⟩
   rw[Bm,Bl aR]at this;exact this
  ·unfold aK at e
   cases G:F N with
   |some p=>rw[G]at e;cases e;exact a.2.1 _ _ G|none=>rw[G]at e;exact eK _ _ (h.s _ _ e)
  ·unfold aK at b
   cases G:F N with
   |some p=>exact a.2.2.2 N S (by rw[G];exact fQ _)|none=>
    rw[G]at b;cases q:c N with
    |none=>exact absurd q b|some p=>exact k N (by rw[h.s _ _ q];exact fQ _)
  ·unfold aK
   cases G:F N with
   |some p=>
    rcases A6 dc h N with q |q
    ·rw[q]at G;cases G
    ·exact .inr q
   |none=>exact h.f_ N
  ·cases q:d N with
   |none=>exact absurd q G|some p=>exact k N (by rw[h.E _ _ q];exact fQ _)
 ·exact⟨F,Y,f,g⟩
theorem Oh:∀(is:bt) {x:aZ}{F Y:ar},da (eV I aH x) l F Y->dG bE bk F Y Q->∃a4 aF,da (eV I aH (qy x is)) l a4 aF/\dG bE bk a4 aF Q
 |[],x,F,Y,a,c=>⟨F,Y,a,c⟩|O::is,x,F,Y,a,c=>by
  obtain⟨bF,af,S,b⟩:=abA  a c;exact Oh is S b
theorem abB (x:aZ)(O h:Nat):fo (nL x O) h=fo x h:=by
 unfold nL;split
 ·rename_i t aE
  unfold fo;by_cases e:O=h
  ·subst e;rw[uy (ia.mp aE).1,aE];dsimp only;rw[Of]
  rw[j9 e]
 rfl
theorem Oi:∀(is:bt) (x:aZ) (h:Nat),fo (qy x is) h=fo x h
 |[],_,_=>rfl|O::is,x,h=>(Oi is _ h).trans (abB x O h)
def vP (x:aZ):aZ:=x.map λA=>A.bind λt=>if t.e9 then D t else i
def yc (x:aZ)(O:Nat):Prop:=∀t,x[O]?=D (D t)->t.e9=ag
theorem Oj {O h:Nat}(Y:O=h\/yc x h):yc (nL x O) h:=by
 unfold nL;split
 ·rename_i t aE
  intro eh e;by_cases G:O=h
  ·subst G;rw[uy (ia.mp aE).1]at e;cases e;exact abz t
  ·rw[j9 G]at e
   rcases Y with Y |Y
   ·exact absurd Y G
   exact Y eh e
 ·rename_i aE
  rcases Y with Y |Y
  ·subst Y;exact λt e=>absurd e (aE t)
  exact Y
theorem Ol:∀(is:bt) {x:aZ}{h:Nat},(h∈is\/yc x h)->yc (qy x is) h
 |[],x,h,Y=>by rcases Y with Y |Y;exact absurd Y (by simp);exact Y
 |O::is,x,h,Y=>Ol is (by
  rcases Y with Y |Y
  ·rcases dn.mp Y with Y |Y
   ·exact .inr (Oj (.inl Y.symm))
   exact .inl Y
  exact .inr (Oj (.inr Y)))
theorem abC {O:Nat}(Y:yc x O):fo (vP x) O=fo x O:=by
 unfold fo vP;rw[gS];cases G:x[O]? with
 |none=>rfl|some A=>
  cases A with
  |none=>rfl|some t=>
   have:=Y t G;simp[this]
theorem abD (a:da (eV I aH x) l F Y):gY (hh I (vP x)) l F:=by
 intro O z e;unfold vP at e;rw[gS,gS]at e;cases G:x[O]? with
 |none=>simp_all|some A=>
  rw[G]at e;cases e;cases A with
  |none=>trivial|some t=>
   by_cases R:t.e9=ag
   ·simp only[Option.bind,R,if_true]
    obtain⟨A,d,f,aR,h,b,w⟩:=da.vD a (vE G);obtain⟨v,rfl,g,c⟩:=xV b;rw[aR];exact⟨v,rfl,(bC.e9 R c).2⟩
   ·simp only[Option.bind,R]
    trivial
def tQ (I:cO)(E:b8 aZ aq)(k:cg)(aH:iX)(l:L2.ck)(bE bk:ar)(o:cm):Prop:=match E with
 |.f t x=>∀v F a ai Y Q,da (eV I aH x) l F ai->bC I t v F a->cQ a ai Y->dG bE bk F Y Q->o v Q|.aT R x=>∀F Y Q,da (eV I aH x) l F Y->dG bE bk F Y Q->kN I k R bk F Q|.aU=>False
def hW (I:cO)(n:b1)(k:cg)(aH:iX)(x:aZ)(E:b8 aZ aq):Prop:=
 ∀bE bk l F Y Q (o:cm),da (eV I aH x) l F Y->dG bE bk F Y Q->tQ I E k aH l bE bk o->n l Q o
def GJ (I:cO)(E:b8 aZ aq)(k:cg)(aH:iX)(l:L2.ck)(bE bk b:ar)(o:cm):Prop:=match E with
 |.f t x=>∀v F a ai Y Q,da (eV I aH x) l F ai->bC I t v F a->cQ a ai Y->dG bE bk F Y Q->bx b Q->o v Q|.aT R x=>∀F Y Q,da (eV I aH x) l F Y->dG bE bk F Y Q->kN I k R bk F Q|.aU=>False
def yd (I:cO)(n:b1)(k:cg)(aH:iX)(x:aZ)(E:b8 aZ aq):Prop:=
 ∀bE bk l F Y Q (o:cm),da (eV I aH x) l F Y->dG bE bk F Y Q->GJ I E k aH l bE bk Q o->n l Q o
theorem yd.e {E:b8 aZ aq}(Y:yd I n k aH x E):hW I n k aH x E:=λbE bk l F c Q o d ok a=>Y bE bk l F c Q o d ok (by
 cases E with
 |f t e=>exact λv F g ai Y ay S b R t _=>a v F g ai Y ay S b R t |_=>exact a)
def mF (ak:fG)(x:aZ)(X:H):b8 aZ aq:=match X.aW ak x with
 |.f t=>if t.el then .f t x else .f t (qy x X.eD)
 |.aT R=>.aT R x|.aU=>.aU
theorem Om (m:ak.dZ I)(X:H):yd I (X.cf I ak k) k aH x (mF ak x X):=by
 intro bE bk l F Y Q o g ok b;unfold mF at b;cases e:X.aW ak x with
 |aU=>rw[e]at b;exact b.elim|aT R=>
  rw[e]at b;refine H.dB m X k x l (aK F Y) Q _ (rC (g.rp ok.2.1)) ok.rt ?_;rw[e];exact λa4 ay q=>(b _ _ _ (g.bQ (ok.ej q).2.1) (ok.ej q).1).ej ok q
 |f t=>
  rw[e]at b;have b:GJ I (if t.el then .f t x else .f t (qy x X.eD)) k aH l bE bk Q o:=b
  by_cases n:t.el=ag
  ·rw[if_pos n]at b
   refine H.dB m X k x l (aK F Y) Q _ (rC (g.rp ok.2.1)) ok.rt ?_;rw[e];intro a4 ay q v a h s u A;obtain⟨c,B,C⟩:=ok.ej q;have E:c4 (gm a4 Y) a:=λN=>by
    unfold gm;cases G:Y N with
    |none=>exact s N|some p=>exact .inl rfl
   have w:c4 a Y:=Fl ok.2.2.1 h;refine b v (gm a4 Y) a Y (aK a Y) ay (g.bQ B) (bC.Nj C n A) (fZ w) ⟨c.1,λN=>?_,λN A e=>?_,λN G=>?_,λN j G=>?_⟩ q.2.2.1
   ·unfold aK
    cases G:a N with
    |some p=>
     rcases E N with q |q
     ·exact .inl q
     ·rw[q]at G;cases G
    |none=>exact c.2.1 N
   ·unfold aK at e
    cases G:a N with
    |some p=>rw[G]at e;cases e;exact u _ _ G|none=>rw[G]at e;exact c.2.2.1 _ _ e
   ·unfold aK at G
    cases q:a N with
    |some p=>exact ok.1.2.2.1.cz (h N (by rw[q];exact fQ _))|none=>rw[q]at G;exact ok.2.2.2.1 N G
   ·unfold aK at G
    cases q:a N with
    |some p=>rw[q]at G;cases G;exact bC.mv A N j q|none=>rw[q]at G;exact ok.2.2.2.2 N j G
  ·rw[if_neg n]at b
   obtain⟨bF,y,z,d⟩:=Oh X.eD g ok;have J:nd X.eD (vP (qy x X.eD)) x:=λO aE=>(abC (Ol X.eD (.inl aE))).trans (Oi _ _ _)
   refine H.dB m X k (vP (qy x X.eD)) l bF Q _ (abD z) d.1.2.1 ?_;rw[H.gh X J,e];intro a4 ay q v a h s u A;have c:=d.e9 q;have w:c4 a y:=Fl d.2.2.1 h;refine b v a4 a y (aK a y) ay (z.bQ q.1) A (fZ w) ⟨c.1,λN=>?_,λN A e=>?_,λN G=>?_,λN j G=>?_⟩ q.2.2.1
   ·unfold aK
    cases G:a N with
    |some p=>
     rcases s N with q |q
     ·exact .inl q
     ·rw[q]at G;cases G
    |none=>exact c.2.1 N
   ·unfold aK at e
    cases G:a N with
    |some p=>rw[G]at e;cases e;exact u _ _ G|none=>rw[G]at e;exact c.2.2.1 _ _ e
   ·unfold aK at G
    cases q:a N with
    |some p=>exact d.1.2.2.1.cz (h N (by rw[q];exact fQ _))|none=>rw[q]at G;exact d.2.2.2.1 N G
   ·unfold aK at G
    cases q:a N with
    |some p=>rw[q]at G;cases G;exact bC.mv A N j q|none=>rw[q]at G;exact d.2.2.2.2 N j G
theorem GK (a:ak.dZ I)(X:H):hW I (X.cf I ak k) k aH x (mF ak x X):=(Om a X).e
end
noncomputable def qz:bt->bt->Bool
 |h::c5,O::is=>h != O ||qz c5 is
 |_,_=>aA
theorem ly {C:iF} {S R:aq}(e:ab[h]?=D R):(aq.az C ab).gE (h::c5) S=.az C (ab.set h (R.gE c5 S)):=by rw[aq.gE,e]
theorem nM {C:iF}(e:ab[h]?=i):(aq.az C ab).gE (h::c5) S=.az C ab:=by rw[aq.gE,e]
theorem ye {t S:aq}{c5:bt}(Y:∀C ab,t≠.az C ab)(a:c5≠[]):t.gE c5 S=t:=by
 cases c5 with
 |nil=>exact absurd rfl a|cons h c5=>cases t with |az C ab=>exact absurd rfl (Y C ab)|_=>rfl
theorem Oo {t:aq}{c5:bt}(Y:∀C ab,t≠.az C ab)(a:c5≠[]):t.at c5=i:=by
 cases c5 with
 |nil=>exact absurd rfl a|cons h c5=>cases t with |az C ab=>exact absurd rfl (Y C ab)|_=>simp[aq.at]
theorem yf (t:aq):(∃C ab,t=.az C ab)\/∀C ab,t≠.az C ab:=by grind
theorem pz {s:List aP} {R X:aP}(e:s[h]?=D R):(s.set h X)[h]?=D X:=uy (ia.mp e).1
theorem Oq:∀(c5:bt) (t S b:aq),(t.gE c5 S).gE c5 b=t.gE c5 b
 |[],t,S,b=>rfl|h::c5,t,S,b=>by
  rcases yf t with⟨C,ab,rfl⟩|Y
  ·cases e:ab[h]? with
   |none=>rw[nM e]|some R=>rw[ly e,ly e,ly (pz e),uB,Oq c5 R S b]
  rw[ye Y (by simp)]
theorem Ot:∀(c5 is:bt) (t S b:aq),qz c5 is=ag->(t.gE c5 S).gE is b=(t.gE is b).gE c5 S
 |[],_,_,_,_,Y=>by cases Y
 |_::_,[],_,_,_,Y=>by cases Y
 |h::c5,O::is,t,S,b,Y=>by
  rcases yf t with⟨C,ab,rfl⟩|c
  ·by_cases a:h=O
   ·subst a
    cases e:ab[h]? with
    |none=>rw[nM e,nM e,nM e]|some R=>rw[ly e,ly e,ly (pz e),ly (pz e),uB,uB,Ot c5 is R S b (by simpa [qz]using Y)]
   ·cases e:ab[h]? with
    |none=>
     cases aB:ab[O]? with
     |none=>rw[nM e,nM aB,nM e]|some d=>rw[nM e,ly aB,nM (by rw[j9 (λG=>a G.symm)];exact e)]
    |some R=>
     cases aB:ab[O]? with
     |none=>rw[ly e,nM aB,ly e,nM (by rw[j9 a];exact aB)]|some d=>rw[ly e,ly aB,ly (by rw[j9 a];exact aB),ly (by rw[j9 (λG=>a G.symm)];exact e),JH _ _ a]
  ·rw[ye c (by simp),ye c (by simp),ye c (by simp)]
theorem Ou:∀(c5:bt) (t S X:aq),t.at c5=D X->(t.gE c5 S).at c5=D S
 |[],t,S,X,Y=>rfl|h::c5,t,S,X,Y=>by
  rcases yf t with⟨C,ab,rfl⟩|b
  ·cases a:C.fl with
   |false=>rw[rB,a]at Y;cases Y|true=>
    rw[rB,a]at Y;obtain⟨R,e,Y⟩:=hv.mp Y;rw[ly e,rB,a,pz e];exact Ou c5 R S X Y
  rw[Oo b (by simp)]at Y;cases Y
theorem Ov:∀(c5 is:bt) (t S:aq),qz c5 is=ag->(t.gE c5 S).at is=t.at is
 |[],_,_,_,Y=>by cases Y
 |_::_,[],_,_,Y=>by cases Y
 |h::c5,O::is,t,S,Y=>by
  rcases yf t with⟨C,ab,rfl⟩|b
  ·cases e:ab[h]? with
   |none=>rw[nM e]|some R=>
    rw[ly e,rB];congr 1;by_cases a:h=O
    ·subst a
     rw[pz e,e];exact Ov c5 is R S (by simpa [qz]using Y)
    rw[j9 a]
  rw[ye b (by simp)]
theorem Ow:∀{c5 is:bt},qz c5 is=ag->qz is c5=ag
 |[],_,Y=>by cases Y
 |_::_,[],Y=>by cases Y
 |h::c5,O::is,Y=>by
  unfold qz at Y ⊢;rw[pY]at Y ⊢;rcases Y with Y |Y
  ·left;simpa [ne_comm]using Y
  right;exact Ow Y
noncomputable abbrev jV:=Nat×bt
def apart (V dq:jV):Bool:=V.1 != dq.1 ||qz V.2 dq.2
def en (x:aZ)(V:jV):Option aq:=match x[V.1]? with |some (D t)=>t.at V.2 |_=>i
def fe (x:aZ)(V:jV)(R:aq):aZ:=match x[V.1]? with |some (D t)=>x.set V.1 (D (t.gE V.2 R))|_=>x
theorem jW {R t:aq}(e:x[V.1]?=D (D t)):fe x V R=x.set V.1 (D (t.gE V.2 R)):=by unfold fe;rw[e]
theorem nf {R:aq}(e:∀t,x[V.1]?≠D (D t)):fe x V R=x:=by
 unfold fe;simp_all
theorem ng (x:aZ)(O:Nat):(∃t,x[O]?=D (D t))\/∀t,x[O]?≠D (D t):=by grind
theorem abE (x:aZ)(V:jV)(S b:aq):fe (fe x V S) V b=fe x V b:=by
 rcases ng x _ with⟨t,e⟩|e
 ·rw[jW e,jW e,jW (pz e),uB,Oq]
 rw[nf e]
theorem abF {R:aq}{O:Nat}(Y:V.1≠O):(fe x V R)[O]?=x[O]?:=by
 rcases ng x _ with⟨t,e⟩|e
 ·rw[jW e,j9 Y]
 rw[nf e]
theorem pA (e:x[V.1]?=D (D t)):en x V=t.at V.2:=by unfold en;rw[e]
theorem Ox {R:aq}(Y:apart V dq=ag):en (fe x V R) dq=en x dq:=by
 unfold apart at Y;by_cases e:V.1=dq.1
 ·have Y  := by simpa [e]using Y
  rcases ng x _ with⟨t,G⟩|G
  ·rw[jW G,pA  (by rw[<- e];exact pz G),pA  (by rwa[<- e])]
   exact Ov _ _ t R Y
  rw[nf G]
 unfold en;rw[abF e]
theorem abG {S X:aq}(Y:en x V=D X):en (fe x V S) V=D S:=by
 rcases ng x _ with⟨t,G⟩|G
 ·rw[pA G]at Y
  rw[jW G,pA  (pz G)];exact Ou _ t S X Y
 ·unfold en at Y
  simp_all
theorem abH (Y:apart V dq=ag):fe (fe x V S) dq b=fe (fe x dq b) V S:=by
 unfold apart at Y;by_cases e:V.1=dq.1
 ·have Y  := by simpa [e]using Y
  rcases ng x _ with⟨t,G⟩|G
  ·have c:x[dq.1]?=D (D t):=by rwa[<- e]
   rw[jW G,jW c,jW  (by rw[<- e];exact pz G),jW  (by rw[e];exact pz c),<- e,uB,uB,Ot _ _ t S b Y]
  ·rw[nf G,nf (show∀t,x[dq.1]?≠D (D t) by rw[<- e];exact G),nf G]
 ·rcases ng x _ with⟨t,G⟩|G
  ·rcases ng x _ with⟨d,a⟩|a
   ·rw[jW G,jW a,jW  (by rwa[j9 e]),jW  (by rwa[j9 (λq=>e q.symm)]),JH _ _ e]
   ·rw[nf a,jW G,nf (by rwa[j9 e])]
  ·rcases ng x _ with⟨d,a⟩|a
   ·rw[nf G,jW a,nf (by rwa[j9 (λq=>e q.symm)])]
   rw[nf G,nf a,nf G]
section
variable {I:jv}{k:cg}{F a4 bF av Y C Q ay aw a7:ar}{t R:aq}{ab:bO}{v u:aS}{ae:bp}{N:ba}{o:cm}{x:aZ}{n:b1}{l:L2.ck}{ak:fG}{V:jV}
inductive ee where
 |v (O:Nat)|w (N:ee) (y:Str)|z (N:ee) (X:H)
def ee.X:ee->H
 |.v O=>.v O|.w N y=>.dh N.X y|.z N q=>.aY .fq N.X q
def g0:kD->ey->Nat
 |[],_=>0|a::b,C=>if a=C then 0 else g0 b C+1
def yg (b:c_)(y:Str)(R:aq):Option Nat:=match R with
 |.az (.dV R a) ab=>if R∈b/\a.idxOf y<ab.length then D (a.idxOf y)else i
 |_=>i
def tR (R t:aq):Option Nat:=match R with
 |.az .aM ab=>(match t.aK with |.c O=>(ic ab.length O).bind λh=>if h<ab.length then D h else i |_=>i)|.az .bb ab=>(match t.aK with |.c O=>(ic ab.length O).bind λh=>if h<ab.length then D h else i |_=>i)|.az (.gP a) ab=>(nI t).bind λC=>if g0 a C<a.length/\a.length=ab.length then D (g0 a C)else i
 |_=>i
def ee.aW (ak:fG)(x:aZ):ee->Mo jV
 |.v O=>if(en x (O,[])).isSome then .f (O,[])else .aU
 |.w N y=>(N.aW ak x).aC λV=>.fj ((en x V).bind λR=>(yg ak.dg y R).map λh=>(V.1,V.2++[h]))|.z N X=>(N.aW ak x).aC λV=>(X.aW ak x).aC λt=>.fj ((en x V).bind λR=>(tR R t).map λh=>(V.1,V.2++[h]))
def abI (I:cO)(n:b1)(k:cg)(x:aZ)(E:Mo jV):Prop:=∀l F Q (o:cm),gY (hh I x) l F->bx F Q ->
 (match E with
  |.f V=>∀a4 ay v u R,f9 F Q a4 ay->l[V.1]?=D (D v)->lY ay v V.2=D u->en x V=D R->bD I R u ay->o u ay|.aT R=>∀a4 ay,f9 F Q a4 ay->kN I k R Q a4 ay|.aU=>False)->n l Q o
theorem GL:∀{a:kD}{ae:bp}{C:ey}{p:aS},ae[g0 a C]?=D p->g0 a C<a.length->hB (a.zip ae) C=D p
 |[],_,_,_,_,Y=>by simp at Y
 |c::a,[],C,p,Y,_=>by simp at Y
 |c::a,u::ae,C,p,Y,b=>by
  unfold hB;rw[kB,q3];unfold g0 at Y b;by_cases e:c=C
  ·rw[if_pos e]at Y;simp at Y;subst Y
   rw[decide_eq_true e];rfl
  ·rw[if_neg e]at Y
   rw[if_neg e]at b;rw[decide_eq_false e];exact GL Y (by simpa using b)
theorem Oy {C:iF}{ab:bO}{h:Nat}{R:aq}(a:C.fl=ag)(b:ab[h]?=D R):∀{c5:bt}{t:aq},t.at c5=D (.az C ab)->t.at (c5++[h])=D R
 |[],t,Y=>by cases Y;rw[wC,rB,a,b];rfl
 |O::c5,t,Y=>by
  rcases yf t with⟨d,dJ,rfl⟩|f
  ·rw[rB]at Y
   cases c:d.fl with
   |false=>simp_all|true=>
    rw[c]at Y;obtain⟨cS,e,Y⟩:=hv.mp Y;rw[zo,rB,c,e];exact Oy a b Y
  rw[Oo f (by simp)]at Y;cases Y
theorem Oz {C:iF} {R:aq}(b:C.fl=ag)(c:ab[h]?=D R)(Y:en x q0=D (.az C ab)):en x (q0.1,q0.2++[h])=D R:=by
 rcases ng x _ with⟨t,a⟩|a
 ·rw[pA a]at Y
  rw[pA (V:=(q0.1,q0.2++[h])) a];exact Oy b c Y
 unfold en at Y;simp_all
theorem abJ {O:Nat}(a:gY (hh I x) l F)(c:x[O]?=D (D t)):∃v,l[O]?=D (D v)/\bD I t v F:=by
 obtain⟨v,d,b⟩:=a O (nA I (D t)) (by simp_all)
 refine⟨v,?_,b⟩;cases G:l[O]? with
 |_=>simp_all
theorem ee.dB (m:ak.dZ I):∀(N:ee) (k:cg) (x:aZ),abI I (N.X.cf I ak k) k x (N.aW ak x)
 |.v O,k,x=>by
  intro l F Q o d j V;unfold ee.aW at V;rcases ng x O with⟨t,J⟩|J
  ·have Z:en x (O,[])=D t:=by rw[pA (V:=(O,[])) J];show t.at []=_;rw[aq.at]
   rw[Z]at V;obtain⟨v,n,ah⟩:=abJ d J;show o_ O l Q o
   unfold o_;rw[n];exact V F Q v v t (.fu j) n rfl Z (ah.bQ j)
  ·rw[show en x (O,[])=i from by
    unfold en;split
    ·rename_i t G;exact absurd G (J t)
    ·rfl]at V
   exact V.elim
 |.w N y,k,x=>by
  intro l F Q o d j V;unfold ee.aW at V;cases e:N.aW ak x with
  |aU=>rw[e]at V;exact V.elim|aT R=>
   rw[e]at V;cases aa:ak.dg with
   |nil=>exact absurd aa m.dg|cons ai au=>exact⟨ai,by rw[aa];exact eI ..,ee.dB m N k x l F Q _ d j (by rw[e];exact V)⟩
  |f a=>
   rw[e]at V;dsimp only[Mo.aC]at V;cases aR:en x a with
   |none=>rw[aR]at V;exact V.elim|some R=>
    rw[aR]at V;cases aB:yg ak.dg y R with
    |none=>rw[show(Option.bind (D R) λR=>(yg ak.dg y R).map λh=>(a.1,a.2++[h]))=i from by simp[aB]]at V;exact V.elim|some h=>
     rw[show(Option.bind (D R) λR=>(yg ak.dg y R).map λh=>(a.1,a.2++[h]))=D (a.1,a.2++[h])from by simp[aB]]at V
     unfold yg at aB;split at aB
     ·rename_i aj al ab
      split at aB
      ·rename_i s
       cases aB;refine⟨aj,s.1,ee.dB m N k x l F Q _ d j ?_⟩;rw[e];intro bF aw v u cS x1 n L A M;rw[aR]at A;cases A;obtain⟨fh,ae,rfl,b,E⟩:=M.az;rcases E.g8 (al.idxOf y)with⟨G,_⟩|⟨eh,p,P,c,S⟩
       ·rw[gx s.2]at G;cases G
       have am:=b;obtain⟨bS,an,ao⟩:=b;exact⟨bS,_,p,an,Gk c ao,V bF aw v p eh x1 n (Gh rfl am c L) (Oz rfl P aR) S⟩
      ·cases aB
     ·cases aB
 |.z N X,k,x=>by
  intro l F Q o d j V;unfold ee.aW at V;cases e:N.aW ak x with
  |aU=>rw[e]at V;exact V.elim|aT R=>rw[e]at V;exact ee.dB m N k x l F Q _ d j (by rw[e];exact V)|f a=>
   rw[e]at V;refine ee.dB m N k x l F Q _ d j ?_;rw[e];intro bF aw v u R x1 n L A M;dsimp only[Mo.aC]at V;cases aT:X.aW ak x with
   |aU=>rw[aT]at V;exact V.elim|aT R=>
    rw[aT]at V;refine H.dB m X k x l bF aw _ (d.bQ x1.1) x1.2.1 ?_;rw[aT];exact λav a7 x2=>(V av a7 (x1.ct x2)).i_ x1.2.2.1
   |f T=>
    rw[aT]at V;dsimp only at V;rw[A]at V;cases aB:tR R T with
    |none=>rw[show(Option.bind (D R) λR=>(tR R T).map λh=>(a.1,a.2++[h]))=i from by simp[aB]]at V;exact V.elim|some h=>
     rw[show(Option.bind (D R) λR=>(tR R T).map λh=>(a.1,a.2++[h]))=D (a.1,a.2++[h])from by simp[aB]]at V
     refine hj (H.dB m X k x) l bF aw _ (d.bQ x1.1) x1.2.1 ?_;rw[aT];intro av a7 x2 q ac;have K:=bD.aK ac;have U:=M.bQ x2.2.2.1;have g:∀{C:iF}{ab:bO}{fh:ba}{ae:bp},C.fl=ag->R=.az C ab->u=.a0 fh->nF I C fh ae a7->cc I ab ae a7->h<ab.length->∃p,ae[h]?=D p/\o p a7:=λ{C ab fh ae} af ec ap b E B=>by
      subst ec;subst ap;rcases E.g8 h with⟨G,_⟩|⟨eh,p,P,c,S⟩
      ·rw[gx B]at G;cases G
      exact⟨p,c,V av a7 v p eh (x1.ct x2) n (Gh af b c (xU x2.2.2.1 L)) (Oz af P A) S⟩
     unfold tR at aB;split at aB
     ·split at aB
      ·rename_i O W
       rw[W]at K;cases K.c;obtain⟨ar,Y,aB⟩:=hv.mp aB;split at aB
       ·rename_i B
        cases aB;obtain⟨fh,ae,rfl,b,E⟩:=U.az;obtain⟨p,c,g⟩:=g rfl rfl rfl b E B;refine .inl ⟨ae,.inl (.of b),?_⟩;rw[show dW ae O=D p from by unfold dW;rw[<- E.cn,Y];exact c];exact g
       ·cases aB
      ·cases aB
     ·split at aB
      ·rename_i O W
       rw[W]at K;cases K.c;obtain⟨ar,Y,aB⟩:=hv.mp aB;split at aB
       ·rename_i B
        cases aB;obtain⟨fh,ae,rfl,b,E⟩:=U.az;obtain⟨p,c,g⟩:=g rfl rfl rfl b E B;refine .inl ⟨ae,.inr (.of b),?_⟩;rw[show dW ae O=D p from by unfold dW;rw[<- E.cn,Y];exact c];exact g
       ·cases aB
      ·cases aB
     ·rename_i ax ab
      obtain⟨C,as,aB⟩:=hv.mp aB;split at aB
      ·rename_i s
       cases aB;obtain⟨fh,ae,rfl,b,E⟩:=U.az;obtain⟨p,c,g⟩:=g rfl rfl rfl b E (by rw[<- s.2];exact s.1)
       exact .inr (F7 rfl (xR as ac).1 b.1 ⟨p,GL c s.1,g⟩)
      ·cases aB
     ·cases aB
end
def b8.aC {z aP dT:Type}(m:b8 z aP)(C:aP->z->b8 z dT):b8 z dT:=match m with |.f S n=>C S n |.aT R n=>.aT R n |.aU=>.aU
inductive r where
 |X (X:H)|s (N:ee)
 |m (N:ee)
abbrev pB:=List r
def r.n:r->H
 |.X q=>q|.s N=>N.X|.m N=>N.X
inductive rK where
 |t (t:aq)|s (V:jV)
abbrev jX:=List rK
def GN (ak:fG)(x:aZ)(N:ee):b8 aZ aq:=match N.aW ak x with
 |.f V=>(match en x V with |some R=>.f R (fe x V .e4)|none=>.aU)|.aT R=>.aT R x|.aU=>.aU
def eE (ak:fG):aZ->pB->b8 aZ jX
 |x,[]=>.f [] x|x,.X X::aG=>(mF ak x X).aC λt e=>(eE ak e aG).aC λa b=>.f (.t t::a) b|x,.s N::aG=>match N.aW ak x with
  |.f V=>(eE ak x aG).aC λa b=>.f (.s V::a) b|.aT R=>.aT R x|.aU=>.aU
 |x,.m N::aG=>(GN ak x N).aC λt e=>(eE ak e aG).aC λa b=>.f (.t t::a) b
section
variable {I:jv}{k:cg}{F a4 bE bF av bk Y af ai Q ay aw a7:ar}{t R:aq}{ab:bO}{v u:aS}{a:bp}{N:ba}{o:cm}{x:aZ}{n:b1}{aH:iX}{l:L2.ck}{ak:fG}{V:jV}{bG:fY}{w:bY}
def pC (I:cO)(l:L2.ck)(F Q:ar):List rK->bp->ar->Prop
 |[],a,Y=>a=[]/\∀N,Y N=i|.t t::c,a,Y=>∃v b af ai,a=v::b/\cQ af ai Y/\bC I t v F af/\pC I l F Q c b ai|.s V::c,a,Y=>∃u v b,a=u::b/\l[V.1]?=D (D v)/\lY Q v V.2=D u/\pC I l F Q c b Y
def OA (I:cO)(E:b8 aZ (List rK))(k:cg)(aH:iX)(l:L2.ck)(bE bk d:ar)(o:List aS->ar->Prop):Prop:=match E with
 |.f e x=>∀a F b c Y Q,da (eV I aH x) l F c->pC I l F Q e a b->cQ b c Y->dG bE bk F Y Q->bx d Q->o a Q|.aT R x=>∀F Y Q,da (eV I aH x) l F Y->dG bE bk F Y Q->kN I k R bk F Q|.aU=>False
def rL (I:cO)(n:fY)(k:cg)(aH:iX)(x:aZ)(E:b8 aZ (List rK)):Prop:=
 ∀bE bk l F Y Q (o:List aS->ar->Prop),da (eV I aH x) l F Y->dG bE bk F Y Q->OA I E k aH l bE bk Q o->n l Q o
theorem hG (G:ar)(a:∀N,G N=i):cQ G Y Y:=λN=>.inl ⟨a N,rfl⟩
theorem BE {S b R:ar}(d:c4 S b)(a:c4 S R)(c:c4 b R):cQ (aK S b) R (aK S (aK b R)):=λN=>by
 unfold aK;cases X:S N with
 |some A=>
  right;rcases a N with q |q
  ·rw[q]at X;cases X
  ·exact⟨q,rfl⟩
 |none=>
  cases q:b N with
  |some A=>
   right;rcases c N with G |G
   ·rw[G]at q;cases q
   ·exact⟨G,rfl⟩
  |none=>left;exact⟨rfl,rfl⟩
theorem i0 (h:cQ af ai Y):Y=aK af ai:=funext λN=>by
 unfold aK;rcases h N with⟨S,b⟩|⟨S,b⟩
 ·rw[S,b]
 ·rw[b]
  cases af N with
  |none=>exact S.symm|some A=>rfl
theorem abK:rL I ib k aH x (.f [] x):=λbE bk l F Y Q o a b c=>c [] F _ Y Y Q a ⟨rfl,λ_=>rfl⟩ (hG _ λ_=>rfl) b (bx.fu _)
theorem OB {E:b8 aZ aq}{g:aZ->b8 aZ jX}(B:yd I n k aH x E)(C:∀e,rL I bG k aH e (g e)):rL I (hb n bG) k aH x (E.aC λt e=>(g e).aC λu m=>.f (.t t::u) m):=by
 intro bE bk l F Y Q o J ok b;refine B bE bk l F Y Q _ J ok ?_;cases E with
 |aU=>exact b|aT R e=>exact b|f t e=>
  intro v bF w K aF aw L M h c O;refine C e bF _ l bF K aw _ L (Og c h) ?_;dsimp only[b8.aC]at b;cases aB:g e with
  |aU=>rwa[aB]at b|aT R m=>
   rw[aB]at b;intro av ai a7 p q;obtain⟨z,d,s⟩:=vO c h q;refine GI c h (b av _ a7 (da.qi p (fZ d)) s)
  |f u m=>
   rw[aB]at b;intro a av y P ai a7 p S j q T;obtain⟨z,d,s⟩:=vO c h q;have U:=i0 j;subst U;have A:c4 w y:=λN=>by rcases d N with G |G;exact .inl G;exact .inr ((fZ j.f_).s.cz G)
   exact b _ av _ P _ a7 p ⟨v,a,w,y,rfl,fZ A,M.bQ z,S⟩ (BE A (λN=>by rcases d N with G |G;exact .inl G;exact .inr ((fZ j.f_).E.cz G)) j.f_) s (O.ct T)
theorem abL (m:ak.dZ I){c:ee}{E:b8 aZ jX}(n:rL I bG k aH x E):rL I (hb (c.X.cf I ak k) bG) k aH x (match c.aW ak x with |.f V=>E.aC λg h=>.f (.s V::g) h |.aT R=>.aT R x |.aU=>.aU):=by
 intro bE bk l F Y Q o d ok b;refine ee.dB m c k x l _ Q _ (rC (d.rp ok.2.1)) ok.rt ?_;cases e:c.aW ak x with
 |aU=>rwa[e]at b|aT R=>
  rw[e]at b;exact λa4 ay q=>(b _ _ _ (d.bQ (ok.ej q).2.1) (ok.ej q).1).ej ok q
 |f V=>
  rw[e]at b;intro bF aw v u R x1 p s _ _;obtain⟨t,w,J⟩:=ok.ej x1;refine n bE bk l _ Y aw _ (d.bQ w) t ?_;cases E with
  |f g h=>exact λa av y z ai a7 A B C G j=>b _ av y z ai a7 A ⟨u,v,a,rfl,p,xU j s,B⟩ C G (x1.2.2.1.ct j)|_=>exact b
theorem ox {Y:ar}(a:∀N,Y N=i):bC I .e4 v F Y:=by trivial
theorem abM (m:ak.dZ I){c:ee}:yd I (c.X.cf I ak k) k aH x (GN ak x c):=by
 intro bE bk l F Y Q o d ok a;unfold GN at a;refine ee.dB m c k x l _ Q _ (rC (d.rp ok.2.1)) ok.rt ?_;cases e:c.aW ak x with
 |aU=>rwa[e]at a|aT R=>
  rw[e]at a;exact λa4 ay q=>(a _ _ _ (d.bQ (ok.ej q).2.1) (ok.ej q).1).ej ok q
 |f V=>
  rw[e]at a;intro bF aw v u R x1 n p b _;obtain⟨g,s,C⟩:=ok.ej x1;have a:GJ I (match en x V with |some R=>.f R _ |none=>.aU) k aH l bE bk Q o:=a
  rw[b]at a;unfold en at b;split at b
  ·rename_i t j
   obtain⟨E,G,af,ai,aR,w,h,y,z⟩:=Bo (d.bQ s) j b;have A  := aR.symm.trans n;cases A;have B:=(w aw g.1.2.1 g.2.2.1).symm.trans p;cases B;exact a u _ af ai Y aw (by rw[jW j];exact z _ _ _ ai (bx.fu _) (ox λ_=>rfl) (hG _ λ_=>rfl)) y h g x1.2.2.1
  cases b
theorem pD (a:ak.dZ I):∀(aG:pB) (x:aZ),rL I (H.et I ak k (aG.map r.n)) k aH x (eE ak x aG)
 |[],x=>abK|.X X::aG,x=>OB (Om a X) (pD a aG)|.s N::aG,x=>abL a (pD a aG x)|.m N::aG,x=>OB (abM a) (pD a aG)
def iL (x:aZ):List rK->Option bO
 |[]=>D []|.t t::a=>(iL x a).map λab=>t::ab|.s V::a=>(en x V).bind λR=>(iL x a).map λab=>R::ab
def pE (V:jV):List rK->Bool
 |[]=>ag|.t _::a=>pE V a|.s dq::a=>apart V dq && pE V a
def pF:jX->Bool
 |[]=>ag|.t _::a=>pF a|.s V::a=>pE V a && pF a
def jB (x:aZ):List rK->bO->aZ
 |.t _::a,_::ab=>jB x a ab|.s V::a,t::ab=>fe (jB x a ab) V t|_,_=>x
theorem GO {R:aq}:∀{a:jX},pE V a=ag->iL (fe x V R) a=iL x a
 |[],_=>rfl|.t t::a,Y=>by unfold pE at Y;unfold iL;rw[GO Y]
 |.s dq::a,Y=>by
  obtain⟨af,ai⟩:=lJ.mp Y;unfold iL;rw[GO ai,Ox af]
theorem GP {R:aq}:∀{a:jX}{ab:bO},pE V a=ag->jB (fe x V R) a ab=fe (jB x a ab) V R
 |[],_,_=>rfl|.t t::a,[],_=>rfl|.s dq::a,[],_=>rfl|.t t::a,_::ab,Y=>by unfold jB;exact GP Y
 |.s dq::a,t::ab,Y=>by
  obtain⟨af,ai⟩:=lJ.mp Y;unfold jB;rw[GP ai,abH af]
theorem GQ:∀{a:jX}{ab:bO},pE V a=ag->en (jB x a ab) V=en x V
 |[],_,_=>rfl|.t t::a,[],_=>rfl|.s dq::a,[],_=>rfl|.t t::a,_::ab,Y=>by unfold jB;exact GQ Y
 |.s dq::a,t::ab,Y=>by
  obtain⟨af,ai⟩:=lJ.mp Y;unfold jB;have b:apart dq V=ag:=by
   unfold apart at af ⊢;rw[pY]at af ⊢;rcases af with af |af
   ·left;simpa [ne_comm]using af
   right;exact Ow af
  rw[Ox b,GQ ai]
theorem GR:∀{d:jX}{x:aZ}{ab:bO}{a:bp}{s A Y:ar},iL x d=D ab->pF d=ag->pC I l F Q d a s->da (eV I aH x) l F A->cQ s A Y->bx F Q->bx Y Q ->
  ∃j q,cQ j q Y/\bL I ab a F j/\ab.length=d.length/\∀dJ a4 B aF,bx F a4->bL I dJ a a4 B->cQ B q aF->da (eV I aH (jB x d dJ)) l a4 aF
 |[],x,ab,a,s,A,Y,e,_,n,C,h,E,J=>by
  unfold iL at e;cases e;obtain⟨rfl,y⟩:=n;refine⟨s,A,h,by unfold bL;exact⟨rfl,y⟩,rfl,λdJ a4 B aF z P K=>?_⟩
  unfold jB;exact da.qi (C.bQ z) K
 |.t t::d,x,ab,a,s,A,Y,e,L,n,C,h,E,J=>by
  unfold iL at e;obtain⟨as,aR,rfl⟩:=iR.mp e;obtain⟨v,W,af,ai,rfl,au,av,n⟩:=n;obtain⟨m,X,k⟩:=ja au h;obtain⟨j,q,o,P,Z,w⟩:=GR aR (by unfold pF at L;exact L) n C X E (k.E.ct J)
  obtain⟨S,a0,a1⟩:=ja (jA k |> λG=>G |> jA) (show cQ Y (λ_=>i) Y from λN=>.inr ⟨rfl,rfl⟩)
  have dy:c4 af j:=λN=>by rcases k.f_ N with G |G;exact .inl G;exact .inr (o.s.cz G)
  have aa:c4 af q:=λN=>by rcases k.f_ N with G |G;exact .inl G;exact .inr (o.E.cz G)
  refine⟨aK af j,q,?_,by unfold bL;exact⟨v,W,af,j,rfl,fZ dy,av,P⟩,by rw[ew,ew,Z],λdJ a4 B aF z c K=>?_⟩
  ·have:=BE dy aa o.f_
   rw[<- i0 o,<- i0 k]at this;exact this
  ·cases dJ with
   |nil=>unfold bL at c;cases c.1|cons eh dJ=>
    unfold bL at c;obtain⟨aw,ax,an,ac,ae,ah,_,c⟩:=c;cases ae;obtain⟨b,aj,ak⟩:=ja ah K;unfold jB;exact da.qi (w dJ a4 ac b z c aj) ak
 |.s V::d,x,ab,a,s,A,Y,e,L,n,C,h,E,J=>by
  unfold iL at e;obtain⟨R,ec,e⟩:=hv.mp e;obtain⟨as,aR,rfl⟩:=iR.mp e;obtain⟨u,v,W,rfl,ay,az,n⟩:=n;unfold pF at L;obtain⟨al,aB⟩:=lJ.mp L;rcases ng x V.1 with⟨ao,M⟩|M
  rotate_left
  ·unfold en at ec;split at ec
   ·rename_i t G;exact absurd G (M t)
   ·cases ec
  have aC:ao.at V.2=D R:=by rw[<- pA M];exact ec
  obtain⟨aw,f,T,am,ap,aD,aE,aG,g⟩:=Bo C M aC;rw[ay]at ap;cases ap;have aI:bx A Q:=h.E.ct J;have aJ:f=u:=kb ((aD Q E aI).symm.trans az);subst aJ;have aL:fe x V (.e5 f)=x.set V.1 (D (ao.gE V.2 (.e5 f))):=jW M;have aM:da (eV I aH (fe x V (.e5 f))) l F am:=by
   rw[aL];exact g (.e5 f) F (λ_=>i) am (bx.fu _) (by unfold bC;exact⟨λ_=>rfl,by unfold bD;rfl⟩) (hG _ λ_=>rfl)
  obtain⟨m,X,k⟩:=ja aE (jA h);have aO:cQ s am m:=jA X;obtain⟨j,q,o,P,Z,w⟩:=GR (d:=d) (x:=fe x V (.e5 f)) (by rw[GO al];exact aR) aB n aM aO E (k.E.ct J)
  have dy:c4 T j:=λN=>by rcases k.f_ N with G |G;exact .inl G;exact .inr (o.s.cz G)
  have aa:c4 T q:=λN=>by rcases k.f_ N with G |G;exact .inl G;exact .inr (o.E.cz G)
  refine⟨aK T j,q,?_,by unfold bL;exact⟨f,W,T,j,rfl,fZ dy,aG,P⟩,by rw[ew,ew,Z],λdJ a4 B aF z c K=>?_⟩
  ·have:=BE dy aa o.f_
   rw[<- i0 o,<- i0 k]at this;exact this
  ·cases dJ with
   |nil=>unfold bL at c;cases c.1|cons eh dJ=>
    unfold bL at c;obtain⟨p,ax,an,ac,ae,ah,aP,c⟩:=c;cases ae;obtain⟨b,aj,ak⟩:=ja ah K;have ai:=w dJ a4 ac b z c aj;have U:en (jB (fe x V (.e5 f)) d dJ) V=D (.e5 f):=by rw[GQ al];exact abG ec
    rcases ng (jB (fe x V (.e5 f)) d dJ) V.1 with⟨aQ,O⟩|O
    rotate_left
    ·unfold en at U;split at U
     ·rename_i t G;exact absurd G (O t)
     ·cases U
    have aT:aQ.at V.2=D (.e5 f):=by rw[<- pA O];exact U
    obtain⟨a2,aU,e3,d_,_,_,aV,on,aW⟩:=Bo ai O aT;unfold bC at on;obtain⟨aX,on⟩:=on;unfold bD at on;subst on;have aY:b=d_:=by rw[i0 aV];funext N;unfold aK;rw[aX N]
    subst aY;have:=aW eh a4 an aF (bx.fu _) aP ak;unfold jB;rw[show fe (jB x d dJ) V eh=fe (jB (fe x V (.e5 aU)) d dJ) V eh from by rw[GP al,abE],jW O]
    exact this
def hk (w:bY)(a:jX)(x:aZ):b8 aZ aq:=match iL x a with
 | some ab=>if pF a then(match w ab with
   |.f t dJ=>.f t (jB x a dJ)|.aT R dJ=>.aT R (jB x a dJ)|.aU=>.aU)else .aU
 |none=>.aU
def BF (I:cO)(w:bY)(ab:bO)(a:bp)(Q:ar)(o:cm)(k:cg):Prop:=∃F Y,bx F Q/\c4 F Y/\bx Y Q/\bL I ab a F Y/\Gi I (w ab) k F (gm Q Y) a o
theorem BF.fI {ab:bO}(Y:BF I w ab a Q o k):f3 I w a Q o k:=by obtain⟨F,Y,S⟩:=Y;exact⟨F,Y,ab,S⟩
theorem OC (K:da (eV I aH x) l F hE)(L:pC I l F Q gs a hA)(h:cQ hA hE Y)(ok:dG bE bk F Y Q)(b:tQ I (hk w gs x) k aH l bE bk o):∃ab,iL x gs=D ab/\BF I w ab a Q o k:=by
 unfold hk at b;cases m:iL x gs with
 |none=>rw[m]at b;exact b.elim|some ab=>
  rw[m]at b;dsimp only at b;by_cases n:pF gs=ag
  rotate_left
  ·rw[if_neg n]at b;exact b.elim
  rw[if_pos n]at b;obtain⟨M,c,p,O,U,g⟩:=GR m n L K h ok.1.2.1 ok.2.2.1;have s:=jA p;refine⟨ab,rfl,F,M,ok.1.2.1,xD ok.2.1 p,p.s.ct ok.2.2.1,O,?_⟩;cases u:w ab with
  |aU=>rw[u]at b;exact b|aT R dJ=>
   rw[u]at b;intro av ai a7 y B;obtain⟨z,e,C⟩:=vO ok s y;exact GI ok s (b av (aK c ai) a7 (g dJ av ai _ z B (jA (fZ e))) C)
  |f t dJ=>
   rw[u]at b;intro v av ai a7 E d y j P B;obtain⟨z,e,C⟩:=vO ok s y;have S:c4 c E:=λN=>by rcases e N with G |G;exact .inl G;exact .inr (j.s.cz G)
   have J:c4 c d:=λN=>by rcases e N with G |G;exact .inl G;exact .inr (j.E.cz G)
   have T:c4 d c:=λN=>(J N).symm
   refine b v av E (aK d c) (aK c ai) a7 (g dJ av d _ z B (fZ T)) P ?_ C;rw[i0 j];intro N;unfold aK;cases X:E N with
   |some A=>
    right;rcases j.f_ N with G |G
    ·rw[G]at X;cases X
    ·rcases S N with q |q
     ·rw[G,q];exact⟨rfl,rfl⟩
     ·rw[q]at X;cases X
   |none=>
    left;refine⟨rfl,?_⟩;cases q:c N with
    |some A=>
     rcases J N with G |G
     ·rw[G]at q;cases q
     ·rw[G]
    |none=>cases d N<;>rfl
theorem yh (b:da (eV I aH x) l F hE)(c:pC I l F Q gs a hA)(h:cQ hA hE Y)(d:dG bE bk F Y Q)(e:tQ I (hk w gs x) k aH l bE bk o):f3 I w a Q o k:=by
 obtain⟨ab,_,R⟩:=OC b c h d e;exact R.fI
theorem abN {E:b8 aZ jX}(c:rL I bG k aH x E):hW I (rd (f3 I w) [] k bG) k aH x (E.aC (hk w)):=by
 intro bE bk l F Y Q o d ok b;refine c bE bk l F Y Q _ d ok ?_;cases E with
 |f n e=>
  intro a bF p q af aw g j h m _;rw[l_];exact yh g j h m b |_=>exact b
end
inductive fN where
 |dx |eT (t:aq)|gM |gU
abbrev nh:=aZ->b8 aZ fN
section
variable {I:jv}{k:cg}{F a4 bE bF av bk Y af ai Q ay aw a7:ar}{t R:aq}{ab:bO}{v u:aS}{a:bp}{N:ba}{x:aZ}{n:b1}{aH:iX}{l:L2.ck}{bG:fY}{w:bY}{z bf bo:gf}{O:Nat}
def pG (I:cO)(E:b8 aZ fN)(k:cg)(aH:iX)(bE bk:ar)(bB:sP):Prop:=match E with
 |.f .dx x=>∀l F Y Q,da (eV I aH x) l F Y->dG bE bk F Y Q->bB.dx l Q|.f .gM x=>∀l F Y Q,da (eV I aH x) l F Y->dG bE bk F Y Q->bB.gM l Q|.f .gU x=>∀l F Y Q,da (eV I aH x) l F Y->dG bE bk F Y Q->bB.gU l Q|.f (.eT t) x=>∀v l F a ai Y Q,da (eV I aH x) l F ai->bC I t v F a->cQ a ai Y->dG bE bk F Y Q->bB.eT v Q|.aT R x=>∀l F Y Q,da (eV I aH x) l F Y->dG bE bk F Y Q->kN I k R bk F Q|.aU=>False
def hH (I:cO)(n:gf)(k:cg)(aH:iX)(x:aZ)(E:b8 aZ fN):Prop:=
 ∀bE bk l F Y Q (bB:sP),da (eV I aH x) l F Y->dG bE bk F Y Q->pG I E k aH bE bk bB->n bB l Q
theorem OD:hH I uV k aH x (.f .dx x):=λbE bk l F Y Q bB a b c=>c l F Y Q a b
theorem abO:hH I Eg k aH x (.f .gM x):=λbE bk l F Y Q bB a b c=>c l F Y Q a b
def jY (E:b8 aZ fN)(g:nh):b8 aZ fN:=E.aC λA e=>match A with |.dx=>g e |_=>.f A e
theorem OE {E:b8 aZ fN}{g:nh}(c:hH I bf k aH x E)(d:∀e,hH I bo k aH e (g e)):hH I (sT bf bo) k aH x (jY E g):=by
 intro bE bk l F Y Q bB b ok a;refine c bE bk l F Y Q _ b ok ?_;cases E with
 |aU=>exact a|aT R e=>exact a|f A e=>
  cases A with
  |dx=>exact λl F Y Q b ok=>d e bE bk l F Y Q bB b ok a|_=>exact a
theorem OF (hw:aH O=i)(aE:O<x.length)(d:da (eV I aH x) l F hE)(e:bC I t v F hr)(h:cQ hr hE Y):da (eV I aH (x.set O (D t))) (l.set O (D v)) F Y:=by
 obtain⟨A,b,c,aR,a,j,g⟩:=da.vD d (vE (gx aE));have f:c4 hr c:=λN=>by rcases h.f_ N with G |G;exact .inl G;exact .inr (a.E.cz G)
 have:=g (oo I (aH O) (D t)) (D v) F hr (aK hr c) (bx.fu _) (Bn (λu G=>by rw[hw]at G;cases G) e) (fZ f)
 rw[Bm]at this;refine da.qi this (g:=b) ?_;rw[i0 h,i0 a];intro N;unfold aK;cases X:hr N with
 |some A=>
  left;refine⟨?_,rfl⟩;rcases h.f_ N with G |G
  ·rw[G]at X;cases X
  ·exact a.s.cz G
 |none=>
  cases q:b N with
  |some A=>
   right;refine⟨?_,rfl⟩;rcases a.f_ N with G |G
   ·rw[G]at q;cases q
   ·exact G
  |none=>left;exact⟨rfl,rfl⟩
def BG (aD:md)(O:Nat)(E:b8 aZ aq):b8 aZ fN:=E.aC λt e=>if aD O=aA/\O<e.length then .f .dx (e.set O (D t))else .aU
theorem abP {E:b8 aZ aq}(b:∀O,aD O=aA->aH O=i)(c:hW I n k aH x E):hH I (o2 n (o1 O)) k aH x (BG aD O E):=by
 intro bE bk l F Y Q bB d ok a;refine c bE bk l F Y Q _ d ok ?_;cases E with
 |aU=>exact a|aT R e=>exact a l|f t e=>
  have a:pG I (if aD O=aA/\O<e.length then .f _ _ else .aU) k aH bE bk bB:=a
  split at a
  ·rename_i G
   exact λv bF o p af aw g j h m=>a _ bF af aw (OF (b O G.1) G.2 g j h) m
  exact a.elim
def qA (E:b8 aZ aq):b8 aZ fN:=E.aC λ_ e=>.f .dx e
theorem abQ {E:b8 aZ aq}(b:hW I n k aH x E):hH I (Eh n) k aH x (qA E):=by
 intro bE bk l F Y Q bB c ok a;refine b bE bk l F Y Q _ c ok ?_;cases E with
 |aU=>exact a|aT R e=>exact a l|f t e=>exact λv bF j m af aw d o h g=>a l bF af aw (da.qi d h) g
def BH (E:b8 aZ aq):b8 aZ fN:=E.aC λt e=>.f (.eT t) e
theorem abR {E:b8 aZ aq}(b:hW I n k aH x E):hH I (Ei n) k aH x (BH E):=by
 intro bE bk l F Y Q bB c ok a;refine b bE bk l F Y Q _ c ok ?_;cases E with
 |aU=>exact a|aT R e=>exact a l|f t e=>exact λv bF d g af aw j m h o=>a v l bF d g af aw j m h o
theorem abS:hH I Ej k aH x (.f (.eT .a9) x):=λbE bk l F Y Q bB a b c=>
 c _ l F _ Y Y Q a (⟨λ_=>rfl,rfl⟩) (hG _ λ_=>rfl) b
def pH (x:aZ)(b:pd)(bI bW:b8 aZ fN):b8 aZ fN:=match b with
 |.f R=>if R then bI else bW
 |.aT R=>.aT R x|.aU=>.aU
theorem GS (e:m3 I jq k (hh I x) b)(g:hH I bf k aH x bI)(h:hH I bo k aH x bW):hH I (s8 jq bf bo) k aH x (pH x b bI bW):=by
 intro bE bk l F Y Q bB a ok c;refine e l _ Q _ (rC (a.rp ok.2.1)) ok.rt ?_;cases b with
 |aU=>exact c|aT R=>exact λa4 ay q=>(c l _ _ _ (a.bQ (ok.ej q).2.1) (ok.ej q).1).ej ok q|f R=>
  intro a4 ay q;obtain⟨A,d,j⟩:=ok.ej q;refine⟨λG=>?_,λG=>?_⟩
  ·subst G;exact g bE bk l _ Y ay bB (a.bQ d) A c
  subst G;exact h bE bk l _ Y ay bB (a.bQ d) A c
def nN (b:aZ->bO->b8 aZ fN):List bO->aZ->b8 aZ fN
 |[],e=>.f .dx e|X::j,e=>(b e X).aC λA a=>match A with |.dx=>nN b j a |.gM=>nN b j a |.gU=>.f .dx a |.eT t=>.f (.eT t) a
def jt (aD:md):aZ->bt->bO->Option aZ
 |e,O::is,t::ab=>if aD O=aA/\O<e.length then jt aD (e.set O (D t.bM)) is ab else i
 |e,[],[]=>D e|_,_,_=>i
theorem GU (d:∀O,aD O=aA->aH O=i):∀{is:bt}{ab:bO}{x e:aZ}{l:L2.ck}{a:KA},jt aD x is ab=D e->rr F (xX I is ab) a->da (eV I aH x) l F Y->da (eV I aH e) (rq l a) F Y
 |[],[],x,e,l,a,G,b,c=>by cases G;cases b;exact c
 |O::is,t::ab,x,e,l,a,G,b,c=>by
  unfold jt at G;split at G
  ·rename_i q
   cases b with
   |cons f b=>
    exact GU d   (l:=l.set O (D _)) G b (OF (d O q.1) q.2 c (bC.bM  (λ_=>rfl) f) (hG _ λ_=>rfl))
  cases G
 |[],_::_,_,_,_,_,G,_,_=>by trivial
 |_::_,[],_,_,_,_,G,_,_=>by trivial
theorem OG (f:bL I ab a F hr)(h:cQ hr hE Y)(g:dG bE bk F Y Q):cc I ab a (aK F hr)/\bx F (aK F hr)/\dG bE bk (aK F hr) hE Q:=by
 obtain⟨c,dc,eK,d,k⟩:=g;refine⟨bC.xO.eU mw (ro (xD dc h)) f,mw,⟨c.1.ct mw,λN A e=>?_,c.2.2.1,λN S b=>?_⟩,λN=>?_,h.E.ct eK,λN G=>?_,λN j e=>k N j (h.E _ _ e)⟩
 ·unfold aK at e
  cases G:F N with
  |some p=>rw[G]at e;cases e;exact c.2.1 _ _ G|none=>rw[G]at e;exact eK _ _ (h.s _ _ e)
 ·unfold aK at b
  cases G:F N with
  |some p=>exact c.2.2.2 N S (by rw[G];exact fQ _)|none=>
   rw[G]at b;cases q:hr N with
   |none=>exact absurd q b|some p=>exact d N (by rw[h.s _ _ q];exact fQ _)
 ·unfold aK
  cases G:F N with
  |some p=>
   rcases A6 dc h N with q |q
   ·rw[q]at G;cases G
   ·exact .inr q
  |none=>exact h.f_ N
 ·cases q:hE N with
  |none=>exact absurd q G|some p=>exact d N (by rw[h.E _ _ q];exact fQ _)
noncomputable def qB:jX->Option bO
 |[]=>D []|.t t::a=>(qB a).map λab=>t::ab|.s _::_=>i
theorem OH:∀{b:jX}{ab:bO}{a:bp}{Y:ar},qB b=D ab->pC I l F Q b a Y->bL I ab a F Y
 |[],_,_,_,e,E=>by cases e;exact E
 |.t t::b,_,_,_,e,c=>by
  obtain⟨v,d,af,ai,aR,h,A,E⟩:=c;unfold qB at e;obtain⟨ab,aB,rfl⟩:=iR.mp e;exact⟨v,d,af,ai,aR,h,A,OH aB E⟩
 |.s _::_,_,_,_,e,_=>by trivial
def BI (aD:md)(d4:iZ)(g:kl)(E:b8 aZ jX)(body:nh):b8 aZ fN:=E.aC λa e=>match qB a with
 |some ab=>(match d4.w ab with
  |.f b=>(match ij g b with
   |some j=>nN (λe X=>match jt aD e g.is X with |some c=>body c |none=>.aU) j e|none=>.aU)
  |_=>.aU)
 |none=>.aU
theorem abT {g:kl}{E:b8 aZ jX}(T:∀O,aD O=aA->aH O=i)(U:rL I bG k aH x E)(V:∀e,hH I z k aH e (body e)):hH I (Eo (d4.n I bG) (qq I g) z) k aH x (BI aD d4 g E body):=by
 intro bE bk l F Y Q bB c ok b;refine U bE bk l F Y Q _ c ok ?_;cases E with
 |aU=>exact b|aT R e=>exact λF Y Q c ok=>b l F Y Q c ok|f K e=>
  intro a bF W Z af aw aa ac h ae _
  have b:pG I (match qB K with
   |some ab=>(match d4.w ab with
    |.f w=>(match ij g w with
     |some j=>nN (λe X=>match jt aD e g.is X with |some d=>body d |none=>.aU) j e|none=>.aU)
    |_=>.aU)
   |none=>.aU) k aH bE bk bB:=b
  cases aR:qB K with
  |none=>rw[aR]at b;exact b.elim|some ab=>
   rw[aR]at b;dsimp only at b;obtain⟨ah,aj,L⟩:=OG (OH aR ac) h ae;cases aB:d4.w ab with
   |aU=>rw[aB]at b;exact b.elim|aT R=>rw[aB]at b;exact b.elim|f w=>
    rw[aB]at b;dsimp only at b;cases B:ij g w with
    |none=>rw[B]at b;exact b.elim|some j=>
     rw[B]at b;dsimp only at b;refine N8 (k:=k) d4 ab a l (aK bF W) aw _ L.1.2.1 ah ?_;rw[aB];intro av a7 x2 aG M;have N:=L.e9 x2;obtain⟨s,ak⟩:=Gm B;have o:f9 bE bk av a7:=N.1
     refine⟨λy m l Q=>m=j.length-y/\y<=j.length/\∃e F Y,da (eV I aH e) l F Y/\dG av bk F Y Q/\pG I (nN (λe X=>match jt aD e g.is X with |some d=>body d |none=>.aU) (j.drop y) e) k aH bE bk bB,
      ⟨_,rfl,mc _,e,av,Z,aa.bQ (aj.ct x2.1),N.X6 o (bx.fu _),b⟩,?_⟩
     rintro y m l Q ⟨rfl,aI,e,F,Y,c,ok,b⟩;have bf:bx av Q:=ok.1.1.ct ok.1.2.1;by_cases u:y<j.length
     ·right
      obtain⟨t,al,mn⟩:=ak y j[y] (gx u);obtain⟨am,an⟩:=M.eU y Q t bf al;refine⟨am,λn ay=>y+1<=j.length/\∃e F Y,da (eV I aH e) n F Y/\dG av bk F Y ay/\pG I (nN (λe X=>match jt aD e g.is X with |some d=>body d |none=>.aU) (j.drop (y+1)) e) k aH bE bk bB,λn ay G=>⟨j.length-(y+1),by lia,rfl,G⟩,λv C ao=>?_⟩
      obtain⟨P,x3,ap⟩:=an v C ao F ok.1.1 ok.1.2.1;refine ND g j[y] v l P C _ x3.2.1 (NF mn ap) λa ar=>?_
      rw[se u]at b;unfold nN at b;cases ax:jt aD e g.is j[y]with
      |none=>rw[ax]at b;exact b.elim|some d=>
       rw[ax]at b;refine V d av bk _ P Y C _ (GU T ax ar (c.bQ x3.1)) (ok.e9 x3) ?_;dsimp only[b8.aC]at b;cases J:body d with
       |aU=>rw[J]at b;exact b|aT R aB=>rw[J]at b;exact λl F Y Q c ok=>b l F Y Q c (ok.AR o)|f A aB=>
        rw[J]at b;cases A with
        |dx=>exact λn a4 aF ay p q=>⟨u,aB,a4,aF,p,q,b⟩|gM=>exact λn a4 aF ay p q=>⟨u,aB,a4,aF,p,q,b⟩|gU=>exact λn a4 aF ay p q=>b n a4 aF ay p (q.AR o)|eT S=>exact λv l F as ai Y Q au az aC ok=>b v l F as ai Y Q au az aC (ok.AR o)
     ·left
      have aE:y=j.length:=by lia
      subst aE;rw[wB]at b;exact⟨by rw[s];exact M.p8 Q bf,b l F Y Q c (ok.AR o)⟩
set_option genSizeOf false
set_option genSizeOfSpec false
set_option bootstrap.genMatcherCode false
noncomputable section
open Classical
def BJ (E:b8 aZ fN):b8 aZ fN:=match E with |.aT _ _=>.aU |E=>E
end
def nO (R:aZ->pd)(body:nh):Nat->aZ->b8 aZ fN
 |0,_=>.aU|y+1,e=>pH e (R e) ((body e).aC λA a=>match A with |.dx=>nO R body y a |.gM=>nO R body y a |.gU=>.f .dx a |.eT t=>.f (.eT t) a) (.f .dx e)
theorem abU (y:Nat){R:aZ->pd}(p:∀e,m3 I jq k (hh I e) (R e))(s:∀e,hH I z k aH e (body e)):hH I (El jq z) k aH x (nO R body y x):=by
 intro bE bk l F Y Q bB c ok a;refine⟨λm l Q=>∃e F Y,da (eV I aH e) l F Y/\dG bE bk F Y Q/\pG I (nO R body m e) k aH bE bk bB,⟨y,x,F,Y,c,ok,a⟩,?_⟩
 rintro m l Q ⟨e,F,Y,c,ok,a⟩;cases m with
 |zero=>exact a.elim|succ m=>
  unfold nO at a;refine p e l _ Q _ (rC (c.rp ok.2.1)) ok.rt ?_;cases ec:R e with
  |aU=>rwa[ec]at a|aT X=>rw[ec]at a;exact λa4 ay q=>(a l _ _ _ (c.bQ (ok.ej q).2.1) (ok.ej q).1).ej ok q|f b=>
   rw[ec]at a;intro a4 ay q;obtain⟨A,n,w⟩:=ok.ej q;cases b with
   |false=>exact a l _ Y ay (c.bQ n) A|true=>
    refine⟨λh o=>∃e F Y,da _ h F Y/\dG bE bk F Y o/\pG I _ k aH bE bk bB,λh o G=>⟨m,wI _,G⟩,?_⟩
    refine s e bE bk l _ Y ay _ (c.bQ n) A ?_;have d:pG I ((body e).aC λA g=>match A with |.dx=>nO R body m g |.gM=>nO R body m g |.gU=>.f _ g |.eT t=>.f _ g) k aH bE bk bB:=a
    cases j:body e with
    |aU=>rwa[j]at d|aT X aB=>rwa[j]at d|f A aB=>
     rw[j]at d;cases A with
     |gU=>exact d|eT S=>exact d |_=>exact λh a4 aF ay u v=>⟨aB,a4,aF,u,v,d⟩
theorem BK:∀{b:jX}{a:bp}{Y:ar},pC I l F Q b a Y->a.length=b.length
 |[],_,_,E=>by rw[E.1];rfl
 |.t t::b,_,_,E=>by obtain⟨v,c,af,ai,e,h,A,E⟩:=E;rw[e,ew,ew,BK E]
 |.s V::b,_,_,E=>by obtain⟨u,v,c,e,aR,w,E⟩:=E;rw[e,ew,ew,BK E]
end
section
variable {I:jv}{k:cg}{F a4 bE bF av bk Y af ai bw C Q ay aw a7:ar}{t R:aq}{ab:bO}{v u:aS}{ae a:bp}{N:ba}{o:cm}{x:aZ}{n:b1}{aH:iX}{l:L2.ck}{ak:fG}{V:jV}{w:bY}{z:gf}{O:Nat}
theorem bL.snoc:∀{ab:bO}{ae:bp}{af Y:ar},bL I ab ae F af->bC I t v F ai->cQ af ai Y->bL I (ab++[t]) (ae++[v]) F Y
 |[],_,af,Y,V,A,h=>by
  rw[V.1];have:Y=ai:=by rw[i0 h];funext N;unfold aK;rw[V.2 N]
  subst this;exact⟨v,[],Y,λ_=>i,rfl,hi _ λ_=>rfl,A,⟨rfl,λ_=>rfl⟩⟩
 |e::ax,_,af,Y,V,A,h=>by
  obtain⟨p,aH,a,f,rfl,b,S,E⟩:=V;obtain⟨m,c,d⟩:=ja b h;exact⟨p,aH++[v],a,m,rfl,d,S,bL.snoc E A c⟩
theorem bL.vA:∀{ab ax:bO}{ae aH:bp}{af ai Y:ar},bL I ab ae F af->bL I ax aH F ai->cQ af ai Y->bL I (ab++ax) (ae++aH) F Y
 |[],ax,_,aH,af,ai,Y,V,A,h=>by
  rw[V.1];have:Y=ai:=by rw[i0 h];funext N;unfold aK;rw[V.2 N]
  subst this;exact A
 |e::ab,ax,_,aH,af,ai,Y,V,A,h=>by
  obtain⟨p,a,b,g,rfl,c,S,E⟩:=V;obtain⟨m,d,f⟩:=ja c h;exact⟨p,a++aH,b,m,rfl,f,S,bL.vA E A d⟩
theorem BL {x y C:ar}(f:bx F Q)(g:c4 F Y)(h:bx Y Q)(k:∀N j,Y N≠D (.bb j))(d:cQ (cW N A) C Y)(l:∀j,b3≠.bb j)(m:cQ c ai (aK (cW N b3) C))
  (n:bC I t v F c) (p:bL I dJ a F ai) (q:∀v a4 aF ay c ai,dG F (gm Q Y) a4 aF ay->cQ c ai aF->bC I t v a4 c->bL I dJ a a4 ai->o v ay):o v (cq Q N b3):=by
 have s:=vv f g h k;have u:Y N≠i:=by rw[d.s _ _ jQ];exact fQ _
 have w:=Fn (l:=Y) (m:=Y) (aF:=Y) s u l (aK (cW N b3) C) λV=>by
  unfold aK;rw[kk];by_cases e:V=N
  ·rw[if_pos e,if_pos e]
  ·rw[if_neg e,if_neg e]
   rcases d V with⟨_,b⟩|⟨S,b⟩
   ·exact b.symm
   ·rw[S,b,kk,if_neg e]
 exact q v F _ _ c ai w m n p
def tS (I:cO)(E:aS->bp->ar->cm->Prop)(w:bY):Prop:=∀X j Q o k,f3 I w (X::j) Q o k->E X j Q o
def qC:bY:=λab=>match ab with
 |[.az .aM j,t]=>if j.length<cA then .f .a9 [.az .aM (j++[t]),.e4]else .aU
 |_=>.aU
theorem tT (b:bL I ab a F Y):∀N j,Y N≠D (.bb j):=bC.mv.eU b
theorem qD {Y:ar}(a:∀N,Y N=i):bC I .a9 .a9 F Y:=by trivial
theorem abV:tS I EF qC:=by
 rintro X j Q o k ⟨F,Y,ab,h,l,d,a,b⟩;have m:=tT a;unfold qC at b;split at b
 ·rename_i aV t
  split at b
  ·rename_i n
   unfold bL at a;obtain⟨p,aH,K,s,aR,u,f,a⟩:=a;cases aR;unfold bL at a;obtain⟨q,L,e3,d_,aB,v,dc,a⟩:=a;cases aB;unfold bL at a;obtain⟨rfl,w⟩:=a;unfold bC at f;obtain⟨N,ae,x,M,rfl,b7,y,g⟩:=f;have z:x=cW N (.aM ae):=b7;subst z;have B:s=e3:=by rw[i0 v];funext V;unfold aK;cases G:e3 V with |none=>exact w V |some A=>rfl
   subst B;obtain⟨S,C,c⟩:=ja y u;have E:Q N=D (.aM ae):=d _ _ (c.s _ _ jQ);refine⟨N,ae,q,rfl,rfl,E,by rw[<- bL.cn g];exact n,?_⟩
   have J:c4 (cW N (.aM (ae++[q]))) S:=λV=>by
    rw[kk];split
    ·rename_i e;subst e;right;exact(by rcases c.f_ V with G |G;rw[jQ]at G;cases G;exact G)
    ·exact .inl rfl
   refine BL (a:=[.a0 N,q]) (dJ:=[.az .aM (aV++[t]),.e4]) (c:=λ_=>i) (ai:=aK (cW N (.aM (ae++[q]))) S) (x:=Y) (y:=Y) h l d m c (λj G=>by cases G) (hG _ λ_=>rfl) (qD λ_=>rfl) ?_ b
   unfold bL;refine⟨.a0 N,[q],_,λ_=>i,rfl,hi _ λ_=>rfl,?_,?_⟩
   ·unfold bC
    exact⟨N,ae++[q],_,S,rfl,rfl,fZ J,bL.snoc g dc C⟩
   ·unfold bL
    exact⟨q,[],λ_=>i,λ_=>i,rfl,hi _ λ_=>rfl,ox λ_=>rfl,by unfold bL;exact⟨rfl,λ_=>rfl⟩⟩
  ·exact b.elim
 ·exact b.elim
theorem GV {C:iF} {X:aS}(a:bL I (.az C aV::args) (X::j) F Y):∃N ae b c d S,X=.a0 N/\m6 I C N ae F b/\cQ b S Y/\cQ c d S/\bL I aV ae F c/\bL I args j F d:=by
 unfold bL at a;obtain⟨p,aH,n,f,aR,g,e,a⟩:=a;cases aR;unfold bC at e;obtain⟨N,ae,b,c,rfl,b7,h,k⟩:=e;obtain⟨S,l,m⟩:=ja h g;exact⟨N,ae,b,c,f,S,rfl,b7,m,l,k,a⟩
theorem rM (a:cQ (cW N A) S Y):c4 (cW N b3) S:=λV=>by
 rw[kk];split
 ·rename_i e;subst e;right;rcases a.f_ V with G |G
  ·rw[jQ]at G;cases G
  exact G
 exact .inl rfl
theorem GW (c:c4 (cW N (.aM γ)) S)(a:cQ δ b S)(e:bL I b_ γ F δ)(f:bL I cT j F b):bL I (.az .aM b_::cT) (.a0 N::j) F (aK (cW N (.aM γ)) S):=by
 have d:c4 (cW N (.aM γ)) δ:=λV=>by rcases c V with G |G;exact .inl G;exact .inr (a.s.cz G)
 have g:c4 (cW N (.aM γ)) b:=λV=>by rcases c V with G |G;exact .inl G;exact .inr (a.E.cz G)
 unfold bL;refine⟨.a0 N,j,aK (cW N (.aM γ)) δ,b,rfl,?_,?_,f⟩
 ·have:=BE d g a.f_
  rw[<- i0 a]at this;exact this
 ·unfold bC
  exact⟨N,γ,_,δ,rfl,rfl,fZ d,e⟩
theorem abW:bL I [.e4] [q] F (λ_=>i):=⟨q,[],λ_=>i,λ_=>i,rfl,hi _ λ_=>rfl,ox λ_=>rfl,⟨rfl,λ_=>rfl⟩⟩
theorem OI:∀{ab:bO}{ae:bp},ab.length=ae.length->bL I (ab.map λ_=>.e4) ae F (λ_=>i)
 |[],[],_=>⟨rfl,λ_=>rfl⟩|t::ab,u::ae,s=>⟨u,ae,λ_=>i,λ_=>i,rfl,hi _ λ_=>rfl,ox λ_=>rfl,OI (by simpa using s)⟩|[],_::_,s=>by simp at s
 |_::_,[],s=>by simp at s
theorem yi:bL I [] [] F (λ_=>i):=⟨rfl,λ_=>rfl⟩
theorem yj (af:bL I [t] [q] F Y):bC I t q F Y:=by
 obtain⟨v,a,b,c,e,h,A,E⟩:=af;cases e;have:Y=b:=by rw[i0 h];funext V;unfold aK;cases G:b V with |none=>exact E.2 V |some A=>rfl
 rwa[this]
theorem GX (af:bL I [t] j F Y):∃q,j=[q]:=qW.mp (bL.cn af).symm
theorem OJ {s:bp}(Y:s.length=2):∃S b,s=[S,b]:=by
 obtain⟨S,n,rfl⟩:=kz Y;obtain⟨b,rfl⟩:=qW.mp (fP Y);exact⟨S,b,rfl⟩
theorem OK {s:bp}(Y:s.length=3):∃S b R,s=[S,b,R]:=by
 obtain⟨S,n,rfl⟩:=kz Y;obtain⟨b,R,rfl⟩:=OJ (fP Y);exact⟨S,b,R,rfl⟩
def tU:bY:=λab=>match ab with
 |[.az .aM j,.az .aM aV]=>if j.length+aV.length<=cA then .f .a9 [.az .aM (j++aV),.az .aM (aV.map λ_=>.e4)]else .aU
 |[.az .aM j,.aL t]=>(match t.aK with |.az .aM aV=>if j.length+aV.length<=cA then .f .a9 [.az .aM (j++aV.map .bM),.e4]else .aU |_=>.aU)|_=>.aU
theorem abX {F Q:ar}(b:Gi I (tU ab) k F Q a o):(∃aV c,ab=[.az .aM aV,.az .aM c])\/∃aV t,ab=[.az .aM aV,.aL t]:=by
 cases ab with
 |nil=>exact b.elim|cons R ab=>cases R with
  |az C aV=>cases C with
   |aM=>cases ab with
    |nil=>exact b.elim|cons t ab=>cases t with
     |az C c=>cases C with
      |aM=>cases ab with
       |nil=>exact .inl ⟨_,_,rfl⟩|cons=>exact b.elim
      |_=>exact b.elim
     |aL t=>cases ab with
      |nil=>exact .inr ⟨_,_,rfl⟩|cons=>exact b.elim
     |_=>exact b.elim
   |_=>exact b.elim
  |_=>exact b.elim
theorem abY:tS I EH tU:=by
 rintro X j Q o k ⟨F,Y,ab,p,C,d,s,a⟩;have J:=tT s;rcases abX a with⟨aV,l,rfl⟩|⟨aV,t,rfl⟩<;>unfold tU at a<;>dsimp only at a
 ·
  split at a
  ·rename_i u
   obtain⟨N,ae,v,w,L,S,rfl,b7,c,n,f,g⟩:=GV s;have x:v=cW N (.aM ae):=b7;subst x;obtain⟨q,rfl⟩:=GX g;have dc:=yj g;unfold bC at dc;obtain⟨dI,b,ai,af,rfl,M,K,z⟩:=dc;have aB:ai=cW dI (.aM b):=M;subst aB;have B:Q N=D (.aM ae):=d _ _ (c.s _ _ jQ);have O:Q dI=D (.aM b):=d _ _ (c.E _ _ (n.E _ _ (K.s _ _ jQ)));refine⟨N,dI,ae,b,rfl,rfl,B,O,by rw[<- bL.cn f,<- bL.cn z];exact u,?_⟩
   obtain⟨m,P,R⟩:=ja (jA K) (jA n);obtain⟨T,U,W⟩:=ja P (jA R);have Z:=bL.vA f z U;have aa:cQ T (cW dI (.aM b)) S:=jA W;refine BL (a:=[.a0 N,.a0 dI]) (dJ:=[.az .aM (aV++l),.az .aM (l.map λ_=>.e4)]) (c:=λ_=>i) (ai:=aK (cW N (.aM (ae++b))) S) (x:=Y) (y:=Y) p C d J c (λj G=>by cases G) (hG _ λ_=>rfl) (qD λ_=>rfl) (GW (rM c) aa Z ?_) a
   unfold bL;refine⟨.a0 dI,[],_,λ_=>i,rfl,hi _ λ_=>rfl,?_,yi⟩
   unfold bC;exact⟨dI,b,_,λ_=>i,rfl,rfl,hi _ λ_=>rfl,OI (bL.cn z)⟩
  ·exact a.elim
 ·
  split at a
  ·rename_i l e
   split at a
   ·rename_i u
    obtain⟨N,ae,v,w,L,S,rfl,b7,c,n,f,g⟩:=GV s;have x:v=cW N (.aM ae):=b7;subst x;obtain⟨q,rfl⟩:=GX g;have dc:=yj g;unfold bC at dc;obtain⟨d_,bW⟩:=dc;have bW:=bD.aK bW;rw[show(aq.aL t).aK=t.aK from by rw[aq.aK],e]at bW
    obtain⟨dI,b,rfl,y,E⟩:=bW.az;have B:Q N=D (.aM ae):=d _ _ (c.s _ _ jQ);refine⟨N,dI,ae,b,rfl,rfl,B,p _ _ y,by rw[<- bL.cn f,<- E.cn];exact u,?_⟩
    have ac:S=w:=by rw[i0 n];funext V;unfold aK;cases G:w V with |none=>exact d_ V |some A=>rfl
    subst ac;exact BL (a:=[.a0 N,.a0 dI]) (dJ:=[.az .aM (aV++l.map aq.bM),.e4]) (c:=λ_=>i) (ai:=aK (cW N (.aM (ae++b))) S) (x:=Y) (y:=Y) p C d J c (λj G=>by cases G) (hG _ λ_=>rfl) (qD λ_=>rfl) (GW (rM c) (hi _ λ_=>rfl) (bL.vA f (bL.bM (Y:=λ_=>i) (λ_=>rfl) E) (hi _ λ_=>rfl)) abW) a
   ·exact a.elim
  ·exact a.elim
theorem bL.erase:∀{ab:bO}{ae:bp}{Y:ar}{O:Nat}{R:aq},bL I ab ae F Y->ab[O]?=D R->∃u af ai,ae[O]?=D u/\cQ af ai Y/\bC I R u F af/\bL I (ab.eraseIdx O) (ae.eraseIdx O) F ai
 |[],_,_,_,_,_,e=>by simp at e
 |t::ab,_,Y,0,R,V,e=>by
  obtain⟨v,a,af,ai,rfl,h,S,E⟩:=V;simp at e;subst e;exact⟨v,af,ai,rfl,h,S,E⟩
 |t::ab,_,Y,O+1,R,V,e=>by
  obtain⟨v,a,af,ai,rfl,h,S,E⟩:=V;obtain⟨u,b,c,aR,d,f,w⟩:=bL.erase E (by simpa using e)
  obtain⟨m,g,j⟩:=ja d (jA h);refine⟨u,b,m,by simpa using aR,j,f,?_⟩
  rw[List.eraseIdx_cons_succ];exact⟨v,a.eraseIdx O,af,c,rfl,jA g,S,w⟩
def BM:bY:=λab=>match ab with
 |[.az .aM j,.c O]=>if -(2 ^ 63)<=O/\O<2 ^ 63 then(match ic j.length O with |some h=>(match j[h]? with |some t=>.f t [.az .aM (j.eraseIdx h),.c O]|none=>.aU)|none=>.aU)else .aU
 |_=>.aU
theorem abZ:tS I EI BM:=by
 rintro X j Q o k ⟨F,Y,ab,x,y,l,m,a⟩;have z:=tT m;unfold BM at a;split at a
 ·rename_i aV O
  split at a
  ·rename_i aE
   obtain⟨N,ae,B,n,U,S,rfl,b7,b,C,s,u⟩:=GV m;have E:B=cW N (.aM ae):=b7;subst E;obtain⟨q,rfl⟩:=GX u;have dc:=yj u;unfold bC at dc;obtain⟨d_,bW⟩:=dc;cases bW.c;cases e:ic aV.length O with
   |none=>rw[e]at a;exact a.elim|some h=>
    rw[e]at a;dsimp only at a;cases f:aV[h]? with
    |none=>rw[f]at a;exact a.elim|some t=>
     rw[f]at a;dsimp only at a;obtain⟨p,g,w,J,c,K,L⟩:=bL.erase s f;have M:S=n:=by rw[i0 C];funext V;unfold aK;cases G:n V with |none=>exact d_ V |some A=>rfl
     subst M;have P:=bL.cn s;refine⟨N,ae,O,h,p,rfl,rfl,l _ _ (b.s _ _ jQ),aE.1,aE.2,by rw[<- P];exact(Ag e).1,J,?_⟩
     have R:c4 (cW N (.aM (ae.eraseIdx h))) g:=λV=>by rcases rM (b3:=.aM (ae.eraseIdx h)) b V with G |G;exact .inl G;exact .inr (c.s.cz G)
     have T:c4 (cW N (.aM (ae.eraseIdx h))) w:=λV=>by rcases rM (b3:=.aM (ae.eraseIdx h)) b V with G |G;exact .inl G;exact .inr (c.E.cz G)
     refine BL (a:=[.a0 N,.c O]) (dJ:=[.az .aM (aV.eraseIdx h),.c O]) (t:=t) (v:=p) (c:=g) (ai:=aK (cW N (.aM (ae.eraseIdx h))) w) (x:=Y) (y:=Y) x y l z b (λj G=>by cases G) ?_ K (GW T (hi _ λ_=>rfl) L ?_) a
     ·rw[i0 c]
      intro V;unfold aK;cases x1:cW N (.aM (ae.eraseIdx h)) V with
      |some A=>
       left;rcases R V with G |G
       ·rw[G]at x1;cases x1
       ·exact⟨G,rfl⟩
      |none=>
       cases x2:g V with
       |some A=>
        right;rcases c.f_ V with G |G
        ·rw[G]at x2;cases x2
        ·exact⟨G,rfl⟩
       |none=>left;exact⟨rfl,rfl⟩
     ·unfold bL
      exact⟨.c O,[],λ_=>i,λ_=>i,rfl,hi _ λ_=>rfl,by unfold bC;exact⟨λ_=>rfl,by unfold bD;rfl⟩,yi⟩
  ·exact a.elim
 ·exact a.elim
theorem GY {X q:aS}(a:bL I (b::d0::args) (X::q::j) F Y):∃af ai bw S,cQ af S Y/\cQ ai bw S/\bC I b X F af/\bC I d0 q F ai/\bL I args j F bw:=by
 obtain⟨p,aH,c,d,aR,e,f,a⟩:=a;cases aR;obtain⟨h,k,e3,d_,aB,g,dc,a⟩:=a;cases aB;exact⟨c,e3,d_,d,e,g,f,dc,a⟩
def ab0:uX:=λA O v Q o=>td A O Q λS bl C=>bl.length<cA/\o (cq Q S (.eN (jP bl C v)))
def yk:uX:=λA O v Q o=>LW A O v Q o\/ab0 A O v Q o
theorem ab1 {H:bU}(k:H.r.units+60<cLine):z2 H yk:=by
 intro aj z l Q A O v e f u o a b c d Y;rcases Y with Y |Y
 ·exact Xd aj z l Q A O v e f u o a b c d Y
 ·obtain⟨S,bl,C,rfl,rfl,g,h,V⟩:=Mf Y
  cases b;exact XE (by lia) a (AL.C g h) c d λm j=>⟨_,j,V⟩
def nP:bY:=λab=>match ab with
 |[v,.az .aM j,.c O]=>(match ic j.length O with |some h=>.f .a9 [.e4,.az .aM (j.set h v),.c O]|none=>.aU)|[v,.az (.gP a) j,C]=>(match nI C with
  |some b=>if g0 a b<a.length/\j.length<cA then .f .a9 [.e4,.az (.gP a) (j.set (g0 a b) v),C]else if j.length<cA/\¬g0 a b<a.length then .f .a9 [.e4,.az (.gP (a++[b])) (j++[v]),C]else .aU
  |none=>.aU)
 |_=>.aU
theorem BN {C m:ar}(f:bx F Q)(g:c4 F Y)(h:bx Y Q)(k:∀N j,Y N≠D (.bb j))(d:cQ (cW N A) C Y)(l:∀j,b3≠.bb j)(n:bx m (aK (cW N b3) C))(p:cQ c ai m)
  (q:bC I t v F c) (s:bL I dJ a F ai) (u:∀v a4 aF ay c ai,dG F (gm Q Y) a4 aF ay->cQ c ai aF->bC I t v a4 c->bL I dJ a a4 ai->o v ay):o v (cq Q N b3):=by
 exact u v F _ _ c ai (xE (Fn (l:=Y) (m:=Y) (aF:=Y) (vv f g h k) (by rw[d.s _ _ jQ];exact fQ _) l _ λV=>by
  unfold aK;rw[kk];by_cases e:V=N
  ·rw[if_pos e,if_pos e]
  ·rw[if_neg e,if_neg e]
   rcases d V with⟨_,b⟩|⟨S,b⟩
   ·exact b.symm
   rw[S,b,kk,if_neg e]) n) p q s
theorem BO:∀{a:kD}{C:ey},g0 a C<a.length↔C∈a
 |[],C=>by simp[g0]
 |b::a,C=>by
  unfold g0;by_cases e:b=C
  ·subst e;simp
  ·rw[if_neg e,ew,Nat.succ_lt_succ_iff,BO,dn]
   exact⟨.inr,λG=>by rcases G with G |G;exact absurd G.symm e;exact G⟩
theorem ab2:∀{c:kD}{ae:bp}{C:ey}{v:aS},C∈c->c.Nodup->c.length=ae.length->jP (c.zip ae) C v=c.zip (ae.set (g0 c C) v):=λ{c ae C v} d j g=>by
 have h:((c.zip ae).any λk=>decide (k.1=C))=ag:=by
  rw[zl];obtain⟨O,aE,e⟩:=Dz d;exact⟨(c[O],ae[O]'(by lia)),qX (i:=O) (by rw[Jl];exact⟨by rw[gx aE],by rw[gx]⟩),by simpa using e⟩
 unfold jP;rw[if_pos h];clear h;induction c generalizing ae with
 |nil=>simp at d|cons f c l=>
  cases ae with
  |nil=>simp at g|cons u ae=>
   obtain⟨e3,d_⟩:=q2.mp j;rw[kB,eW];unfold g0;by_cases e:f=C
   ·subst e
    rw[if_pos rfl,if_pos rfl,wA,kB];congr 1;have:∀V∈c.zip ae,(if V.1=f then(V.1,v)else V)=V:=λV m=>by
     have af:=(sj (a:=V.1) (b:=V.2) m).1;rw[if_neg (show¬V.1=f from λG=>e3 (G ▸ af))]
    exact(sf this).trans (wG _)
   ·rw[if_neg e,if_neg e,zj,kB]
    congr 1;exact l (by rcases dn.mp d with G |G;exact absurd G.symm e;exact G) d_ (by simpa using g)
theorem OL {C:ey}(a:C∉ks)(b:ks.length=ae.length):jP (ks.zip ae) C v=(ks++[C]).zip (ae++[v]):=by
 have c:¬((ks.zip ae).any λd=>decide (d.1=C))=ag:=by
  rw[zl];rintro⟨V,f,e⟩;exact a (by have:=(sj f).1;simp_all)
 unfold jP;rw[if_neg c,List.zip_append b];rfl
theorem rN {C:iF}(A:bC I (.az C aV) v F Y):∃N ae a b,v=.a0 N/\m6 I C N ae F a/\cQ a b Y/\bL I aV ae F b:=by unfold bC at A;exact A
theorem BP {S b R:aq}{X q G:aS}(a:bC I S X F af)(dc:bC I b q F ai)(eK:bC I R G F bw)(c:cQ ai bw m)(d:cQ af m Y):bL I [S,b,R] [X,q,G] F Y:=⟨X,[q,G],af,m,rfl,d,a,⟨q,[G],ai,bw,rfl,c,dc,⟨G,[],bw,λ_=>i,rfl,hi _ λ_=>rfl,eK,yi⟩⟩⟩
theorem ab3 {X A O:aS}(aC:f3 I nP [X,A,O] Q (λv ay=>v=.a9->QQ ay) k):yk A O X Q QQ:=by
 obtain⟨F,Y,ab,R,T,x,U,a⟩:=aC;have W:=tT U;unfold nP at a;split at a
 ·rename_i Z aV as
  obtain⟨af,ai,bw,S,aa,ac,J,ah,l⟩:=GY U;have l:=yj l;unfold bC at l;obtain⟨y,aj⟩:=l;cases aj.c;obtain⟨N,ae,au,ak,rfl,b7,al,q⟩:=rN ah;have am:au=cW N (.aM ae):=b7;subst am;have an:S=ai:=by rw[i0 ac];funext V;unfold aK;cases G:ai V with |none=>exact y V |some A=>rfl
  subst an;cases K:ic aV.length as with
  |none=>rw[K]at a;exact a.elim|some h=>
   rw[K]at a;dsimp only at a;have aD:=(Ag K).2.1;obtain⟨u,aE,f,aF,z,aG,g⟩:=bL.focus q (gx aD);obtain⟨m,s,n⟩:=ja al (jA aa);have ao:c4 af ak:=λV=>(s.f_ V).symm
   have ap:c4 af f:=λV=>by rcases ao V with G |G;exact .inl G;exact .inr (z.E.cz G)
   have on:=g Z F X af (aK af f) (bx.fu _) J (fZ ap);have L:Q N=D (.aM ae):=x _ _ (n.s _ _ jQ);have B:bx (aK af f) m:=λV A e=>by
    unfold aK at e;cases G:af V with
    |some p=>rw[G]at e;cases e;exact s.E _ _ G|none=>rw[G]at e;exact s.s _ _ (z.E _ _ e)
   have E:c4 (cW N (.aM (ae.set h X))) (aK af f):=λV=>by
    rcases rM (b3:=.aM (ae.set h X)) n V with G |G
    ·exact .inl G
    ·exact .inr (B.cz G)
   refine .inl ⟨ae,L,?_⟩;rw[<- bL.cn q,K];refine BN (a:=[X,.a0 N,.c as]) (m:=aK (cW N (.aM (ae.set h X))) (aK af f)) (t:=.a9) (v:=.a9) (o:=λv ay=>v=.a9->QQ ay) (c:=λ_=>i) R T x W n (λj G=>by cases G) (λV A e=>?_) (hG _ λ_=>rfl) (qD λ_=>rfl) (BP (ox λ_=>rfl) ?_ (by unfold bC;exact⟨λ_=>rfl,by unfold bD;rfl⟩) (hi _ λ_=>rfl) (hG _ λ_=>rfl)) a rfl
   ·unfold aK at e ⊢
    cases G:cW N (.aM (ae.set h X)) V with
    |some p=>rw[G]at e;exact e|none=>rw[G]at e;exact B _ _ e
   ·unfold bC
    exact⟨N,ae.set h X,_,aK af f,rfl,rfl,fZ E,on⟩
 ·rename_i Z c aV av
  obtain⟨af,ai,bw,S,aa,ac,J,ah,l⟩:=GY U;have l:=yj l;obtain⟨N,ae,au,ak,rfl,b7,al,q⟩:=rN ah;obtain⟨am,w,az⟩:=b7;subst am;cases M:nI av with
  |none=>rw[M]at a;exact a.elim|some o=>
   rw[M]at a;dsimp only at a;have aH:(∀V,bw V=i)/\bD I av O F:=by
    have:∀{t:aq}{C:ey},nI t=D C->t.e9=ag:=λ{t}=>by
     cases t with
     |az=>intro C e;cases e
     |_=>intro C e;rfl
    exact bC.e9 (this M) l
   obtain⟨y,aj⟩:=aH;have aw:=xR M aj;have an:S=ai:=by rw[i0 ac];funext V;unfold aK;cases G:ai V with |none=>exact y V |some A=>rfl
   subst an;obtain⟨m,s,n⟩:=ja al (jA aa);have L:Q N=D (.eN (c.zip ae)):=x _ _ (n.s _ _ jQ);have ao:c4 af ak:=λV=>(s.f_ V).symm
   split at a
   ·rename_i aI
    obtain⟨P,ar⟩:=aI;have aJ:g0 c o<aV.length:=by rw[bL.cn q,<- w];exact P
    obtain⟨u,aE,f,aF,z,aG,g⟩:=bL.focus q (gx aJ);have ap:c4 af f:=λV=>by rcases ao V with G |G;exact .inl G;exact .inr (z.E.cz G)
    have on:=g Z F X af (aK af f) (bx.fu _) J (fZ ap);have B:bx (aK af f) m:=λV A e=>by
     unfold aK at e;cases G:af V with
     |some p=>rw[G]at e;cases e;exact s.E _ _ G|none=>rw[G]at e;exact s.s _ _ (z.E _ _ e)
    have E:c4 (cW N (.eN (c.zip (ae.set (g0 c o) X)))) (aK af f):=λV=>by
     rcases rM (b3:=.eN (c.zip (ae.set (g0 c o) X))) n V with G |G
     ·exact .inl G
     ·exact .inr (B.cz G)
    refine .inr (Bj rfl aw.1 L ⟨?_,?_⟩)
    ·rw[q1,w,sv,<- bL.cn q];exact ar
    ·rw[ab2 (BO.mp P) az w]
     refine BN (a:=[X,.a0 N,O]) (m:=aK (cW N (.eN (c.zip (ae.set (g0 c o) X)))) (aK af f)) (t:=.a9) (v:=.a9) (o:=λv ay=>v=.a9->QQ ay) (c:=λ_=>i) R T x W n (λj G=>by cases G) (λV A e=>?_) (hG _ λ_=>rfl) (qD λ_=>rfl) (BP (ox λ_=>rfl) ?_ l (λV=>.inr ⟨y V,rfl⟩) (hG _ λ_=>rfl)) a rfl
     ·unfold aK at e ⊢
      cases G:cW N (.eN (c.zip (ae.set (g0 c o) X))) V with
      |some p=>rw[G]at e;exact e|none=>rw[G]at e;exact B _ _ e
     ·unfold bC
      exact⟨N,ae.set (g0 c o) X,_,aK af f,rfl,⟨rfl,by rw[wy];exact w,az⟩,fZ E,on⟩
   ·split at a
    ·rename_i ar
     obtain⟨aL,P⟩:=ar;have ax:o∉c:=λG=>P (BO.mpr G)
     refine .inr (Bj rfl aw.1 L ⟨by rw[q1,w,sv,<- bL.cn q];exact aL,?_⟩)
     rw[OL ax w];have on:=bL.snoc q J s;have E:=rM (b3:=.eN ((c++[o]).zip (ae++[X]))) n;refine BN (a:=[X,.a0 N,O]) (m:=aK (cW N (.eN ((c++[o]).zip (ae++[X])))) m) (t:=.a9) (v:=.a9) (o:=λv ay=>v=.a9->QQ ay) (c:=λ_=>i) R T x W n (λj G=>by cases G) (bx.fu _) (hG _ λ_=>rfl) (qD λ_=>rfl) (BP (ox λ_=>rfl) ?_ l (λV=>.inr ⟨y V,rfl⟩) (hG _ λ_=>rfl)) a rfl
     unfold bC;exact⟨N,ae++[X],_,m,rfl,⟨rfl,by simp[w],zk.mpr ⟨az,by simp,by rintro S aM b aB rfl;simp at aB;subst aB;exact ax aM⟩⟩,fZ E,on⟩
    ·exact a.elim
 ·exact a.elim
theorem OM {C m:ar}(f:bx F Q)(g:c4 F Y)(h:bx Y Q)(k:∀N j,Y N≠D (.bb j))(d:cQ (jR N bS A) C Y)(l:∀j,b3≠.bb j)(n:bx m (aK (jR N bS b3) C))(p:cQ c ai m)
  (q:bC I t v F c) (s:bL I dJ a F ai) (u:∀v a4 aF ay c ai,dG F (gm Q Y) a4 aF ay->cQ c ai aF->bC I t v a4 c->bL I dJ a a4 ai->o v ay):o v (cq Q N b3):=by
 have w:Y N≠i:=by rw[d.s _ _ A7];exact fQ _
 exact u v F _ _ c ai (xE (Fn (l:=Y) (m:=Y) (aF:=Y) (vv f g h k) w l (aK (jR N bS b3) C) λV=>by
  unfold aK;rw[tI];by_cases e:V=N
  ·rw[if_pos e,if_pos e]
  ·rw[if_neg e,if_neg e]
   rcases d V with⟨S,b⟩|⟨S,b⟩
   ·rw[tI,if_neg e]at S
    simp_all
   rw[S,b,tI,if_neg e];split<;>(rename_i G;exact G.symm)) n) p q s
theorem ON:∀{a:c_}{ae:bp}{w:Str}{v:aS},w∈a->a.length=ae.length->iT w v (a.zip ae)=a.zip (ae.set (a.idxOf w) v)
 |[],_,_,_,Y,_=>by simp at Y
 |y::a,[],_,_,_,s=>by simp at s
 |y::a,u::ae,w,v,Y,s=>by
  rw[kB,iT];by_cases e:y=w
  ·simp_all
  rw[if_neg e,ON (by rcases dn.mp Y with G |G;exact absurd G.symm e;exact G) (by simpa using s),JB,beq_eq_false_iff_ne.mpr e,cond_false,zj,kB]
def rO (w:Str):bY:=λab=>match ab with
 |[v,.az (.dV R a) j]=>if a.length<1000 then(if w∈a then .f .a9 [.e4,.az (.dV R a) (j.set (a.idxOf w) v)]else .f .a9 [.e4,.az (.dV R (a++[w])) (j++[v])])else .aU
 |_=>.aU
theorem OO (a:cQ (jR N bS A) S Y):c4 (jR N bS b3) S:=λV=>by
 rcases a.f_ V with G |G
 ·left
  rw[tI]at G ⊢;lia
 exact .inr G
theorem OP {X q:aS}(a:bC I S X F af)(dc:bC I b q F ai)(c:cQ af ai Y):bL I [S,b] [X,q] F Y:=⟨X,[q],af,ai,rfl,c,a,⟨q,[],ai,λ_=>i,rfl,hi _ λ_=>rfl,dc,yi⟩⟩
theorem ab4 {X A:aS}{y:Str}{w:aq}{cS:Str}{a:c_}{aV:bO}{l:ar->Prop}(O:BF I (rO y) [w,.az (.dV cS a) aV] [X,A] Q (λv ay=>v=.a9->l ay) k):
  ∃S,A=.a0 S/\∃bS au,Q S=D (.fg (dz I cS) bS au)/\au.length<1000/\l (cq Q S (.fg (dz I cS) bS (iT y X au))):=by
 obtain⟨F,Y,x,z,q,B,b⟩:=O;have C:=tT B;unfold rO at b;dsimp only at b
 ·split at b
  ·rename_i P
   obtain⟨af,ai,bw,S,R,T,E,U,J⟩:=GY B;obtain⟨N,ae,al,W,rfl,b7,Z,s⟩:=rN U;obtain⟨bS,K,aa,c⟩:=b7;subst aa;unfold bL at J;have ab:S=ai:=by rw[i0 T];funext V;unfold aK;cases G:ai V with |none=>exact J.2 V |some A=>rfl
   subst ab;obtain⟨m,n,h⟩:=ja Z (jA R);have ac:Q N=D (.fg (dz I cS) bS (a.zip ae)):=q _ _ (h.s _ _ A7);have ah:c4 af W:=λV=>(n.f_ V).symm
   refine⟨N,rfl,bS,a.zip ae,ac,by rw[q1,c,sv,<- c];exact P,?_⟩
   split at b
   ·rename_i o
    have aj:a.idxOf y<aV.length:=by rw[bL.cn s,<- c];exact List.idxOf_lt_length_iff.mpr o
    obtain⟨u,am,f,an,L,ao,g⟩:=bL.focus s (gx aj);have ak:c4 af f:=λV=>by rcases ah V with G |G;exact .inl G;exact .inr (L.E.cz G)
    have on:=g w F X af (aK af f) (bx.fu _) E (fZ ak);have M:bx (aK af f) m:=λV A e=>by
     unfold aK at e;cases G:af V with
     |some p=>rw[G]at e;cases e;exact n.E _ _ G|none=>rw[G]at e;exact n.s _ _ (L.E _ _ e)
    have t:c4 (jR N bS (.fg (dz I cS) bS (a.zip (ae.set (a.idxOf y) X)))) (aK af f):=λV=>by
     rcases OO (b3:=.fg (dz I cS) bS (a.zip (ae.set (a.idxOf y) X))) h V with G |G
     ·exact .inl G
     ·exact .inr (M.cz G)
    rw[ON o c];refine OM (a:=[X,.a0 N]) (m:=aK (jR N bS (.fg (dz I cS) bS (a.zip (ae.set (a.idxOf y) X)))) (aK af f)) (t:=.a9) (v:=.a9) (o:=λv ay=>v=.a9->l ay) (c:=λ_=>i) x z q C h (λj G=>by cases G) (λV A e=>?_) (hG _ λ_=>rfl) (qD λ_=>rfl) (OP (ox λ_=>rfl) ?_ (hG _ λ_=>rfl)) b rfl
    ·unfold aK at e ⊢
     cases G:jR N bS (.fg (dz I cS) bS (a.zip (ae.set (a.idxOf y) X))) V with
     |some p=>rw[G]at e;exact e|none=>rw[G]at e;exact M _ _ e
    ·unfold bC
     exact⟨N,ae.set (a.idxOf y) X,_,aK af f,rfl,⟨bS,K,rfl,by rw[wy];exact c⟩,fZ t,on⟩
   ·rename_i o
    rw[MR X o c.symm];have on:=bL.snoc s E n;have t:=OO (b3:=.fg (dz I cS) bS ((a++[y]).zip (ae++[X]))) h;refine OM (a:=[X,.a0 N]) (m:=aK (jR N bS (.fg (dz I cS) bS ((a++[y]).zip (ae++[X])))) m) (t:=.a9) (v:=.a9) (o:=λv ay=>v=.a9->l ay) (c:=λ_=>i) x z q C h (λj G=>by cases G) (bx.fu _) (hG _ λ_=>rfl) (qD λ_=>rfl) (OP (ox λ_=>rfl) ?_ (hG _ λ_=>rfl)) b rfl
    unfold bC;exact⟨N,ae++[X],_,m,rfl,⟨bS,K,rfl,by simp[c]⟩,fZ t,on⟩
  ·exact b.elim
def GZ (I:cO)(a:c_)(n vu:b1)(w:Str):gf:=λbB l Q=>∃R∈a,FD (dz I R) n vu w bB l Q
def vQ (x:aZ)(V:jV):Option Str:=match en x V with |some (.az (.dV R _) _)=>D R |_=>i
def yl (ak:fG)(y:Str)(N:ee)(X:r)(x:aZ):b8 aZ fN:=(eE ak x [X,.s N]).aC λa e=>match a with
 |[g,.s V]=>(match vQ e V with |some R=>if R∈ak.dg then qA (hk (rO y) [g,.s V] e)else .aU |none=>.aU)|_=>.aU
theorem ab5 (z:ak.dZ I)(y:Str)(c:ee)(X:r):hH I (GZ I ak.dg (c.X.cf I ak k) (X.n.cf I ak k) y) k aH x (yl ak y c X x):=by
 intro bE bk l F Y Q bB j ok b;unfold yl at b;have B:∀R∈ak.dg,(∀m e,eE ak x [X,.s c]=.f m e->∃g V,m=[g,.s V]/\vQ e V=D R)->GZ I ak.dg (c.X.cf I ak k) (X.n.cf I ak k) y bB l Q:=λR o N=>⟨R,o,by
  have:=pD (I:=I) (k:=k) (aH:=aH) z [X,.s c] x;rw[show H.et I ak k ([X,.s c].map r.n)=hb (X.n.cf I ak k) (hb (c.X.cf I ak k) ib)from rfl]at this
  have O:OA I (eE ak x [X,.s c]) k aH l bE bk Q (λa a7=>match a with |[q,.a0 S]=>∃bS au,a7 S=D (.fg (dz I R) bS au)/\au.length<1000/\bB.dx l (cq a7 S (.fg (dz I R) bS (iT y q au)))|_=>False):=by
   cases e:eE ak x [X,.s c]with
   |aU=>rw[e]at b;exact b|aT R d=>rw[e]at b;exact λF Y Q j ok=>b l F Y Q j ok|f m d=>
    rw[e]at b;obtain⟨g,V,rfl,p⟩:=N m d e;dsimp only[b8.aC]at b;rw[p]at b;dsimp only at b;rw[if_pos o]at b;intro a bF ah aj af aw P C h T _;have U:tQ I (hk (rO y) [g,.s V] d) k aH l bE bk (λv ay=>v=.a9->bB.dx l ay):=by
     cases ec:hk (rO y) [g,.s V] d with
     |aU=>rw[ec]at b;exact b|aT R aB=>rw[ec]at b;exact λF Y Q j ok=>b l F Y Q j ok|f t aB=>rw[ec]at b;exact λv F al ai Y Q j am h ok _=>b l F Y Q (da.qi j h) ok
    obtain⟨ab,u,W⟩:=OC P C h T U;have Z:=BK C;obtain⟨q,A,rfl⟩:=OJ Z;unfold vQ at p;split at p
    ·rename_i an aa aV J
     cases p;have ac:∃n,ab=[n,.az (.dV R aa) aV]:=by
      cases g with
      |t n=>simp[iL,J]at u;exact⟨n,u.symm⟩|s dq=>
       cases L:en d dq with
       |none=>simp[iL,L]at u|some n=>simp[iL,J,L]at u;exact⟨n,u.symm⟩
     obtain⟨n,rfl⟩:=ac;obtain⟨S,rfl,E⟩:=ab4 W;exact E
    ·cases p
  ·-- ao same,ap aG as av
   have G:=this bE bk l F Y Q _ j ok O;unfold FD;unfold hb ib at G;have e:(λ(q:aS) (aw:ar)=>(c.X.cf I ak k) l aw λA a7=>(match([q,A]:List aS)with |[q,.a0 S]=>∃bS au,a7 S=D (.fg (dz I R) bS au)/\au.length<1000/\bB.dx l (cq a7 S (.fg (dz I R) bS (iT y q au)))|_=>False))=λq aw=>(c.X.cf I ak k) l aw λA a7=>(match A with |.a0 S=>∃bS au,a7 S=D (.fg (dz I R) bS au)/\au.length<1000/\bB.dx l (cq a7 S (.fg (dz I R) bS (iT y q au)))|_=>False):=by
    funext q aw;congr 1;funext A a7;cases A<;>rfl
   have M:=G;rw[e]at M;exact M⟩
 cases e:eE ak x [X,.s c]with
 |aU=>rw[e]at b;exact b.elim|aT R d=>
  cases w:ak.dg with
  |nil=>exact absurd w z.dg|cons ae ax=>
   have:=B ae (by rw[w];exact eI ..) λm aB G=>by rw[e]at G;cases G
   rw[w]at this;exact this
 |f m d=>
  rw[e]at b;dsimp only[b8.aC]at b;split at b
  ·rename_i g V
   cases ec:vQ d V with
   |none=>rw[ec]at b;exact b.elim|some R=>
    rw[ec]at b;dsimp only at b;by_cases o:R∈ak.dg
    ·exact B R o λm aB G=>by rw[e]at G;cases G;exact⟨g,V,rfl,ec⟩
    ·rw[if_neg o]at b;exact b.elim
  ·exact b.elim
def rP (ak:fG)(N:ee)(C X:H)(x:aZ):b8 aZ fN:=qA ((eE ak x [.X X,.s N,.X C]).aC (hk nP))
theorem ab6 (w:ak.dZ I)(g:ee)(C X:H):hH I (o2 (X.cf I ak k) (Ek (g.X.cf I ak k) (C.cf I ak k) yk)) k aH x (rP ak g C X x):=by
 intro bE bk l F Y Q bB d ok b;unfold rP at b;have:=pD (I:=I) (k:=k) (aH:=aH) w [.X X,.s g,.X C] x;rw[show H.et I ak k ([r.X X,.s g,.X C].map r.n)=hb (X.cf I ak k) (hb (g.X.cf I ak k) (hb (C.cf I ak k) ib))from rfl]at this
 refine this bE bk l F Y Q (λa a7=>match a with |[q,A,O]=>yk A O q a7 (bB.dx l)|_=>False) d ok ?_
 cases e:eE ak x [.X X,.s g,.X C]with
 |aU=>rw[e]at b;exact b|aT R j=>rw[e]at b;exact λF Y Q d ok=>b l F Y Q d ok|f c j=>
  rw[e]at b;intro a bF P T af aw y o h z _;have b:pG I (qA (hk nP c j)) k aH bE bk bB:=b;have B:tQ I (hk nP c j) k aH l bE bk (λv ay=>v=.a9->bB.dx l ay):=by
   cases ec:hk nP c j with
   |aU=>rw[ec]at b;exact b|aT R aB=>rw[ec]at b;exact λF Y Q d ok=>b l F Y Q d ok|f t aB=>rw[ec]at b;exact λv F U ai Y Q d V h ok _=>b l F Y Q (da.qi d h) ok
  have G:=yh y o h z B;have p:=BK o;have J:c.length=3:=by
   have:∀{aG:pB}{x e:aZ}{c:jX},eE ak x aG=.f c e->c.length=aG.length:=λ{aG}=>by
    induction aG with
    |nil=>intro x e c Y;unfold eE at Y;cases (Y);rfl
    |cons S aG u=>
     intro x e c Y;have C:∀{E:b8 aZ aq},(E.aC λt e=>(eE ak e aG).aC λc j=>.f (.t t::c) j)=.f c e->c.length=(S::aG).length:=λ{E} Y=>by
      cases E with
      |aU=>cases Y|aT R n=>cases Y|f t n=>
       dsimp only[b8.aC]at Y;cases aB:eE ak n aG with
       |aU=>rw[aB]at Y;cases Y|aT R n=>rw[aB]at Y;cases Y|f L M=>rw[aB]at Y;cases Y;rw[ew,ew,u aB]
     cases S with
     |X q=>unfold eE at Y;exact C Y|m q=>unfold eE at Y;exact C Y|s N=>
      unfold eE at Y;split at Y
      ·cases aB:eE ak x aG with
       |aU=>rw[aB]at Y;cases Y|aT R n=>rw[aB]at Y;cases Y|f L M=>rw[aB]at Y;cases Y;rw[ew,ew,u aB]
      ·cases Y
      ·cases Y
   exact this e
  rw[J]at p;obtain⟨q,A,O,rfl⟩:=OK p;exact ab3 G
theorem G0 (q:ak.dZ I){c:ee}(d:da (eV I aH x) l F Y)(a:dG bE bk F Y Q)(e:c.aW ak x=.f V)(f:en x V=D R)
  (s:∀u bF aw b v,dG bE bk bF Y aw->da (eV I aH x) l bF Y->bx b Y->bC I R u bF b->l[V.1]?=D (D v)->lY aw v V.2=D u->o u aw):c.X.cf I ak k l Q o:=by
 refine ee.dB q c k x l _ Q _ (rC (d.rp a.2.1)) a.rt ?_;rw[e];intro bF aw v u cS x1 j m _ _;obtain⟨w,n,A⟩:=a.ej x1;rcases ng x _ with⟨t,g⟩|g
 ·rw[pA g]at f
  obtain⟨B,C,b,E,p,y,h,z,_⟩:=Bo d g f;rw[j]at p;cases p;cases kb ((xU x1.2.2.1 (y Q a.1.2.1 a.2.2.1)).symm.trans m);exact s u _ aw b v w (d.bQ n) h.s (z.bQ n) j m
 unfold en at f;simp_all
theorem G1 (d:ak.dZ I){b:ee}{X:m2}(c:da (eV I aH x) l F Y)(a:dG bE bk F Y Q)(e:b.aW ak x=.aT X)(f:∀F Y Q,da (eV I aH x) l F Y->dG bE bk F Y Q->kN I k X bk F Q):b.X.cf I ak k l Q o:=by
 refine ee.dB d b k x l _ Q _ (rC (c.rp a.2.1)) a.rt ?_;rw[e];exact λa4 ay q=>(f _ _ _ (c.bQ (a.ej q).2.1) (a.ej q).1).ej a q
def ni (ak:fG)(x:aZ)(N:ee)(aG:pB)(a:aq->Bool)(C:jV->jX->aZ->b8 aZ aq):b8 aZ aq:=match N.aW ak x with
 |.f V=>(match en x V with |some R=>if a R then(eE ak x aG).aC (C V)else .aU |none=>.aU)|.aT R=>.aT R x|.aU=>.aU
theorem G2 (b:l[V.1]?=D (D v))(c:lY aw v V.2=D u)(d:bx aw a7)(e:pC I l av a7 gs a hA):pC I l av a7 (.s V::gs) (u::a) hA:=⟨u,v,a,rfl,b,xU d c,e⟩
def kW (T:String)(R:aq):Bool:=match R with |.az .aM _=>T=="list" |.az (.gP _) _=>T=="dict" |_=>aA
theorem ab7 (a:kW T R=ag)(c:bC I R u F C)(h:bx F Q)(d:bx C Q):Ah I T u Q:=by
 unfold kW at a;split at a
 ·obtain⟨N,ae,e,f,rfl,b7,b,_⟩:=rN c
  subst b7;have  := by simpa using a
  exact .inl ⟨this,ae,.of (d _ _ (b.s _ _ jQ))⟩
 ·obtain⟨N,ae,e,f,rfl,b7,b,_⟩:=rN c
  obtain⟨g,_⟩:=b7;subst g;have  := by simpa using a
  exact .inr (.inr (.inl ⟨this,.inl ⟨_,d _ _ (b.s _ _ jQ)⟩⟩))
 cases a
theorem OQ (d:ak.dZ I) {E:aS->bp->ar->cm->Prop}(b:tS I E w)(g:ee)(aG:pB):hW I (qe I T E (g.X.cf I ak k) (H.et I ak k (aG.map r.n))) k aH x (ni ak x g aG (kW T) λV p e=>hk w (.s V::p) e):=by
 intro bE bk l F Y Q o q ok c;unfold ni at c;cases e:g.aW ak x with
 |aU=>rw[e]at c;exact c.elim|aT R=>rw[e]at c;exact G1 d q ok e c|f V=>
  rw[e]at c;dsimp only at c;cases j:en x V with
  |none=>rw[j]at c;exact c.elim|some R=>
   rw[j]at c;dsimp only at c;by_cases m:kW T R=ag
   rotate_left
   ·rw[if_neg m]at c;exact c.elim
   rw[if_pos m]at c;refine G0 d q ok e j λu bF aw L v n t y z A B=>⟨ab7 m z n.1.2.1 (y.ct n.2.2.1),?_⟩
   refine pD    d aG x bE bk l bF Y aw _ t n ?_;cases s:eE ak x aG with
   |f p M=>
    rw[s]at c;intro a av N O ai a7 C G h J K;exact b u a a7 o k (yh C (G2 A B K G) h J c)|_=>rw[s]at c;exact c
theorem ab8 (c:ak.dZ I) {E:aS->bp->ar->cm->Prop}(b:tS I E w)(a:ee):hW I (Ai I T E (a.X.cf I ak k)) k aH x (ni ak x a [] (kW T) λV d e=>hk w (.s V::d) e):=by
 intro bE bk l F Y Q o f g h;have:=OQ    c  b a [] bE bk l F Y Q o f g h;exact this
def BQ (au:rD)(m:Str)(R:aq):Bool:=match R with |.az (.dV R a) _=>(au.find? (λV=>V.1 == R)).isSome && !decide (m∈a)|_=>aA
def BR (au:rD)(x:aZ)(V:jV):bY:=match en x V with
 |some (.az (.dV R _) _)=>(match au.find? (λg=>g.1 == R)with |some g=>g.2 |none=>λ_=>.aU)
 |_=>λ_=>.aU
def BS (ak:fG)(au:rD)(m:Str)(N:ee)(aG:pB)(x:aZ):b8 aZ aq:=if au.isEmpty then .aU else ni ak x N aG (BQ au m) λV a e=>hk (BR au x V) (.s V::a) e
theorem ab9 (j:ak.dZ I)(au:rD)(m:Str)(n:ee)(aG:pB):hW I (vI I au m k (n.X.cf I ak k) (H.et I ak k (aG.map r.n))) k aH x (BS ak au m n aG x):=by
 intro bE bk l F Y Q o s ok b;unfold BS at b;split at b
 ·exact b.elim
 rename_i w
 unfold ni at b;cases e:n.aW ak x with
 |aU=>rw[e]at b;exact b.elim|aT R=>
  rw[e]at b;cases au with
  |nil=>exact absurd rfl w|cons g au=>exact⟨g,eI ..,G1 j s ok e b⟩
 |f V=>
  rw[e]at b;dsimp only at b;cases d:en x V with
  |none=>rw[d]at b;exact b.elim|some R=>
   rw[d]at b;dsimp only at b;by_cases c:BQ au m R=ag
   rotate_left
   ·rw[if_neg c]at b;exact b.elim
   rw[if_pos c]at b;unfold BQ at c;split at c
   ·rename_i y z aV
    obtain⟨A,B⟩:=lJ.mp c;obtain⟨g,p⟩:=wK.mp A;have af:g.1=y:=by simpa using JC p
    have C:m∉z:=by simpa using B
    have G:BR au x V=g.2:=by unfold BR;rw[d];dsimp only;rw[p]
    rw[G]at b;refine⟨g,Jk p,?_⟩;refine G0 j s ok e d λu bF aw ac v t J L M O P=>?_
    obtain⟨N,ae,ah,aj,rfl,b7,S,_⟩:=rN M;obtain⟨bS,_,T,al⟩:=b7;subst T;refine⟨N,bS,_,rfl,by rw[af];exact t.2.2.1 _ _ (L _ _ (S.s _ _ A7)),NL C,?_⟩
    refine pD (I:=I) (k:=k) (aH:=aH) j aG x bE bk l bF Y aw _ J t ?_;cases q:eE ak x aG with
    |aU=>rw[q]at b;exact b|aT X U=>rw[q]at b;exact b|f am U=>
     rw[q]at b;intro a av an ao ai a7 W Z h aa ab;rw[l_];exact yh W (G2 O P ab Z) h aa b
   ·cases c
def oy:bY:=λab=>match ab with
 | [.az (.gP a) aV,b,v]=>if v.e9 then(match nI b with
   |some c=>if g0 a c<a.length then(match aV[g0 a c]? with |some q=>if q.e9 then .f q [.az (.gP a) aV,b,v]else .aU |none=>.aU)
    else if aV.length<cA then .f v [.az (.gP (a++[c])) (aV++[v]),b,v]else .aU
   |none=>.aU)else .aU
 |_=>.aU
def BU:aS->bp->ar->cm->Prop:=λX j Q o=>match j with
 |[q,G]=>td X q Q λS bl C=>match hB bl C with |some v=>o v Q |none=>bl.length<cA/\o G (cq Q S (.eN (jP bl C G)))
 |_=>False
theorem ab_ {a:kD}{ae:bp}{C:ey}(b:C∉a):hB (a.zip ae) C=i:=by
 unfold hB;rw[List.find?_eq_none.mpr]
 ·rfl
 ·intro V c G
  exact b (by have:=(sj   c).1;simp_all)
theorem aca:∀{t:aq}{C:ey},nI t=D C->t.e9=ag:=λ{t}=>by
 cases t with
 |az=>intro C e;cases e
 |_=>intro C e;rfl
theorem acb:tS I BU oy:=by
 rintro X j Q o k ⟨F,Y,ab,K,L,p,l,a⟩;have M:=tT l;have af:=l;unfold oy at a;split at a
 ·rename_i c aV ah O
  split at a
  rotate_left
  ·exact a.elim
  rename_i ai
  unfold bL at l;obtain⟨aQ,aT,P,aj,aR,ak,al,R⟩:=l;unfold bL at R;obtain⟨am,aU,an,ao,aB,ap,s,T⟩:=R;unfold bL at T;obtain⟨e,aW,ar,aX,as,au,h,U⟩:=T;unfold bL at U;obtain⟨av,aw⟩:=U;cases aR;subst aB;subst as;subst av;obtain⟨t,aY⟩:=bC.e9 ai h;cases n:nI ah with
  |none=>rw[n]at a;exact a.elim|some f=>
   rw[n]at a;dsimp only at a;obtain⟨W,ax⟩:=bC.e9 (aca n) s;have Z:=xR n ax;obtain⟨N,ae,aZ,w,rfl,b7,x,y⟩:=rN al;obtain⟨ay,z,az⟩:=b7;subst ay;have aC:∀V,ao V=i:=λV=>by rw[i0 au];unfold aK;rw[t V];exact aw V
   have aD:∀V,aj V=i:=λV=>by rw[i0 ap];unfold aK;rw[W V];exact aC V
   have aE:Y=P:=by rw[i0 ak];funext V;unfold aK;cases G:P V with |none=>exact aD V |some A=>rfl
   subst aE;have aa:Q N=D (.eN (c.zip ae)):=p _ _ (x.s _ _ jQ);have aF:an=λ_=>i:=funext W
   have aG:ar=λ_=>i:=funext t
   split at a
   ·rename_i B
    cases C:aV[g0 c f]? with
    |none=>rw[C]at a;exact a.elim|some q=>
     rw[C]at a;dsimp only at a;split at a
     rotate_left
     ·exact a.elim
     rename_i aH
     obtain⟨u,aI,a0,aJ,a1,E,g⟩:=bL.focus y C;obtain⟨e3,bI⟩:=bC.e9 aH E;unfold BU;refine Bj rfl Z.1 aa ?_;rw[GL aJ B];have:aI=λ_=>i:=funext e3
     rw[this]at E;exact a u F Y Q (λ_=>i) Y (vv K L p M) (hG _ λ_=>rfl) E af
   ·rename_i B
    split at a
    rotate_left
    ·exact a.elim
    rename_i aL
    have J:f∉c:=λG=>B (BO.mpr G)
    unfold BU;refine Bj rfl Z.1 aa ?_;rw[ab_ J];refine⟨by rw[q1,z,sv,<- bL.cn y];exact aL,?_⟩
    rw[OL J z];have on:=bL.snoc y h (hi _ t);have aM:=rM (b3:=.eN ((c++[f]).zip (ae++[e]))) x;rw[aF]at s;rw[aG]at h;have aO:bC I (.az (.gP (c++[f])) (aV++[O])) (.a0 N) F (aK (cW N (.eN ((c++[f]).zip (ae++[e])))) w):=by
     unfold bC;exact⟨N,ae++[e],_,w,rfl,⟨rfl,by simp[z],zk.mpr ⟨az,by simp,by rintro S aP b ac rfl;simp at ac;subst ac;exact J aP⟩⟩,fZ aM,on⟩
    exact BN (a:=[.a0 N,am,e]) (m:=aK (cW N (.eN ((c++[f]).zip (ae++[e])))) w) (t:=O) (v:=e) (o:=o) (c:=λ_=>i) K L p M x (λj G=>by cases G) (bx.fu _) (hG _ λ_=>rfl) h (BP aO s h (hG _ λ_=>rfl) (hi _ λ_=>rfl)) a
 ·exact a.elim
theorem acd (g:ak.dZ I)(j:ee)(C v:H):hW I (FH (j.X.cf I ak k) (C.cf I ak k) (v.cf I ak k)) k aH x (ni ak x j [.X C,.X v] (kW "dict") λV n e=>hk oy (.s V::n) e):=by
 intro bE bk l F Y Q o p ok b;unfold ni at b;cases e:j.aW ak x with
 |aU=>rw[e]at b;exact b.elim|aT R=>rw[e]at b;exact G1 g p ok e b|f V=>
  rw[e]at b;dsimp only at b;cases d:en x V with
  |none=>rw[d]at b;exact b.elim|some R=>
   rw[d]at b;dsimp only at b;by_cases c:kW "dict" R=ag
   rotate_left
   ·rw[if_neg c]at b;exact b.elim
   rw[if_pos c]at b;refine G0 g p ok e d λu bF aw S T q s t w y z=>⟨?_,?_⟩
   ·unfold kW at c
    split at c
    ·cases c
    ·obtain⟨N,ae,U,d,rfl,b7,A,_⟩:=rN w
     obtain⟨B,_⟩:=b7;subst B;exact⟨_,(t.ct q.2.2.1) _ _ (A.s _ _ jQ)⟩
    ·cases c
   ·have G:=pD (I:=I) (k:=k) (aH:=aH) g [.X C,.X v] x bE bk l bF Y aw (λa a7=>BU u a a7 o) s q
    refine G ?_;cases m:eE ak x [.X C,.X v]with
    |aU=>rw[m]at b;exact b|aT X J=>rw[m]at b;exact b|f n J=>
     rw[m]at b;intro a av W Z ai a7 L M h O P;exact acb u a a7 o k (yh L (G2 y z P M) h O b)
end
inductive nj where
 |dE |l0 |tV
noncomputable def nj.gd:nj->String
 |_ => "list"
def nj.E:nj->aS->bp->ar->cm->Prop
 |.dE=>EF |.l0=>EH |.tV=>EI
def nj.w:nj->bY
 |.dE=>qC |.l0=>tU |.tV=>BM
theorem OR {I:cO}(A:nj):tS I A.E A.w:=by
 cases A with
 |dE=>exact abV|l0=>exact abY|tV=>exact abZ
section
variable {I:jv}{x:aZ}{aH:iX}{O:Nat}
theorem BV:eV I aH (A::x)=oo I (aH 0) A::eV I (λO=>aH (O+1)) x:=by simp_all
end
inductive jZ where
 |b0 (w:bY) (X:Str) (aG:List H)|eA (A:kj) (aG:List H)
def jZ.X:jZ->H->H
 |.b0 w X aG,S=>.b0 w X (S::aG)|.eA A aG,S=>.eA A S aG
def jZ.n (I:cO)(ak:fG)(k:cg):jZ->b1->b1
 |.b0 w _ aG,n=>rd (f3 I w) [] k (hb n (H.et I ak k aG))|.eA A aG,n=>qe I "str" (A.E I) n (H.et I ak k aG)
theorem jZ.cf {I:cO}{ak:fG}{k:cg}(R:jZ)(t:aq):(R.X (.C t)).cf I ak k=R.n I ak k (hy (t.gn.getD .a9)):=by
 cases R with
 |_=>rfl
set_option genInjectivity false in
inductive dp where
 |bh (X:H)|ko (O:Nat)
 |b0 (w:bY) (X:Str) (aG:List r)
 |eL (a:List (Str×bY)) (N:ee) (m:Str) (aG:List r)
 |eS (A:nj) (N:ee) (aG:List r)
 |aY (A:hU) (q G:dp)
 |kX (S:jZ) (q:dp)
 |tk (t:aq) (q:dp)
 |rQ (N:ee) (C v:H)
 |not (q:dp)
 |or (q G:dp)|and (q G:dp)
set_option genInjectivity false in
inductive aN where
 |cp (O:Nat) (q:dp)|tW (is:List Nat) (X:H)
 |kY (N:ee) (y:Str) (X:H)|rR (N:ee) (C X:H)
 |aT (q:dp)|cG (q:dp)|tX
 |ef (R:H) (S b:List aN)|tY (R:dp) (S b:List aN)|tZ (R:H) (S b:List aN)
 |qE (R t:H) (S b:List aN)
 |gQ (d4:iZ) (ed:List H) (bZ:kl) (b:List aN)
 |qF (R:H) (b:List aN)
 |nk |cont |jd
 |pI (b a:List aN)
abbrev cK:=List aN
section
variable (I:jv)(ak:fG)
def dp.cf (k:cg):dp->b1
 |.bh X=>X.cf I ak k|.ko O=>o_ O|.b0 w _ aG=>rd (f3 I w) [] k (H.et I ak k (aG.map r.n))|.eL a N m aG=>vI I a m k (N.X.cf I ak k) (H.et I ak k (aG.map r.n))|.eS A N aG=>(match aG with |[]=>Ai I A.gd A.E (N.X.cf I ak k)|_=>qe I A.gd A.E (N.X.cf I ak k) (H.et I ak k (aG.map r.n)))|.aY A q G=>n9 (A.E I) (q.cf k) (G.cf k)|.kX S q=>S.n I ak k (q.cf k)|.tk t q=>w_ (hb (hy (t.gn.getD .a9)) (hb (q.cf k) ib))|.rQ N C v=>FH (N.X.cf I ak k) (C.cf I ak k) (v.cf I ak k)|.not q=>u7 (q.cf k)|.or q G=>rj (q.cf k) (G.cf k)|.and q G=>s7 (q.cf k) (G.cf k)
mutual
def aN.cf (k:cg):aN->gf
 |.cp O q=>o2 (q.cf I ak k) (o1 O)|.tW is X=>o2 (X.cf I ak k) (FR I (vG is))|.kY N y X=>GZ I ak.dg (N.X.cf I ak k) (X.cf I ak k) y|.rR N C X=>o2 (X.cf I ak k) (Ek (N.X.cf I ak k) (C.cf I ak k) yk)|.aT q=>Eh (q.cf I ak k)|.cG q=>Ei (q.cf I ak k)|.tX=>Ej|.ef R S b=>s8 (lQ (R.cf I ak k)) (aN.et k S) (aN.et k b)|.tY R S b=>s8 (lQ (R.cf I ak k)) (aN.et k S) (aN.et k b)|.tZ R S b=>s8 (A9 I (R.cf I ak k)) (aN.et k S) (aN.et k b)|.qE R t S b=>s8 (E0 (A9 I (R.cf I ak k)) (lQ (t.cf I ak k))) (aN.et k S) (aN.et k b)|.gQ d4 ed bZ b=>Eo (d4.n I (H.et I ak k ed)) (qq I bZ) (aN.et k b)|.qF R b=>El (lQ (R.cf I ak k)) (aN.et k b)|.nk=>uV|.cont=>Eg|.jd=>KP|.pI b a=>sT (aN.et jO b) (aN.et k a)
def aN.et (k:cg):List aN->gf
 |[]=>uV|z::c1=>sT (z.cf k) (aN.et k c1)
end
end
def qG (t:aq):Mo Bool:=match t.aK with |.aQ b=>.f b |.az .aM j=>.f (!j.isEmpty)|_=>.aU
theorem OS {I:cO}{k:cg}{x:aZ}{n:b1}{E:eY}(Y:dH I n k x E):m3 I (A9 I n) k (hh I x) (E.aC qG):=by
 intro l F Q o d f V;refine hj Y l F Q _ d f (V.aC.de λS bF aw x1 a h g=>?_)
 have c:=bD.aK g;unfold qG at a;split at a
 ·rename_i b e;rw[e]at c;cases c.aQ;exact a.f x1.2.1
 ·rename_i j e;rw[e]at c;obtain⟨N,ae,rfl,y,E⟩:=c.az
  refine⟨ae,.of (x1.2.1 _ _ y),?_⟩;rw[show ae.isEmpty=j.isEmpty from by have:=E.cn;cases ae<;>cases j<;>first |rfl |cases this]
  exact a.f x1.2.1
 exact a.elim
def pJ {aP:Type}(m:Mo aP)(e:aZ):b8 aZ aP:=match m with |.f S=>.f S e |.aT R=>.aT R e |.aU=>.aU
section
variable (ak:fG)
def rS (x:aZ)(O:Nat):b8 aZ aq:=match x[O]? with |some (D t)=>.f t (x.set O i)|_=>.aU
def ym (p:Bool)(t:aq)(e:aZ)(E:b8 aZ aq):b8 aZ aq:=match fO t with |.f b=>if b=p then .f (.aQ p) e else E |_=>.aU
def yn (S:jZ)(t:aq)(e:aZ):b8 aZ aq:=if t.gn.isSome=ag then mF ak e (S.X (.C t))else .aU
def dp.aW:dp->aZ->b8 aZ aq
 |.bh X,x=>mF ak x X|.ko O,x=>rS x O|.b0 w _ aG,x=>(eE ak x aG).aC (hk w)|.eL c N m aG,x=>BS ak c m N aG x|.eS A N aG,x=>ni ak x N aG (kW A.gd) λV a e=>hk A.w (.s V::a) e|.aY A q G,x=>(q.aW x).aC λt e=>(G.aW e).aC λd aB=>pJ (A.w t d) aB|.kX S q,x=>(q.aW x).aC λt e=>yn ak S t e|.tk S q,x=>(q.aW x).aC λt e=>pJ (.ea (S.gn.isSome=ag) (.f (.az .bb ([S,t].map .bM)))) e|.rQ N C v,x=>ni ak x N [.X C,.X v] (kW "dict") λV a e=>hk oy (.s V::a) e|.not q,x=>(q.aW x).aC λt e=>pJ ((fO t).aC λb=>.f (.aQ (!b))) e|.or q G,x=>(q.aW x).aC λt e=>ym ag t e (G.aW e)|.and q G,x=>(q.aW x).aC λt e=>ym aA t e (G.aW e)
def BW (aD:md)(is:bt)(E:b8 aZ aq):b8 aZ fN:=E.aC λt e=>match t.aK with
 |.az .aM j=>if is.length=5/\j.length=5 then(match jt aD e is j with |some a=>.f .dx a |none=>.aU)else .aU
 |_=>.aU
mutual
def aN.f7:md->aN->aZ->b8 aZ fN
 |aD,.cp O q,x=>BG aD O (q.aW ak x)|aD,.tW is X,x=>BW aD is (mF ak x X)|aD,.kY N y X,x=>yl ak y N (.X X) x|aD,.rR N C X,x=>rP ak N C X x|aD,.aT q,x=>qA (q.aW ak x)|aD,.cG q,x=>BH (q.aW ak x)|aD,.tX,x=>.f (.eT .a9) x|aD,.ef R S b,x=>pH x ((R.aW ak x).aC fO) (aN.a_ aD S x) (aN.a_ aD b x)|aD,.tY R S b,x=>(R.aW ak x).aC λt e=>pH e (fO t) (aN.a_ aD S e) (aN.a_ aD b e)|aD,.tZ R S b,x=>pH x ((R.aW ak x).aC qG) (aN.a_ aD S x) (aN.a_ aD b x)|aD,.qE R t S b,x=>pH x (((R.aW ak x).aC qG).aC λn=>if n then(t.aW ak x).aC fO else .f aA) (aN.a_ aD S x) (aN.a_ aD b x)|aD,.gQ d4 ed bZ b,x=>BI aD d4 bZ (eE ak x (ed.map .X)) (λe=>aN.a_ aD b e)|aD,.qF R b,x=>nO (λe=>(R.aW ak e).aC fO) (λe=>aN.a_ aD b e) tg x|aD,.nk,x=>.f .dx x|aD,.cont,x=>.f .gM x|aD,.jd,x=>.aU|aD,.pI b a,x=>jY (BJ (aN.a_ aD b x)) λe=>aN.a_ aD a e
def aN.a_:md->cK->aZ->b8 aZ fN
 |aD,[],x=>.f .dx x|aD,z::c1,x=>jY (aN.f7 aD z x) (λe=>aN.a_ aD c1 e)
end
end
section
variable {I:jv}{k:cg}{F bE bk Y Q:ar}{x:aZ}{n:b1}{aH:iX}{ak:fG}{O:Nat}{aD:md}{bf bo:gf}
theorem ace:hW I (o_ O) k aH x (rS x O):=by
 intro bE bk l F Y Q o c d a;unfold rS at a;split at a
 ·rename_i t e
  obtain⟨A,f,b,aR,h,j,g⟩:=da.vD c (vE e);obtain⟨v,rfl,n,m⟩:=xV j;unfold o_;rw[aR];refine a v F f b Y Q ?_ m h d;have:=g (oo I (aH O) i) (D v) F _ b (bx.fu _) trivial (hG _ λ_=>rfl)
  rwa[Bm,Bl aR]at this
 exact a.elim
theorem G3 {e:aZ}(d:da (eV I aH e) l F hE)(ok:dG bE bk F hE Q)(b:tQ I (pJ m e) k aH l bE bk o):cC I m k F Q (fF (gG I) Q o):=by
 cases m with
 |aU=>exact b|aT R=>exact λa4 ay X=>kN.i_ ok.1.2.2.1 (b a4 hE ay (d.bQ X.1) (ok.e9 X))|f t=>
  intro a4 ay X v a g h z A;have c:=ok.e9 X;have n:c4 a hE:=Fl ok.2.2.1 g;refine b v a4 a hE (aK a hE) ay (d.bQ X.1) A (fZ n) ⟨c.1,λN=>?_,λN A e=>?_,λN G=>?_,λN j G=>?_⟩
  ·unfold aK
   cases G:a N with
   |some p=>
    rcases h N with q |q
    ·exact .inl q
    ·rw[q]at G;cases G
   |none=>exact c.2.1 N
  ·unfold aK at e
   cases G:a N with
   |some p=>rw[G]at e;cases e;exact z _ _ G|none=>rw[G]at e;exact c.2.2.1 _ _ e
  ·unfold aK at G
   cases q:a N with
   |some p=>exact ok.1.2.2.1.cz (g N (by rw[q];exact fQ _))|none=>rw[q]at G;exact ok.2.2.2.1 N G
  ·unfold aK at G
   cases q:a N with
   |some p=>rw[q]at G;cases G;exact bC.mv A N j q|none=>rw[q]at G;exact ok.2.2.2.2 N j G
theorem rT (a:bC I t v F γ)(h:cQ γ hE Y)(c:dG bE bk F Y Q):bD I t v (aK F γ)/\bx F (aK F γ)/\dG bE bk (aK F γ) hE Q:=by
 obtain⟨S,b,R⟩:=OG (ab:=[t])  (⟨v,[],γ,λ_=>i,rfl,hi _ λ_=>rfl,a,yi⟩) h c
 obtain⟨d,e,E⟩:=cc.cW S;simp_all
theorem acf {A:hU}{E:b8 aZ aq}{g:aZ->b8 aZ aq}{cR:b1}(af:hW I n k aH x E)(ai:∀e,hW I cR k aH e (g e)):hW I (n9 (A.E I) n cR) k aH x (E.aC λt e=>(g e).aC λd aB=>pJ (A.w t d) aB):=by
 intro bE bk l F Y Q o w ok a;refine af bE bk l F Y Q _ w ok ?_;cases E with
 |aU=>exact a|aT R e=>exact a|f t e=>
  intro v bF P j aF aw y B h C;obtain⟨G,J,b⟩:=rT B h C;have c:cQ _ j j:=hG _ λ_=>rfl
  refine ai e _ _ l _ j aw _ (y.bQ J) (Og b c) ?_;dsimp only[b8.aC]at a;cases aB:g e with
  |aU=>rwa[aB]at a|aT R K=>
   rw[aB]at a;intro av ai a7 m p;obtain⟨z,_,q⟩:=vO b c p;exact GI b c (a av ai a7 m q)
  |f d K=>
   rw[aB]at a;intro L av S T U a7 m M N p;obtain⟨z,_,q⟩:=vO b c p;obtain⟨O,s,u⟩:=rT M N q;exact tP A t d v L _ a7 o u.1.2.1 (G.bQ (z.ct s)) O (G3 (m.bQ s) u a)
theorem acg {E:b8 aZ aq}(b:ak.dZ I)(af:hW I n k aH x E)(R:jZ):hW I (R.n I ak k n) k aH x (E.aC λt e=>yn ak R t e):=by
 intro bE bk l F Y Q o c ok a;rw[show R.n I ak k n l Q o=n l Q λv aw=>R.n I ak k (hy v) l aw o from by cases R<;>rfl]
 refine af bE bk l F Y Q _ c ok ?_;cases E with
 |f t e=>
  intro v bF w d aF aw g j h m;obtain⟨p,q,s⟩:=rT j h m;dsimp only[b8.aC]at a;unfold yn at a;split at a
  ·rename_i u
   obtain⟨X,aR⟩:=wK.mp u;have:=GK    b _ bE bk l _ d aw o (g.bQ q) s a;rwa[jZ.cf,aR,<- (qp aR p).1]at this
  exact a.elim |_=>exact a
theorem ach {E:b8 aZ aq}(af:hW I n k aH x E)(S:aq):hW I (w_ (hb (hy (S.gn.getD .a9)) (hb n ib))) k aH x (E.aC λt e=>pJ (.ea (S.gn.isSome=ag) (.f (.az .bb ([S,t].map .bM)))) e):=by
 intro bE bk l F Y Q o c ok a;refine af bE bk l F Y Q _ c ok ?_;cases E with
 |f t e=>
  intro v bF u w aF aw d g h j;obtain⟨m,p,b⟩:=rT g h j;obtain⟨G,q⟩:=(G3  (d.bQ p) b a).ea;obtain⟨X,aR⟩:=wK.mp G;refine⟨lR (show 2<=100000 by lia),λN s=>Bu q b.1.2.1 s ?_⟩
  refine⟨_,_,rfl,?_,_,_,rfl,m,rfl⟩;rw[aR];exact N4 (by cases S<;>first |exact aR |cases aR)|_=>exact a
theorem aci {E:b8 aZ aq}(af:hW I n k aH x E):hW I (u7 n) k aH x (E.aC λt e=>pJ ((fO t).aC λb=>.f (.aQ (!b))) e):=by
 intro bE bk l F Y Q o j ok c;refine af bE bk l F Y Q _ j ok ?_;cases E with
 |f t e=>
  intro v bF w y aF aw m p h q;obtain⟨s,u,d⟩:=rT p h q;have a:=G3  (m.bQ u) d c;have g:=bD.aK s;unfold fO at a;split at a
  ·rename_i b aB;rw[aB]at g;cases g.aQ;exact jS a d.1.2.1
  exact a.elim |_=>exact c
theorem OT {p:Bool}{E:b8 aZ aq}{g:aZ->b8 aZ aq}(af:hW I n k aH x E)(ai:∀e,hW I cR k aH e (g e)):hW I (match p with |true=>rj n cR |false=>s7 n cR) k aH x (E.aC λt e=>ym p t e (g e)):=by
 intro bE bk l F Y Q o w ok a;have j:n l Q (λX aw=>match X with |.aQ R=>cP (R == p) (o (.aQ p) aw) (cR l aw o)|_=>False):=by
  refine af bE bk l F Y Q _ w ok ?_;cases E with
  |aU=>exact a|aT R e=>exact a|f t e=>
   intro v bF B c aF aw m y h z;obtain⟨A,q,s⟩:=rT y h z;have u:=bD.aK A;have a:tQ I (ym p t e (g e)) k aH l bE bk o:=a;unfold ym fO at a;split at a
   ·rename_i b d
    split at d
    ·rename_i aB
     cases d;rw[aB]at u;cases u.aQ;refine⟨λG=>?_,λG=>?_⟩
     ·rw[if_pos (eq_of_beq G)]at a
      exact a (.aQ p) _ (λ_=>i) c c aw (m.bQ q) (by unfold bC;exact⟨λ_=>rfl,by unfold bD;rfl⟩) (hG _ λ_=>rfl) s
     ·rw[if_neg (ne_of_beq_false G)]at a
      exact ai e bE bk l _ c aw o (m.bQ q) s a
    ·cases d
   ·exact a.elim
 cases p with
 |true=>
  refine(show rj n cR l Q o from ?_)
  refine(show n l Q (λX aw=>match X with |.aQ R=>cP R (o (.aQ ag) aw) (cR l aw o)|_=>False)from ?_)
  have e:(λ(X:aS) (aw:ar)=>(match X with |.aQ R=>cP R (o (.aQ ag) aw) (cR l aw o)|_=>False:Prop))=λX aw=>match X with |.aQ R=>cP (R == ag) (o (.aQ ag) aw) (cR l aw o)|_=>False:=by
   funext X aw;cases X<;>first |rfl |(rename_i R;cases R<;>rfl)
  rw[e];exact j
 |false=>
  refine(show n l Q (λX aw=>match X with |.aQ R=>cP R (cR l aw o) (o (.aQ aA) aw)|_=>False)from ?_)
  have e:(λ(X:aS) (aw:ar)=>(match X with |.aQ R=>cP R (cR l aw o) (o (.aQ aA) aw)|_=>False:Prop))=λX aw=>match X with |.aQ R=>cP (R == aA) (o (.aQ aA) aw) (cR l aw o)|_=>False:=by
   funext X aw;cases X<;>first |rfl |(rename_i R;unfold cP;cases R<;>simp)
  rw[e];exact j
theorem dp.dB (a:ak.dZ I):∀(q:dp) (x:aZ),hW I (q.cf I ak k) k aH x (q.aW ak x)
 |.bh X,x=>GK a X|.ko O,x=>ace|.b0 w X aG,x=>abN (pD a aG x)|.eL b N m aG,x=>ab9 a b m N aG|.eS A N aG,x=>by
  cases aG with
  |nil=>exact ab8 a (OR A) N|cons S aG=>exact OQ a (OR A) N _
 |.aY A q G,x=>acf (dp.dB a q x) λe=>dp.dB a G e|.kX S q,x=>acg a (dp.dB a q x) S|.tk S q,x=>ach (dp.dB a q x) S|.rQ N C v,x=>acd a N C v|.not q,x=>aci (dp.dB a q x)|.or q G,x=>OT  (dp.dB a q x) λe=>dp.dB a G e|.and q G,x=>OT  (dp.dB a q x) λe=>dp.dB a G e
theorem acj {E:b8 aZ aq}(z:∀O,aD O=aA->aH O=i)(A:hW I n k aH x E):hH I (o2 n (FR I (vG is))) k aH x (BW aD is E):=by
 intro bE bk l F Y Q bB B ok c;refine A bE bk l F Y Q _ B ok ?_;cases E with
 |aU=>exact c|aT R e=>exact c l|f t e=>
  intro v bF U C af aw J K h L;obtain⟨g,M,w⟩:=rT K h L;have g:=bD.aK g;unfold BW at c;dsimp only[b8.aC]at c;split at c
  rotate_left
  ·exact c.elim
  rename_i j P
  split at c
  rotate_left
  ·exact c.elim
  rename_i d
  rw[P]at g;obtain⟨N,ae,rfl,y,E⟩:=g.az;obtain⟨m,o,p,s,u,rfl⟩:∃m o p s u,ae=[m,o,p,s,u]:=by
   obtain⟨S,b,rfl⟩:=kz (E.cn.symm.trans d.2);obtain⟨R,t,rfl⟩:=kz (fP (E.cn.symm.trans d.2));obtain⟨X,q,G,rfl⟩:=OK (fP (fP (E.cn.symm.trans d.2)));exact⟨_,_,_,_,_,rfl⟩
  cases aB:jt aD e is j with
  |none=>rw[aB]at c;exact c.elim|some V=>
   rw[aB]at c;exact⟨m,o,p,s,u,.of (w.1.2.1 _ _ y),Bs (d.2.trans d.1.symm) E λa T=>c _ _ C aw (GU z aB T (J.bQ M)) w⟩
theorem ack {E:b8 aZ aq}{c d:nh}(q:hW I n k aH x E)(s:∀e,hH I bf k aH e (c e))(u:∀e,hH I bo k aH e (d e)):hH I (s8 (lQ n) bf bo) k aH x (E.aC λt e=>pH e (fO t) (c e) (d e)):=by
 intro bE bk l F Y Q bB w ok a;refine q bE bk l F Y Q _ w ok ?_;cases E with
 |aU=>exact a|aT R e=>exact a l|f t e=>
  intro v bF B g af aw j y h z;obtain⟨A,m,o⟩:=rT y h z;have p:=bD.aK A;have a:pG I (pH e _ _ _) k aH bE bk bB:=a;unfold fO at a;split at a
  ·rename_i b aB
   rw[aB]at p;cases p.aQ;refine⟨λG=>?_,λG=>?_⟩
   ·subst G;exact s e bE bk l _ g aw bB (j.bQ m) o a
   subst G;exact u e bE bk l _ g aw bB (j.bQ m) o a
  exact a.elim
theorem acm {n:gf}{E:b8 aZ fN}(Y:hH I n jO aH x E):hH I n k aH x (BJ E):=by
 intro bE bk l F b Q bB c ok a;refine Y bE bk l F b Q bB c ok ?_;cases E with
 |aU=>exact a|aT R e=>exact a.elim|f S e=>cases S<;>exact a
theorem acn (aG:hF):(aG.map r.X).map r.n=aG:=by
 rw[gT];exact(sf λS _=>rfl).trans (wG _)
mutual
theorem aN.dB (c:ak.dZ I):∀(z:aN) {aD:md}{aH:iX}(a:∀O,aD O=aA->aH O=i) {k:cg}(x:aZ),hH I (z.cf I ak k) k aH x (aN.f7 ak aD z x)
 |.cp O q,aD,aH,a,k,x=>abP a (dp.dB c q x)|.tW is X,aD,aH,a,k,x=>acj a (GK c X)|.kY N y X,aD,aH,a,k,x=>ab5 c y N _|.rR N C X,aD,aH,a,k,x=>ab6 c N C X|.aT q,aD,aH,a,k,x=>abQ (dp.dB c q x)|.cG q,aD,aH,a,k,x=>abR (dp.dB c q x)|.tX,aD,aH,a,k,x=>abS|.ef R S b,aD,aH,a,k,x=>GS (xS (H.dB c R k x)) (aN.iK c S a x) (aN.iK c b a x)|.tZ R S b,aD,aH,a,k,x=>GS (OS (H.dB c R k x)) (aN.iK c S a x) (aN.iK c b a x)|.qE R t S b,aD,aH,a,k,x=>GS (XR (OS (H.dB c R k x)) (xS (H.dB c t k x))) (aN.iK c S a x) (aN.iK c b a x)|.tY R S b,aD,aH,a,k,x=>ack (dp.dB c R x) (aN.iK c S a) (aN.iK c b a)|.gQ d4 ed bZ b,aD,aH,a,k,x=>by
  have:=pD  (k:=k) (aH:=aH) c (ed.map .X) x;rw[acn]at this;exact abT a this (aN.iK c b a)
 |.qF R b,aD,aH,a,k,x=>abU tg (λe=>xS (H.dB c R k e)) (aN.iK c b a)|.nk,aD,aH,a,k,x=>OD|.cont,aD,aH,a,k,x=>abO|.jd,aD,aH,a,k,x=>λbE bk l F Y Q bB g h f=>f.elim|.pI b d,aD,aH,a,k,x=>by
  show hH I (sT _ (aN.et I ak k d)) k aH x _
  exact OE (acm (aN.iK c b a x)) (aN.iK c d a)
theorem aN.iK (b:ak.dZ I):∀(c1:cK) {aD:md}{aH:iX}(a:∀O,aD O=aA->aH O=i) {k:cg}(x:aZ),hH I (aN.et I ak k c1) k aH x (aN.a_ ak aD c1 x)
 |[],aD,aH,a,k,x=>OD|z::c1,aD,aH,a,k,x=>OE (aN.dB b z a x) (aN.iK b c1 a)
end
end
def aj (ab:bO)(O:Nat):Bool:=match ab[O]? with |some t=>!t.e9 |none=>aA
def mG:bO->aZ->bO
 |[],_=>[]|t::ab,A::x=>(if t.e9 then t else match A with |some eh=>eh |none=>.e4)::mG ab x|t::ab,[]=>(if t.e9 then t else .e4)::mG ab []
def cy (ak:fG)(y m:Nat)(body:cK):bY:=λab=>if ab.length=y then(match aN.a_ ak (aj ab) body (ab.map D++gy m i)with
 |.f (.eT t) x=>.f t (mG ab x)|.f .dx x=>.f .a9 (mG ab x)|.aT R x=>.aT R (mG ab x)|_=>.aU)else .aU
section
variable {I:jv}{k:cg}{F a4 Y Q:ar}{x:aZ}{aH:iX}{ak:fG}{l:L2.ck}
theorem OU:∀(m:Nat) {aH:iX}{Y:ar},da (eV I aH (gy m i)) (gy m i) F Y
 |0,aH,Y=>trivial|m+1,aH,Y=>by
  rw[DA,BV];exact⟨λ_=>i,Y,hG _ λ_=>rfl,trivial,OU m⟩
def yo (ab:bO)(a:bp):iX:=λO=>if aj ab O then a[O]? else i
theorem OV (m:Nat):∀{ab:bO}{a:bp}{Y:ar}{aH:iX},(∀(O:Nat) u,aH O=D u->a[O]?=D u)->bL I ab a F Y->da (eV I aH (ab.map D++gy m i)) (a.map D++gy m i) F Y
 |[],_,Y,aH,hw,V=>by
  rw[V.1];exact OU m
 |t::ab,_,Y,aH,hw,V=>by
  obtain⟨v,a,af,ai,rfl,h,A,E⟩:=V;rw[eW,zo,BV];exact⟨af,ai,h,Bn (λu G=>by have:=hw 0 u G;simpa using this) A,OV m (λO u G=>by have:=hw _ u G;simpa using this) E⟩
theorem yp:∀{ab:bO}{a:bp}{x:aZ}{l:L2.ck}{Y d:ar}{aH:iX},(∀(O:Nat) t,ab[O]?=D t->t.e9=aA->aH O=a[O]?)->bL I ab a F d->bx F a4->da (eV I aH x) l a4 Y->∃bw,bx bw Y/\bL I (mG ab x) a a4 bw
 |[],_,x,l,Y,d,aH,hw,V,z,b=>by
  unfold bL at V;rw[V.1];refine⟨λ_=>i,(λN A G=>by cases G),?_⟩
  unfold mG bL;exact⟨rfl,λ_=>rfl⟩
 |t::ab,_,[],l,Y,d,aH,hw,V,z,b=>by
  unfold bL at V;obtain⟨v,a,af,ai,rfl,h,f,E⟩:=V;obtain⟨bw,g,k⟩:=yp (x:=[]) (l:=l) (Y:=Y) (aH:=λO=>aH (O+1)) (λO eh e R=>by have:=hw (O+1) eh (by simpa using e) R;simpa using this) E z b
  refine⟨bw,g,?_⟩;unfold mG bL;refine⟨v,a,λ_=>i,bw,rfl,hG _ λ_=>rfl,?_,k⟩
  by_cases c:t.e9=ag
  ·rw[if_pos c]
   have:=f.bQ z;obtain⟨y,_⟩:=bC.e9 c this;have e:af=λ_=>i:=funext y
   rw[e]at this;exact this
  ·rw[if_neg c];exact ox λ_=>rfl
 |t::ab,_,A::x,[],Y,d,aH,hw,V,z,b=>by rw[BV]at b;exact b.elim
 |t::ab,_,A::x,X::l,Y,d,aH,hw,V,z,b=>by
  unfold bL at V;obtain⟨v,a,af,ai,rfl,h,f,E⟩:=V;rw[BV]at b;obtain⟨n,J,o,s,b⟩:=b;obtain⟨bw,g,k⟩:=yp (aH:=λO=>aH (O+1)) (λO eh e R=>by have:=hw (O+1) eh (by simpa using e) R;simpa using this) E z b
  have u:∀{m:ar},bx m n->c4 m bw:=λ{m} j N=>by
   rcases o.f_ N with G |G
   ·exact .inl (j.cz G)
   ·exact .inr (g.cz G)
  have w:∃R m,bx m n/\(if t.e9 then t else match A with |some eh=>eh |none=>.e4)=R/\bC I R v a4 m:=by
   by_cases c:t.e9=ag
   ·obtain⟨_,K⟩:=bC.e9 c f
    refine⟨t,λ_=>i,(λN A G=>by cases G),by rw[if_pos c],?_⟩
    have:=f.bQ z;obtain⟨y,_⟩:=bC.e9 c this;have e:af=λ_=>i:=funext y
    rw[e]at this;exact this
   ·have B:t.e9=aA:=by simpa using c
    rw[if_neg c];cases A with
    |none=>exact⟨.e4,λ_=>i,(λN A G=>by cases G),rfl,ox λ_=>rfl⟩|some eh=>
     obtain⟨L,aR,aB,b3⟩:=xV s;have:aH 0=D v:=by have:=hw 0 t (by simp) B;simpa using this
     have:=aB v this;subst this;exact⟨eh,n,bx.fu _,rfl,b3⟩
  obtain⟨R,m,j,ec,C⟩:=w;refine⟨aK m bw,λN A G=>?_,?_⟩
  ·unfold aK at G
   cases q:m N with
   |some p=>rw[q]at G;cases G;exact o.s _ _ (j _ _ q)|none=>rw[q]at G;exact o.E _ _ (g _ _ G)
  ·unfold mG;rw[ec]
   unfold bL;exact⟨v,a,m,bw,rfl,fZ (u j),C,k⟩
theorem OW (w:ak.dZ I) {y m:Nat}(z:bB.length=y+m):
  ∀a Q o k,f3 I (cy ak y m body) a Q o k->aN.et I ak k body {dx:=λ_ ay=>o .a9 ay,eT:=o} (L2.nC bB a) Q:=by
 rintro a Q o k ⟨F,Y,ab,B,C,E,c,b⟩;have J:=tT c;have K:=bL.cn c;unfold cy at b;split at b
 rotate_left
 ·exact b.elim
 rename_i L
 have M:L2.nC bB a=a.map D++gy m i:=by unfold L2.nC;rw[z,<- K,L,JN]
 rw[M];have P:∀O,aj ab O=aA->yo ab a O=i:=λO G=>by unfold yo;rw[G];rfl
 have s:∀(O:Nat) t,ab[O]?=D t->t.e9=aA->yo ab a O=a[O]?:=λO t e R=>by
  unfold yo aj;rw[e];simp[R]
 refine aN.iK w body P _ F (gm Q Y) _ F Y Q _ (OV m (λO u G=>by
  unfold yo at G;split at G
  ·exact G
  ·cases G) c) (vv B C E J) ?_
 cases e:aN.a_ ak (aj ab) body (ab.map D++gy m i)with
 |aU=>rw[e]at b;exact b|aT R x=>
  rw[e]at b;intro l a4 aF ay g ok;obtain⟨bw,d,j⟩:=yp s c ok.1.1 g;exact b a4 bw ay (xE ok d) j
 |f A x=>
  rw[e]at b;cases A with
  |dx=>
   intro l a4 aF ay g ok;obtain⟨bw,d,j⟩:=yp s c ok.1.1 g;exact b .a9 a4 bw ay (λ_=>i) bw (xE ok d) (hG _ λ_=>rfl) (qD λ_=>rfl) j
  |eT t=>
   intro v l a4 n ai aF ay g S h ok;obtain⟨bw,d,j⟩:=yp s c ok.1.1 g;have dy:c4 n bw:=λN=>by rcases h.f_ N with G |G;exact .inl G;exact .inr (d.cz G)
   refine b v a4 (aK n bw) ay n bw (xE ok λN A G=>?_) (fZ dy) S j
   unfold aK at G;cases q:n N with
   |some p=>rw[q]at G;cases G;exact h.s _ _ q|none=>rw[q]at G;exact h.E _ _ (d _ _ G)
  |gM=>exact b.elim|gU=>exact b.elim
end
noncomputable def hn (e:bV):Bool:=e.ctorIdx != 22
def mH:bV->Bool
 |.Call (.Name X _) [] [] _=>X != "super" |_=>ag
noncomputable def ik (e:bV):Bool:=e.ctorIdx != 5
noncomputable def yq (e:bV):Bool:=e.ctorIdx != 26
noncomputable def nQ (e:bV):Bool:=e.ctorIdx != 7
noncomputable def rU (e:bV):Bool:=e.ctorIdx<8 ||10<e.ctorIdx
noncomputable def OX (e:bV):Bool:=e.ctorIdx != 25
section
variable {x:PySem.Env}{e A:bV}{ax:fz}{pos fE:Pos}{m:Str}
theorem j0 (Y:hn e=ag):eH (e::ax) x=(aA,eval e x)::eH ax x:=by
 cases e<;>first |rfl |cases Y
theorem rV:∀{ax:fz},ax.all hn=ag->eH ax x=ax.map λe=>(aA,eval e x)
 |[],_=>rfl|e::ax,Y=>by
  rw[k9,cJ]at Y;rw[j0 Y.1,rV Y.2];rfl
theorem qH (Y:ax.all hn=ag):((iu pos (eH ax x)).any λX=>X.1)=aA:=by
 rw[rV Y];unfold iu;simp
theorem aco (Y:ax.all hn=ag):((iu pos (eH ax x)).all λX=>!X.1)=ag:=by
 rw[rV Y];unfold iu;simp
theorem vR (Y:mH A=ag):attributeBase A m x (eval A x)=eval A x:=by
 cases A with
 |Call w ax a V=>cases w with
  |Name id N=>cases ax with
   |nil=>cases a with
    |nil=>
     have Y:(id != "super")=ag:=Y;unfold attributeBase;simp_all
    |cons=>rfl
   |cons=>rfl
  |_=>rfl
 |_=>rfl
theorem OY (Y:ax.all hn=ag)(a:ax.length<29):methodCallForm (ax.length+([]:List Keyword).length) (iu pos (eH ax x)) (pU pos (pT [] x))=ag:=by
 unfold methodCallForm;rw[aco Y];simp[pT,pU];lia
theorem BX (Y:ax.all hn=ag)(a:ax.length<29):((((iu pos (eH ax x)).all λX=>!X.fst) && (pU pos (pT [] x)).all λX=>X.fst.isSome) && decide ((ax.length+([]:List Keyword).length+if([]:List Keyword).isEmpty=ag then 0 else 1)<30))=ag:=OY Y a
theorem acp (b:mH A=ag)(c:(fE.endLine == pos.line)=ag)(Y:ax.all hn=ag)(d:ax.length<29):eval (.Call (.Attribute A m fE) ax [] pos) x=(do
   let a <- eval A x
   standAt fE.atName
   let(w,first) <- holding [a] (getMethod a m (do return (<- importBound A x).getD ag))
   callWith pos w first (iu pos (eH ax x)) (pU pos (pT [] x))):=by
 have:eval (.Call (.Attribute A m fE) ax [] pos) x=(do
  let a <- attributeBase A m x _
  standAt _
  methodCall A m fE pos x a _ _ _):=rfl
 rw[this,vR b];unfold methodCall calleeOf methodCallPos;rw[(OY   Y d),c];simp
theorem OZ (Y:yq e=ag):Lj e:=λ_ _=>by
 cases e<;>first |rfl |cases Y
theorem vS {a:CmpOp}(Y:nQ e=ag):behindInMarks a e=aA:=by
 cases e<;>first |rfl |cases Y
theorem G4 (Y:nQ e=ag)(X:bq):foldedSetIterable e x X=pure X:=by
 cases e<;>first |rfl |cases Y
theorem G5 (Y:rU e=ag)(n:oU)(y:Nat):swapsWith e n y x=pure aA:=by
 cases e<;>first |rfl |cases Y
theorem acq (Y:OX e=ag):swappedStores [bZ] e x=pure i:=by
 cases bZ<;>first |rfl |(cases e<;>first |rfl |cases Y)
theorem acr {A O:bV}:swappedStores [.Subscript A O N] e x=pure i:=by
 unfold swappedStores;rfl
noncomputable def BY:bV->Bool
 |.UnaryOp .Not ..=>aA |.BoolOp ..=>aA |.IfExp ..=>aA |.Compare ..=>aA |_=>ag
theorem G6 (Y:BY e=ag)(a:Sem bq):isTrue e x a=(do let v <- a;standAt e.pos;holding [v] (truthy v)):=by
 cases e with
 |UnaryOp b S N=>cases b<;>first |rfl |cases Y
 |_=>first |rfl |cases Y
end
structure gr where
 bB:c_
 cV:uN
structure pK where
 c6:c_
 o5:c_
 vT:n5
structure pK.dZ (T:pK)(ak:fG)(I:cO)(a6:e2):Prop where
 c6:∀X∈T.c6,a6 X=i
 cls:∀R∈ak.dg,mi I (dz I R)
 o5:∀R∈ak.dg,∀S∈T.o5,qb I (dz I R) S
 vT:∀V∈T.vT,u9 a6 V.1 V.2
 m9:∀V∈ak.m9,u9 a6 V.1 (.a0 (dz I V.1))
 aT:∀X∈ak.aT,u9 a6 X (.a0 (dz I X))
inductive js where
 |b0 (w:bY) (X:Str)|jn (w:bY) (R:Str)|eL (m:Str) (R:Str) (w:bY)|G7 |acs (X:Str) (a:List (List Nat×List aS))|acu (w:bY) (X:Str)
abbrev oz:=List js
def js.Q (P:dk)(p:cN)(I:cO)(a6:e2)(bj:Heap)(C:Nat):js->Prop
 |.b0 w X=>∃aJ h,h<=C/\AF P p I a6 bj fv h X aJ (f3 I w)|.jn w R=>∃aJ h,h+1<=C/\tv P p I a6 bj fv h R (dz I R) aJ (f3 I w)|.eL m R w=>∃aJ h,h<=C/\qm P p I a6 bj fv h (dz I R) m aJ (f3 I w)|.G7=>qn I|.acs X a=>ZO p I X a/\a6 X=D (.ref (dz I X))|.acu w X=>∃aJ h,h<=C/\Xr P p I a6 bj h X aJ (f3 I w)
noncomputable def ou.acv:ou->oz
 |.m1 _ _=>[.G7]|.qu=>[]
mutual
def H.dd:H->oz
 |.v _=>[]|.C _=>[]|.fI _ _=>[]|.hV _ _=>[]
 |.aY _ S b=>S.dd++b.dd|.ke _ _ S b R=>S.dd++(b.dd++R.dd)|.and S b=>S.dd++b.dd|.or S b=>S.dd++b.dd|.not S=>S.dd|.cM S=>S.dd|.jU R S b=>R.dd++(S.dd++b.dd)|.sl S a8 aE=>S.dd++(H.vU a8++H.vU aE)|.bb aG=>H.fC aG|.aM aG=>H.fC aG|.dh S _=>S.dd|.b0 w X aG=>.b0 w X::H.fC aG|.dX _ aG=>H.fC aG|.eA _ S aG=>S.dd++H.fC aG|.ek _ _ _ ed _ R e=>H.fC ed++(H.vU R++e.dd)|.jn w R aG=>.jn w R::H.fC aG|.eL a S m aG=>a.map (λV=>.eL m V.1 V.2)++(S.dd++H.fC aG)|.au aJ=>H.fC aJ|.hD S=>S.dd|.pw S b=>S.dd++b.dd|.m_ A S=>A.acv++S.dd|.kn S _=>S.dd|.ov=>[]|.px _ _ _ S b R t=>(S.dd++b.dd)++(R.dd++t.dd)
def H.fC:hF->oz
 |[]=>[]|S::aG=>S.dd++H.fC aG
def H.vU:kU->oz
 |none=>[]|some S=>S.dd
end
noncomputable def O0:Option n0->Bool
 |some .local=>ag |some .cell=>ag |some .free=>ag |_=>aA
noncomputable def O1:Option n0->Bool
 |some .local=>ag |some .cell=>ag |_=>aA
def O2 (X:Str):Bool:=!(X=="__debug__") && !(X=="__classdict__")
def lz (R:gr)(X:Str):Bool:=R.cV.lookup X==D .globalImplicit && !(X=="__debug__")
def G8 (t:aq):Const->Bool
 |.int O=>(match t with |.c h=>O == h |_=>aA)|.bool b=>(match t with |.aQ R=>b == R |_=>aA)|.none=>(match t with |.a9=>ag |_=>aA)|.str X=>(match t with |.d s=>X.cps.toList == s |_=>aA)|_=>aA
noncomputable def hU.w5:hU->Option Operator
 |.dA=>D .Add |.kT=>D .Sub |.mE=>D .Mult |.es=>D .Mod |.jc=>D .FloorDiv |_=>i
noncomputable def hU.rW:hU->wX
 |.iy=>D .Lt |.fB=>D .LtE |.hV=>D .Gt |.vL=>D .GtE |.fH=>D .Eq |.ne=>D .NotEq |.is=>D .Is |.rH=>D .IsNot |.ps=>D .In |.BA=>D .NotIn |_=>i
noncomputable def hU.O3:hU->Bool
 |.fq=>ag |_=>aA
noncomputable def pv.cV:pv->Str
 |.cn => "len" |.d9 => "list" |.min => "min" |.d => "str" |.all => "all" |.vM => "sorted" |.c => "int" |.tN => "sorted"
noncomputable def kj.cV:kj->Str
 |.iJ => "join" |.split => "split" |.find => "find" |.index => "index" |.vN => "partition" |.rI => "rpartition"
noncomputable def G9:String->Option Str
 |"int" => D "int" |"bool" => D "bool" |"str" => D "str" |"list" => D "list" |"tuple" => D "tuple" |"dict" => D "dict" |_=>i
def qI (cV a:uN):List (Str×n0):=a.map λ(y,C)=>if C == .free && cV.lookup y == D .cell then(y,.cell)else(y,C)
def t2 (R:gr)(O:Nat):bV->Bool
 |.Name X _=>R.bB[O]? == D X && O1 (R.cV.lookup X)|_=>aA
def yr (R:gr):List Nat->fz->Bool
 |[],[]=>ag|O::is,e::ax=>t2 R O e && yr R is ax|_,_=>aA
def vV (R:gr)(g:kl)(e:bV):Bool:=match g.bb,e with
 |true,.Tuple ax _ _=>yr R g.is ax|false,e=>g.is.length == 1 && t2 R (g.is.headD 0) e|_,_=>aA
def O4 (R:gr)(g:kl):Bool:=g.is.all λO=>match R.bB[O]? with |some X=>R.cV.lookup X == D .local |none=>aA
def G_ (R:gr)(a:Scope)(b2:c_)(bN:jJ):Bool:=
 a.names.all (λq=>q.2 != .cell && (q.2 != .free ||R.cV.lookup q.1 == D .cell ||R.cV.lookup q.1 == D .free) && (q.2 != .local ||a.names.lookup q.1 == D .local)) && a.kind == .function &&
 bN.all (λV=>R.bB[V.2]? == D V.1 && a.names.contains (V.1,NameKind.free) && (R.cV.lookup V.1 == D .cell ||R.cV.lookup V.1 == D .free) && ((qI R.cV a.names).lookup V.1 == D .cell ||(qI R.cV a.names).lookup V.1 == D .free)) && decide (ig b2 bN).Nodup
noncomputable def hX:fz->(bV->fz->Bool)->Bool
 |S::s,C=>C S s |[],_=>aA
def ho {N:Prop}[Decidable N](w:N->Bool):Bool:=if Y:N then w Y else aA
theorem hY {N:Prop}[Decidable N]{w:N->Bool}{aO:Prop}(Y:ho w=ag)(Q:N->aO):aO:=by
 unfold ho at Y;grind
def nq (e:bV)(C:Str->Bool):Bool:=ho λO=>Expr.Name.elim e O λX _=>C X
def l1 (e:bV)(C:bV->fz->Pos->Bool):Bool:=ho λO=>Expr.Call.elim e O λw ax a V=>a.isEmpty && C w ax V
def qJ (e:bV)(C:bV->Str->Pos->Bool):Bool:=ho λO=>Expr.Attribute.elim e O λA m N=>C A m N
def Ha (e:bV)(C:bV->Operator->bV->Bool):Bool:=ho λO=>Expr.BinOp.elim e O λs A E _=>C s A E
def ys (e:bV)(C:bV->List CmpOp->fz->Bool):Bool:=ho λO=>Expr.Compare.elim e O λs A E _=>C s A E
def vW (e:bV)(C:bV->bV->Bool):Bool:=ho λO=>Expr.Subscript.elim e O λs E _=>C s E
def Hb (e:bV)(C:oU->oU->oU->Bool):Bool:=ho λO=>Expr.Slice.elim e O λS b R _=>C S b R
def vX (e:bV)(C:UnaryOp->bV->Bool):Bool:=ho λO=>Expr.UnaryOp.elim e O λA X _=>C A X
def O5 (e:bV)(C:bV->bV->bV->Bool):Bool:=ho λO=>Expr.IfExp.elim e O λn X q _=>C n X q
def eO (e:bV)(C:zU):Bool:=ho λO=>Expr.Tuple.elim e O λax _ _=>C ax
def O6 (e:bV)(C:zU):Bool:=ho λO=>Expr.List.elim e O λax _=>C ax
def t5 (e:bV)(C:Const->Bool):Bool:=ho λO=>Expr.Constant.elim e O λR _ _=>C R
def O7 (e:bV)(C:bV->List Comprehension->Scope->Bool):Bool:=ho λO=>Expr.ListComp.elim e O λX g z _=>C X g z
def O8 (e:bV):Bool:=ho λO=>Expr.Dict.elim e O λS b _=>S.isEmpty && b.isEmpty
def O9 (e:bV)(C:zU):Bool:=ho λO=>Expr.JoinedStr.elim e O λax _=>C ax
def O_ (e:bV)(C:bV->Int->oU->Bool):Bool:=ho λO=>Expr.FormattedValue.elim e O λX y w _=>C X y w
def vY (A:BoolOp)(e:bV)(C:bV->bV->Bool->Bool):Bool:=ho λO=>Expr.BoolOp.elim e O λb3 ax N=>b3 == A && hX ax λX ax=>hX ax λq s=>C X (bif s.isEmpty then q else .BoolOp A (q::s) N) s.isEmpty
section
variable {e:bV}{aO:bV->Prop}
theorem hZ {s:fz}{aO:fz->Prop}{C}(Y:hX s C=ag)(Q:∀S n,C S n=ag->aO (S::n)):aO s:=by cases s with |nil=>cases Y |cons S n=>exact Q S n Y
theorem nR {C}(Y:nq e C=ag)(Q:∀X N,C X=ag->aO (.Name X N)):aO e:=hY Y λO=>Expr.Name.elim  e O Q Y
theorem mI {C}(Y:l1 e C=ag)(Q:∀w ax V,C w ax V=ag->aO (.Call w ax [] V)):aO e:=hY Y λO=>Expr.Call.elim  e O (λw ax a V Y=>by cases a with |nil=>exact Q w ax V Y |cons=>cases Y) Y
theorem rX {C}(Y:qJ e C=ag)(Q:∀A m N,C A m N=ag->aO (.Attribute A m N)):aO e:=hY Y λO=>Expr.Attribute.elim  e O Q Y
theorem Pa {C}(Y:Ha e C=ag)(Q:∀s A E N,C s A E=ag->aO (.BinOp s A E N)):aO e:=hY Y λO=>Expr.BinOp.elim  e O Q Y
theorem BZ {C}(Y:ys e C=ag)(Q:∀s A E N,C s A E=ag->aO (.Compare s A E N)):aO e:=hY Y λO=>Expr.Compare.elim  e O Q Y
theorem yt {C}(Y:vW e C=ag)(Q:∀s E N,C s E=ag->aO (.Subscript s E N)):aO e:=hY Y λO=>Expr.Subscript.elim  e O Q Y
theorem Pb {C}(Y:Hb e C=ag)(Q:∀S b R N,C S b R=ag->aO (.Slice S b R N)):aO e:=hY Y λO=>Expr.Slice.elim  e O Q Y
theorem B0 {C}(Y:vX e C=ag)(Q:∀A X N,C A X=ag->aO (.UnaryOp A X N)):aO e:=hY Y λO=>Expr.UnaryOp.elim  e O Q Y
theorem acw {C}(Y:O5 e C=ag)(Q:∀n X q N,C n X q=ag->aO (.IfExp n X q N)):aO e:=hY Y λO=>Expr.IfExp.elim  e O Q Y
theorem Hc {C}(Y:eO e C=ag)(Q:∀ax y N,C ax=ag->aO (.Tuple ax y N)):aO e:=hY Y λO=>Expr.Tuple.elim  e O Q Y
theorem acx {C}(Y:O6 e C=ag)(Q:∀ax N,C ax=ag->aO (.List ax N)):aO e:=hY Y λO=>Expr.List.elim  e O Q Y
theorem yu {C}(Y:t5 e C=ag)(Q:∀R y N,C R=ag->aO (.Constant R y N)):aO e:=hY Y λO=>Expr.Constant.elim  e O Q Y
theorem acy {C}(Y:O7 e C=ag)(Q:∀X g z N,C X g z=ag->aO (.ListComp X g z N)):aO e:=hY Y λO=>Expr.ListComp.elim  e O Q Y
theorem acz (Y:O8 e=ag)(Q:∀N,aO (.Dict [] [] N)):aO e:=hY Y λO=>Expr.Dict.elim  e O (λS b N Y=>by cases S<;>cases b<;>first |exact Q N |cases Y) Y
theorem acA {C}(Y:O9 e C=ag)(Q:∀ax N,C ax=ag->aO (.JoinedStr ax N)):aO e:=hY Y λO=>Expr.JoinedStr.elim  e O Q Y
theorem acB {C}(Y:O_ e C=ag)(Q:∀X y w N,C X y w=ag->aO (.FormattedValue X y w N)):aO e:=hY Y λO=>Expr.FormattedValue.elim  e O Q Y
theorem yv {A:BoolOp}{C}(Y:vY A e C=ag)(Q:∀X q s N,C X (bif s.isEmpty then q else .BoolOp A (q::s) N) s.isEmpty=ag->aO (.BoolOp A (X::q::s) N)):aO e:=hY Y λO=>Expr.BoolOp.elim  e O (λb3 ax N Y=>by
 have Y:=lJ.mp Y;cases eq_of_beq Y.1;exact hZ (aO:=λs=>aO (.BoolOp A s N)) Y.2 λX n Y=>hZ (aO:=λs=>aO (.BoolOp A _ N)) Y λq s Y=>Q X q s N Y) Y
end
noncomputable def iZ.Pc:iZ->Bool
 |.dw=>ag |_=>aA
noncomputable def iZ.cV:iZ->Str
 |.rJ => "enumerate" |.zip => "zip" |_ => "range"
noncomputable def iZ.acC:iZ->Nat
 |.bW=>2 |.zip=>2 |_=>1
noncomputable def iZ.Pd:iZ->Bool
 |.rJ=>ag |.zip=>ag |_=>aA
section
variable (T:pK)(ak:fG)
def B1 (R:gr)(d4:iZ)(bZ:kl)(a:bV)(b:Bool)(c:zU):Bool:=bif d4.Pc then b else
 l1 a λw ax _=>nq w λq=>q == d4.cV && ax.length == d4.acC && lz R q && T.c6.contains q && (bZ.bb || !d4.Pd) && c ax
mutual
def dY:gr->H->bV->Bool
 |R,.v O,e=>nq e λX=>R.bB[O]? == D X && O0 (R.cV.lookup X) && O2 X|R,.C t,e=>t5 e (G8 t)|R,.fI X t,e=>nq e λq=>X == q && lz R X && (t.gn).any λv=>T.vT.contains (X,v)|R,.hV X P,e=>nq e λq=>X == q && lz R X && ak.m9.any (λV=>V.1 == X)| R,.aY A S b,e=>Ha e (λs l E=>A.w5 == D l && dY R S s && dY R b E)||
   (ys e (λs a c=>hX c λE n=>a.map D == [A.rW] && n.isEmpty && nQ E && dY R S s && dY R b E)||
   vW e (λs E=>A.O3 && yq E && dY R S s && dY R b E))
 |R,.ke A b3 S b t,e=>ys e λs a c=>hX c λE n=>hX n λf g=>a.map D == [A.rW,b3.rW] && g.isEmpty && nQ f && dY R S s && dY R b E && dY R t f|R,.and S b,e=>vY .And e λX q s=>ik X && (!s ||ik q) && dY R S X && dY R b q|R,.or S b,e=>vY .Or e λX q s=>ik X && (!s ||ik q) && dY R S X && dY R b q|R,.not S,e=>vX e λA X=>A == .Not && ik X && dY R S X|R,.cM S,e=>vX e λA X=>A == .USub && dY R S X|R,.jU t S b,e=>O5 e λn X q=>ik n && dY R t n && dY R S X && dY R b q|R,.sl S a8 aE,e=>vW e λs E=>Hb E λo x z=>z.isNone && dY R S s && Hd R a8 o && Hd R aE x|R,.bb aG,e=>eO e (j3 R aG)|R,.aM aG,e=>O6 e (j3 R aG)|R,.dh S w,e=>qJ e λA B _=>w == B && T.o5.contains w && mH A && dY R S A|R,.b0 w X aG,e=>l1 e λq ax _=>nq q λq=>X == q && lz R X && j3 R aG ax|R,.dX A aG,e=>l1 e λq ax _=>nq q λq=>q == A.cV && lz R q && T.c6.contains q && !aG.isEmpty && j3 R aG ax|R,.eA A S aG,e=>l1 e λE ax V=>qJ E λE m N=>m == A.cV && mH E && N.endLine == V.line && decide (ax.length<29) && !aG.isEmpty && dY R S E && j3 R aG ax| R,.ek b2 bN d4 ed bZ t X,e=>O7 e λiV h d=>h.length == 1 && h.all λV=>V.is_async == 0 && G_ R d b2 bN && vV ⟨ig b2 bN,qI R.cV d.names⟩ bZ V.target && O4 ⟨ig b2 bN,qI R.cV d.names⟩ bZ && nQ V.iter &&
   B1 T R d4 bZ V.iter (yw R ed V.iter) (λax=>j3 R ed ax) && He ⟨ig b2 bN,qI R.cV d.names⟩ t V.ifs && dY ⟨ig b2 bN,qI R.cV d.names⟩ X iV
 |R,.jn w C aG,e=>l1 e λq ax _=>nq q λq=>C == q && lz R q && j3 R aG ax|R,.eL Q S m aG,e=>l1 e λE ax V=>qJ E λE F N=>m == F && mH E && N.endLine == V.line && decide (ax.length<29) && dY R S E && j3 R aG ax|R,.au aJ,e=>O9 e λax=>!ax.tail.isEmpty && B2 R aJ ax|R,.hD S,e=>O_ e λX y w=>y == -1 && w.isNone && dY R S X|R,.m_ A S,e=>(match A with
  |.m1 s m=>l1 e λE ax V=>qJ E λE y N=>hX ax λX n=>hX n λq n=>y=="replace" && n.isEmpty && mH E && N.endLine==V.line && t5 X (λG=>G==.str ⟨#[s]⟩) && t5 q (λG=>G==.str ⟨#[m]⟩) && dY R S E|.qu=>vW e λs E=>Hb E λI J K=>I.isNone && J.isNone && K.any (λu=>vX u λA p=>A == .USub && t5 p λG=>G == .int 1) && dY R S s)
 |R,.pw S b,e=>l1 e λq ax _=>nq q λq=>hX ax λE n=>l1 E λG j _=>nq G λG=>hX j λX eJ=>hX eJ λp cR=>q=="list" && G=="range" && n.isEmpty && cR.isEmpty && lz R q && lz R G && T.c6.contains q && T.c6.contains G && hn X && hn p && dY R S X && dY R b p|R,.kn S y,e=>l1 e λq ax _=>nq q λq=>hX ax λX n=>hX n λG cR=>nq G λG=>q=="isinstance" && cR.isEmpty && lz R q && T.c6.contains q && hn X && G9 y==D G && lz R G && T.c6.contains G && dY R S X|_,.ov,e=>O8 e|R,.px A b3 L S b t w,e=>ys e λs a c=>hX c λE n=>hX n λf g=>hX g λk M=>a.map D == [A.rW,b3.rW,L.rW] && M.isEmpty && nQ k && dY R S s && dY R b E && dY R t f && dY R w k
def yw:gr->hF->bV->Bool
 |_,[],_=>aA|R,S::aG,e=>aG.isEmpty && dY R S e
def j3:gr->hF->fz->Bool
 |_,[],ax=>ax.isEmpty|R,S::aG,ax=>hX ax λe ax=>hn e && dY R S e && j3 R aG ax
def Hd:gr->kU->oU->Bool
 |_,i,e=>e.isNone|R,D S,e=>e.any (dY R S)
def He:gr->kU->fz->Bool
 |_,i,ax=>ax.isEmpty|R,D S,ax=>hX ax λe n=>n.isEmpty && ik e && dY R S e
def B2:gr->hF->fz->Bool
 |_,[],ax=>ax.isEmpty|R,S::aG,ax=>hX ax λe ax=>dY R S e && B2 R aG ax
end
end
structure yx (Z:bU)(R:gr):Prop where
 bB:Z.bB=R.bB
 cV:Z.x.scope.names=R.cV
 hP:Z.x.scope.kind=.function
theorem Hf {H:bU}:ml fv H k:=λ_ _ _ _ _ _ _ Y=>Y.elim
structure i1 (Z:bU)(R:gr)(C:Nat)(k:cg):Prop extends yx Z R where
 fD:Z.fD=ag
 qK:gD C Z.r
 nk:ml fv Z k
 cells:∀X,(R.cV.lookup X=D .cell\/R.cV.lookup X=D .free)->∃S,Z.x.cells.lookup X=D S
section
variable {Z:bU}{R:gr}{C:Nat}{k:cg}{X m:Str}{e A:bV}{ax:fz}{n:b1}{bG:fY}{N pos fE:Pos}
theorem i1.oA (g:i1 Z R C k):Z.r.units+60<cLine:=by have:=g.qK.aK;lia
theorem acD (g:yx Z R)(Y:O0 (R.cV.lookup X)=ag):uS Z.x.scope X:=by
 unfold uS;rw[g.cV]
 revert Y;cases R.cV.lookup X with
 |none=>intro Y;cases Y
 |some C=>cases C<;>intro Y<;>first |exact .inl rfl  |trivial
theorem Pe (g:yx Z R)(Y:O1 (R.cV.lookup X)=ag):L2.uT Z.x.scope X:=by
 unfold L2.uT;rw[g.cV]
 revert Y;cases R.cV.lookup X with
 |none=>intro Y;cases Y
 |some C=>cases C<;>intro Y<;>first |exact .inl rfl |exact .inr rfl |cases Y
theorem oB (g:yx Z R)(Y:lz R X=ag):i6 Z X/\(X==("__debug__":Str))=aA:=by
 unfold lz at Y;rw[cJ]at Y;refine⟨?_,by simpa using Y.2⟩
 unfold i6 D4;rw[g.cV];exact eq_of_beq Y.1
structure eg (Z:bU)(e:bV)(n:b1):Prop where
 di:bu Z e n
 ll:ik e=ag->hR Z e (lQ n)
 Pf:∀b a N,e=.BoolOp b a N->oY Z e (lQ n)
theorem gH (Y:bu Z e n)(b:BY e=ag):eg Z e n:=⟨Y,λ_=>WH Y (G6 b),λc a N G=>by rw[G]at b;cases b⟩
theorem acE (Y:bu Z e n)(b:ik e=aA):eg Z e n:=⟨Y,(λG=>by grind),(λc a N G=>by rw[G]at b;cases b)⟩
theorem Pg {a:CmpOp}{E:ez}(c:dF Z (e0 a) E)(d:eg Z S eJ)(e:eg Z b cR)(f:nQ b=ag):eg Z (.Compare S [a] [b] pos) (n9 E eJ cR):=
 ⟨WJ c d.di e.di (vS f),λ_=>WI c d.di e.di (vS f),λ_ _ _ G=>by cases G⟩
theorem acF {a c:CmpOp}{E d:ez}(e:dF Z (e0 a) E)(f:dF Z (e0 c) d)(g:eg Z S eJ)(h:eg Z b cR)(j:eg Z t t3)(k:nQ t=ag):eg Z (.Compare S [a,c] [b,t] pos) (xj E d eJ cR t3):=
 ⟨WL e f g.di h.di j.di (vS k),λ_=>WM e f g.di h.di j.di (vS k),λ_ _ _ G=>by cases G⟩
theorem B3 {b:BoolOp}(Y:bu Z (.BoolOp b a pos) n)(ai:oY Z (.BoolOp b a pos) (lQ n)):eg Z (.BoolOp b a pos) n:=⟨Y,λ_=>ai.ll,λ_ _ _ _=>ai⟩
theorem Ph (a:eg Z S eJ)(c:eg Z b cR)(d:ik S=ag)(e:ik b=ag):eg Z (.BoolOp .And [S,b] pos) (s7 eJ cR):=
 B3 (LJ a.di (KL c.di)) (E1 (a.ll d) (KJ (c.ll e)))
theorem Pj {E:fz}(a:eg Z S eJ)(c:eg Z (.BoolOp .And (b::t::E) pos) cR)(d:ik S=ag):eg Z (.BoolOp .And (S::b::t::E) pos) (s7 eJ cR):=
 B3 (LJ a.di c.di) (E1 (a.ll d) (c.Pf _ _ _ rfl))
theorem Pk (a:eg Z S eJ)(c:eg Z b cR)(d:ik S=ag)(e:ik b=ag):eg Z (.BoolOp .Or [S,b] pos) (rj eJ cR):=
 B3 (LK a.di (KL c.di)) (LL (a.ll d) (Ub (c.ll e)))
theorem Pl {E:fz}(a:eg Z S eJ)(c:eg Z (.BoolOp .Or (b::t::E) pos) cR)(d:ik S=ag):eg Z (.BoolOp .Or (S::b::t::E) pos) (rj eJ cR):=
 B3 (LK a.di c.di) (LL (a.ll d) (c.Pf _ _ _ rfl))
theorem Pm (a:eg Z S eJ)(b:ik S=ag):eg Z (.UnaryOp .Not S pos) (u7 eJ):=
 ⟨WG a.di,λ_=>Uc (a.ll b),λ_ _ _ G=>by cases G⟩
theorem Pn {b:hU}{a:Operator}(Y:b.w5=D a):dF Z (ky a) (b.E Z.I):=by
 cases b<;>cases Y
 ·exact aa_
 ·exact Ws
 ·exact Yd
 ·exact Wt
 exact X9
theorem t6 (a:Z.r.units+60<cLine){b:hU}{c:CmpOp}(Y:b.rW=D c):dF Z (e0 c) (b.E Z.I):=by
 cases b<;>cases Y
 ·exact Wu
 ·exact Wv
 ·exact Ww
 ·exact Wx
 ·exact Zs a
 ·exact Zu a
 ·exact WA
 ·exact WB
 ·exact aaH a
 exact aaI a
theorem acG {a:Const}(Y:G8 t a=ag):bu Z (.Constant a h pos) (hy (t.gn.getD .a9)):=by
 cases a with
 |int O=>cases t<;>first |(cases eq_of_beq Y;exact KI)|cases Y
 |bool b=>cases t<;>first |(cases eq_of_beq Y;exact T6)|cases Y
 |none=>cases t<;>first |exact T7 |cases Y
 |str G=>cases t<;>first |(have Y:=eq_of_beq Y;subst Y;exact Wq (by cases (G);rfl))|cases Y
 |_=>cases Y
theorem Po {cx:gW}(F:AF Z.cu Z.p Z.I Z.a6 Z.bj fv h X aJ cx)(f:gD h Z.r)(g:ml fv Z k)(m:gV Z ax bG)(a:ax.all hn=ag)(j:i6 Z X)(l:(X==("__debug__":Str))=aA)(n:ax=[]->bG=ib):
  bu Z (.Call (.Name X N) ax [] pos) (rd cx [] k bG):=by
 cases ax with
 |nil=>
  rw[n rfl];obtain⟨w,bP,F,b,c,d⟩:=F;exact Vh F f j b c d .nil g l
 |cons e ax=>
  rw[k9,cJ]at a;obtain⟨w,bP,F,b,c,d⟩:=F;exact Vg F f j b c d .nil g m l (j0 a.1) (qH a.2)
theorem acH {cx:gW}(F:tv Z.cu Z.p Z.I Z.a6 Z.bj fv h X aO aJ cx)(f:gD (h+1) Z.r)(g:ml fv Z k)(m:gV Z ax bG)(a:ax.all hn=ag)(j:i6 Z X)(l:(X==("__debug__":Str))=aA)(n:ax=[]->bG=ib):
  bu Z (.Call (.Name X N) ax [] pos) (u1 aO cx [] k bG):=by
 cases ax with
 |nil=>
  rw[n rfl];obtain⟨w,bP,F,b,c,d⟩:=F;exact Vn b F f j c d .nil g l
 |cons e ax=>
  rw[k9,cJ]at a;obtain⟨w,bP,F,b,c,d⟩:=F;exact Vm b F f j c d .nil g m l (j0 a.1) (qH a.2)
theorem acI {cx:gW}(F:qm Z.cu Z.p Z.I Z.a6 Z.bj fv h aO m aJ cx)(d:gD h Z.r)(f:ml fv Z k)(g:bu Z A n)(l:gV Z ax bG)(b:ax.all hn=ag)(a:mH A=ag)(o:(fE.endLine == pos.line)=ag)(p:ax.length<29)(q:ax=[]->bG=ib):
  bu Z (.Call (.Attribute A m fE) ax [] pos) (Ad aO m cx [] k n bG):=by
 have j:=acp (x:=Z.x) (m:=m) a o b p;cases ax with
 |nil=>
  rw[q rfl];obtain⟨w,bP,F,R,c,a⟩:=F;exact Vj g R c F d a .nil f j
 |cons e ax=>
  rw[k9,cJ]at b;obtain⟨w,bP,F,R,c,a⟩:=F;exact Vi g R c F d a .nil f l (j0 b.1) (qH b.2) j
theorem acJ (g:i1 Z R C k){b:pv}(a:Z.a6 b.cV=i)(f:gV Z ax bG)(l:ax.all hn=ag)(m:ax≠[])(n:lz R b.cV=ag):bu Z (.Call (.Name b.cV N) ax [] pos) (lO (b.E Z.I) bG):=by
 obtain⟨h,j⟩:=oB g.toyx n;cases ax with
 |nil=>exact absurd rfl m|cons e ax=>
  rw[k9,cJ]at l;have bf:=j0 (x:=Z.x) (ax:=ax) l.1;have bo:=qH (x:=Z.x) (pos:=pos) l.2;cases b with
  |cn=>exact u_ aaJ a f h rfl (by decide) j bf bo|d9=>exact xl "list" (abf g.fD) a f h rfl (by decide) j bf bo|min=>exact u_ (WT g.fD) a f h rfl (by decide) j bf bo|d=>exact xl "str" Xe a f h rfl (by decide) j bf bo|all=>exact u_ (Xu g.fD) a f h rfl (by decide) j bf bo|vM=>exact u_ (abh g.fD) a f h rfl (by decide) j bf bo|c=>exact xl "int" Yl a f h rfl (by decide) j bf bo|tN=>exact u_ (Yw Ys) a f h rfl (by decide) j bf bo
theorem Pp {b:kj}(a:bu Z A n)(c:gV Z ax bG)(g:ax.all hn=ag)(h:mH A=ag)(d:(fE.endLine==pos.line)=ag)(j:ax.length<29)(k:ax≠[]):bu Z (.Call (.Attribute A b.cV fE) ax [] pos) (qe Z.I "str" (b.E Z.I) n bG):=by
 cases ax with
 |nil=>exact absurd rfl k|cons e ax=>
  have w:=BX (x:=Z.x) (pos:=pos) g j;rw[k9,cJ]at g;have bf:=j0 (x:=Z.x) (ax:=ax) g.1;have bo:=qH (x:=Z.x) (pos:=pos) g.2;have f:=λy=>vR (x:=Z.x) (m:=y) h
  cases b with
  |iJ=>exact va Zf Zg W3 a c (f _) w d bf bo|split=>exact va Zd Ze Y1 a c (f _) w d bf bo|find=>exact va Y_ Za WY a c (f _) w d bf bo|index=>exact va Zb Zc WZ a c (f _) w d bf bo|vN=>exact va Kj PySem.F.type_str_partition ZL a c (f _) w d bf bo|rI=>exact va Ki PySem.F.type_str_rpartition ZM a c (f _) w d bf bo
variable {T:pK}{ak:fG}
theorem Hg:∀(b:uN) (bA:lL),(∀q∈b,q.2=.free->∃S,cells.lookup q.1=D S)->∃b7,nD cells b bA=D b7
 |[],bA,_=>⟨bA,rfl⟩|(y,C)::E,bA,Y=>by
  unfold nD;split
  ·rename_i c
   obtain⟨S,d⟩:=Y _ (eI ..) (eq_of_beq c);rw[d];exact Hg E _ λq a=>Y q (f5 _ a)
  exact Hg E _ λq a=>Y q (f5 _ a)
theorem Hh (g:i1 Z R C k){a:Scope}:(relabel a Z.x).names=qI R.cV a.names:=by
 unfold relabel qI D4;rw[g.hP,g.cV];simp
theorem acK (g:i1 Z R C k){a:Scope} {bN:jJ}(Y:G_ R a b2 bN=ag):
  (ig b2 bN).Nodup/\∃b7,u5 Z a b7 b2 bN/\∀aO h bo a7,i1 (kM Z a b7 aO (ig b2 bN) h bo a7) ⟨ig b2 bN,qI R.cV a.names⟩ C jO:=by
 unfold G_ at Y;rw[cJ,cJ,cJ]at Y;obtain⟨⟨⟨af,ai⟩,bw⟩,l⟩:=Y;have af:=nx.mp af;have bw:=nx.mp bw;have ai:a.kind=.function:=eq_of_beq ai;have d:∀q∈a.names,q.2≠.cell:=λq c=>by have:=af q c;simp at this;exact this.1.1
 have m:∀q∈a.names,q.2=.free->R.cV.lookup q.1=D .cell\/R.cV.lookup q.1=D .free:=λq c G=>by
  have:=af q c;simp[G]at this;exact this
 obtain⟨b7,j⟩:=Hg (cells:=Z.x.cells) a.names [] λq c G=>g.cells _ (m q c G)
 refine⟨of_decide_eq_true l,b7,⟨j,d,ai,λG n e=>?_,λV o=>?_⟩,λaO h bo a7=>⟨⟨rfl,Hh g,ai⟩,g.fD,g.qK,Hf,λX f=>?_⟩⟩
 ·have:=af G n;simp[e]at this;exact this
 ·have:=bw V o
  simp at this;obtain⟨⟨⟨S,b⟩,t⟩,e⟩:=this;unfold D4;rw[g.bB,g.cV,Hh g];exact⟨S,b,t,e⟩
 ·have f:(relabel a Z.x).names.lookup X=D .cell\/(relabel a Z.x).names.lookup X=D .free:=by rw[Hh g];exact f
  have p:(X,NameKind.free)∈a.names:=f.elim (λG=>Aq G (.inl rfl) d) λG=>Aq G (.inr rfl) d
  exact Ap a.names [] b7 j X (.inl p)
theorem Hi (g:yx Z R)(b:R.bB.Nodup){O:Nat}(a:(∀X,Z.hO X=ag)\/∀X,R.bB[O]?=D X->R.cV.lookup X=D .local)(Y:t2 R O e=ag):kf Z e (o1 O)/\∃X N,e=.Name X N:=by
 unfold t2 at Y;split at Y
 ·rename_i X N
  rw[cJ]at Y;have aE  := eq_of_beq Y.1;exact⟨Uo (by rwa[g.bB]) (by rwa[g.bB]) (Pe g Y.2) (a.elim (λG=>.inl (G X)) λG=>.inr (by rw[g.cV];exact G X aE)),X,N,rfl⟩
 cases Y
theorem Hj (g:i1 Z R C k)(a:R.bB.Nodup):∀{is:bt}{ax:fz},((∀X,Z.hO X=ag)\/∀O∈is,∀X,R.bB[O]?=D X->R.cV.lookup X=D .local)->yr R is ax=ag->n8 Z ax (vG is)/\(j8 ax Z.x).length=is.length/\(j8 ax Z.x).findIdx? (·.1)=i
 |[],[],_,_=>⟨Xa,rfl,rfl⟩|[],_::_,_,Y=>by cases Y
 |_::_,[],_,Y=>by cases Y
 |O::is,e::ax,hf,Y=>by
  unfold yr at Y;rw[cJ]at Y;obtain⟨af,X,N,rfl⟩:=Hi g.toyx a  (hf.imp id λG=>G O (eI ..)) Y.1
  obtain⟨S,b,t⟩:=Hj g a   (hf.imp id λG h c=>G h (f5 _ c)) Y.2
  refine⟨Xb af S,?_,?_⟩
  ·show(j8 ax _).length+1=_;rw[b];rfl
  ·show List.findIdx? _ ((aA,_)::j8 ax _)=i
   rw[List.findIdx?_cons];simp[t]
theorem Pq (g:i1 Z R C k)(d:R.bB.Nodup)(a:(∀X,Z.hO X=ag)\/O4 R bZ=ag)(Y:vV R bZ e=ag):kf Z e (qq Z.I bZ):=by
 have a:(∀X,Z.hO X=ag)\/∀O∈bZ.is,∀X,R.bB[O]?=D X->R.cV.lookup X=D .local:=a.imp id λG O aE X j=>by
  have:=nx.mp G O aE;rw[j]at this;exact eq_of_beq this
 unfold vV at Y;unfold qq;split at Y
 ·rename_i ax _ _ c
  rw[if_pos c];obtain⟨S,b,t⟩:=Hj g d a Y;intro aj z l Q v u o f E Y;rcases Y with Y |⟨ai,Y⟩
  ·exact Xc g.fD S b t aj z l Q v u o f E Y
  ·exact Y3 g.fD S (b.trans ai) t aj z l Q v u o f E Y
 ·rename_i c
  rw[if_neg (by rw[c];decide)]
  rw[cJ]at Y;refine(Hi g.toyx d (a.imp id λG=>?_) Y.2).1
  have h:=eq_of_beq Y.1;cases aE:bZ.is with
  |nil=>rw[aE]at h;cases h|cons O E=>rw[aE]at G;exact G O (eI ..)
 ·cases Y
theorem acL {w:Str}(a:∀t∈ak.dg,mi Z.I (dz Z.I t)/\qb Z.I (dz Z.I t) w)(c:bu Z e n)(d:mH e=ag):bu Z (.Attribute e w pos) (Bp Z.I ak.dg n w):=by
 intro aj z l Q o f Y;obtain⟨t,b,Y⟩:=Y;exact YU (a t b).1 (a t b).2 c (vR d) aj z l Q o f Y
theorem acM (a:∀V∈ms,∃aJ h,h<=C/\qm Z.cu Z.p Z.I Z.a6 Z.bj fv h (dz Z.I V.1) m aJ (f3 Z.I V.2))(b:gD C Z.r)(c:ml fv Z k)(d:bu Z A n)(e:gV Z ax bG)(f:ax.all hn=ag)(g:mH A=ag)(j:(fE.endLine == pos.line)=ag)(p:ax.length<29)(q:ax=[]->bG=ib):
  bu Z (.Call (.Attribute A m fE) ax [] pos) (vI Z.I ms m k n bG):=by
 intro aj z l Q o s Y;obtain⟨V,t,Y⟩:=Y;obtain⟨aJ,h,u,F⟩:=a V t;exact acI F (b.bQ u) c d e f g j p q aj z l Q o s Y
theorem acN (g:i1 Z R C k){y:String}(d:bu Z e n)(b:hn e=ag)(af:lz R "isinstance"=ag)(ai:Z.a6 "isinstance"=i)(a:G9 y=D q)(bw:lz R q=ag)(f:Z.a6 q=i):bu Z (.Call (.Name "isinstance" p1) [e,.Name q dI] [] pos) (lO (Bt Z.I) (hb n (hb (hy (.gd y)) ib))):=by
 obtain⟨h,j⟩:=oB g.toyx af;obtain⟨l,m⟩:=oB g.toyx bw;have c:oO q=D (.type y)/\q ≠ "__name__":=by
  unfold G9 at a;split at a<;>cases a<;>exact⟨rfl,by decide⟩
 exact u_ aa2 ai (qc d (qc (W4 y f l c.1 c.2 m) w9 (j0 rfl)) (j0 b)) h rfl (by decide) j (j0 b) (qH rfl)
theorem acO {S b R t:bV}{bG dr i8 mn:b1}{a c d:CmpOp}{E h j:ez}(A:dF Z (e0 a) E)(B:dF Z (e0 c) h)(F:dF Z (e0 d) j)(I:bu Z S bG)(J:bu Z b dr)(K:bu Z R i8)(L:bu Z t mn)
  (M:lastMarks [a,c,d] [b,R,t]=aA):hR Z (.Compare S [a,c,d] [b,R,t] pos) (lQ (xq E h j bG dr i8 mn)):=by
 intro aj z l Q o N Y;refine isTrue_chain (cv (I aj z l Q _ N Y) λv bf ⟨X,aw,O,bI,P⟩=>test_link (cv (J aj bf l aw _ O P) λu bo ⟨q,a7,T,bW,U⟩=>
  cv (A aj bo l a7 X q v u _ T bI bW U) λt V ⟨G,k,m,W,e⟩=>?_)) M
 cases G with
 |aQ C=>
  cases W;refine lI ?_;cases C with
  |false=>exact ite_ff ⟨k,m,e.2 rfl⟩|true=>
   refine ite_tt (test_link (cv (K aj V l k _ m (e.1 rfl)) λn aa ⟨p,ab,ac,s,ae⟩=>cv (B aj aa l ab q p u n _ ac bW s ae) λeh af f=>?_))
   obtain⟨ah,w,x,ai,g⟩:=f;cases ah with
   |aQ ak=>
    cases ai;refine lI ?_;cases ak with
    |false=>exact ite_ff ⟨w,x,g.2 rfl⟩|true=>
     refine ite_tt (test_last (cv (L aj af l w _ x (g.1 rfl)) λal am ⟨an,ao,ap,ar,as⟩=>cv (F aj am l ao p an n al _ ap s ar as) λeh az f=>?_))
     obtain⟨au,av,ax,ay,y⟩:=f;cases au with
     |aQ aB=>cases ay;exact lI ⟨av,ax,y⟩|_=>exact y.elim
   |_=>exact g.elim
 |_=>exact e.elim
theorem acP {S b t w:bV} {a c d:CmpOp}{E e f:ez}(g:dF Z (e0 a) E)(h:dF Z (e0 c) e)(j:dF Z (e0 d) f)(k:eg Z S eJ)(l:eg Z b cR)(m:eg Z t t3)(n:eg Z w t4)(o:nQ w=ag):eg Z (.Compare S [a,c,d] [b,t,w] pos) (xq E e f eJ cR t3 t4):=
 ⟨Xy g h j k.di l.di m.di n.di (vS o),λ_=>acO g h j k.di l.di m.di n.di (vS o),λ_ _ _ G=>by cases G⟩
theorem Hk {a:List CmpOp}{S:wX}(Y:[S]=a.map D):∃X,S=D X/\a=[X]:=by
 cases a with
 |nil=>cases Y|cons X s=>simp_all
theorem Pr {a:List CmpOp}{S b:wX}(Y:[S,b]=a.map D):∃X q,S=D X/\b=D q/\a=[X,q]:=by
 cases a with
 |nil=>cases Y|cons X s=>
  obtain⟨q,rfl,rfl⟩:=Hk (wU Y).2;exact⟨X,q,(wU Y).1,rfl,rfl⟩
theorem acQ {a:List CmpOp}{S b t:wX}(Y:[S,b,t]=a.map D):∃X q G,S=D X/\b=D q/\t=D G/\a=[X,q,G]:=by
 cases a with
 |nil=>cases Y|cons X s=>
  obtain⟨q,G,rfl,rfl,rfl⟩:=Pr (wU Y).2;exact⟨X,q,G,(wU Y).1,rfl,rfl,rfl⟩
theorem mJ:∀{aG:hF}{ax:fz},j3 T ak R aG ax=ag->ax.all hn=ag/\(ax=[]↔aG=[])
 |[],ax,Y=>by
  unfold j3 at Y;rw[j_.mp Y];trivial
 |S::aG,ax,Y=>by
  apply hZ Y;intro e ax Y;simp only[cJ]at Y;exact⟨by rw[k9,Y.1.1,(mJ Y.2).1];rfl,(λG=>by cases G),(λG=>by cases G)⟩
theorem Hl {I:cO}{aG:hF}(Y:j3 T ak R aG ax=ag)(a:ax=[]):H.et I ak k aG=ib:=by rw[(mJ Y).2.mp a,H.et]
theorem Hm (Y:j3 T ak R aG ax=ag)(a:(!aG.isEmpty)=ag):ax≠[]:=λG=>by
 rw[(mJ Y).2.mp G]at a;cases a
theorem B4 {a:List CmpOp}{s:List wX}(Y:(a.map D == s)=ag):s=a.map D:=(eq_of_beq Y).symm
abbrev i2 (Z:bU)(C:Nat)(s:oz):Prop:=∀a∈s,a.Q Z.cu Z.p Z.I Z.a6 Z.bj C
theorem i2.s {S b:oz}(Y:i2 Z C (S++b)):i2 Z C S:=λa c=>Y a (zh _ c)
theorem i2.E {S b:oz}(Y:i2 Z C (S++b)):i2 Z C b:=λa c=>Y a (kA _ c)
theorem Pt (Y:vV R bZ e=ag)(a:bZ.bb=ag):∃ax C N,e=.Tuple ax C N:=by
 unfold vV at Y;split at Y
 ·exact⟨_,_,_,rfl⟩
 ·simp_all
 cases Y
theorem Pu {n j:bV}(o:T.dZ ak Z.I Z.a6)(g:i1 Z R C k)(bw:bZ.bb=ag->∃ax C N,n=.Tuple ax C N)(Y:B1 T R d4 bZ j k1 ks=ag)
  (bk:k1=ag->∃z,ed=[z]/\bu Z j (z.cf Z.I ak k)) (aw:∀ax,ks ax=ag->gV Z ax (H.et Z.I ak k ed)/\ax.all hn=ag):o3 Z n j (d4.n Z.I (H.et Z.I ak k ed)):=by
 unfold B1 at Y;cases a:d4.Pc with
 |true=>
  rw[a,cond_true]at Y;obtain⟨z,rfl,p⟩:=bk Y;cases d4<;>first |exact W6 p |cases a
 |false=>
  rw[a,cond_false]at Y;apply mI Y;intro w ax V Y;apply nR Y;intro q N Y;simp only[cJ]at Y;obtain⟨⟨⟨⟨⟨af,ai⟩,s⟩,u⟩,l⟩,v⟩:=Y;obtain⟨c,aX⟩:=aw ax v;have b:=o.c6 q (by simpa using u)
  have d:=(oB g.toyx s).1;have e:=eq_of_beq af;have f:=eq_of_beq ai;have m:d4.Pd=ag->∃ax C N,n=.Tuple ax C N:=λG=>bw (by rw[G]at l;simpa using l)
  have h:=rV (x:=Z.x) aX;cases d4 with
  |dw=>cases a|bI=>obtain⟨S,rfl⟩:=qW.mp f;cases e;exact W9 b c d h|bW=>match ax,f with |[S,t],_=>cases e;exact W_ b c d h (rV (by rw[k9,cJ]at aX;exact aX.2))
  |rJ=>obtain⟨S,rfl⟩:=qW.mp f;cases e;obtain⟨_,_,_,rfl⟩:=m rfl;exact Wc d b c h|zip=>match ax,f with |[S,t],_=>cases e;obtain⟨_,_,_,rfl⟩:=m rfl;exact abn b c d h (rV (by rw[k9,cJ]at aX;exact aX.2))
theorem Pw (b2:c_)(bN:jJ)(d4:iZ)(ed:hF)(bZ:kl)(t:kU)(X:H)
  (bk:∀{Z:bU}{R:gr}{k:cg}{e:bV},T.dZ ak Z.I Z.a6->i1 Z R C k->i2 Z C (H.fC ed)->yw T ak R ed e=ag->∃z,ed=[z]/\bu Z e (z.cf Z.I ak k))
  (aw:∀{Z:bU}{R:gr}{k:cg}{ax:fz},T.dZ ak Z.I Z.a6->i1 Z R C k->i2 Z C (H.fC ed)->j3 T ak R ed ax=ag->gV Z ax (H.et Z.I ak k ed))
  (a7:∀{Z:bU}{R:gr}{k:cg}{ax:fz},T.dZ ak Z.I Z.a6->i1 Z R C k->i2 Z C (H.vU t)->He T ak R t ax=ag->o9 Z ax (H.yb Z.I ak k t))
  (h:∀{Z:bU}{R:gr}{k:cg}{e:bV},T.dZ ak Z.I Z.a6->i1 Z R C k->i2 Z C X.dd->dY T ak R X e=ag->eg Z e (X.cf Z.I ak k)):∀{Z:bU}{R:gr}{k:cg}{e:bV},T.dZ ak Z.I Z.a6->i1 Z R C k->i2 Z C (H.ek b2 bN d4 ed bZ t X).dd->dY T ak R (.ek b2 bN d4 ed bZ t X) e=ag ->
  ∃n c ifs iV b pos,e=.ListComp iV [⟨n,c,ifs,0⟩] b pos/\∃b7,u5 Z b b7 b2 bN/\o3 Z n c (d4.n Z.I (H.et Z.I ak k ed))/\(∀aO a bo a7,kf (kM Z b b7 aO (ig b2 bN) a bo a7) n (qq Z.I bZ)) /\
   (∀aO a bo a7,o9 (kM Z b b7 aO (ig b2 bN) a bo a7) ifs (H.yb Z.I ak jO t))/\(∀aO a bo a7,bu (kM Z b b7 aO (ig b2 bN) a bo a7) iV (X.cf Z.I ak jO))/\nQ c=ag:=by
 intro Z R k e d g au Y;apply acy Y;intro iV v b pos Y;rw[cJ]at Y;obtain⟨⟨n,c,ifs,aG⟩,rfl⟩:=qW.mp (eq_of_beq Y.1);have Y:=Y.2;rw[k9,List.all_nil,uE]at Y;simp only[cJ]at Y;obtain⟨⟨⟨⟨⟨⟨⟨af,ai⟩,bw⟩,j⟩,l⟩,m⟩,o⟩,p⟩:=Y;cases eq_of_beq af;obtain⟨q,b7,s,f⟩:=acK g ai
 exact⟨n,c,ifs,iV,b,pos,rfl,b7,s,Pu d g (Pt bw) m (bk d g au.s) λax G=>⟨aw d g au.s G,(mJ G).1⟩,λaO a bo a7=>Pq  (f aO a bo a7) q (.inr j) bw,λaO a bo u=>a7  d (f aO a bo u) au.E.s o,
   λaO a bo a7=>(h (Z:=kM Z b b7 aO _ a bo a7) d (f aO a bo a7) au.E.E p).di,l⟩
mutual
theorem dO:∀(X:H) {Z:bU}{R:gr}{k:cg}{e:bV},T.dZ ak Z.I Z.a6->i1 Z R C k->i2 Z C X.dd->dY T ak R X e=ag->eg Z e (X.cf Z.I ak k)
 |.v O,Z,R,k,e,a,g,au,Y=>by
  apply nR Y;intro X N Y;rw[cJ,cJ]at Y;have bw:=Y.2;unfold O2 at bw;rw[cJ]at bw;exact gH (Wo O (by rw[g.bB];exact eq_of_beq Y.1.1) (acD g.toyx Y.1.2) (by simpa using bw.1) (by simpa using bw.2)) rfl
 |.C t,Z,R,k,e,a,g,au,Y=>by
  apply yu Y;intro X y N Y;exact gH (acG Y) rfl
 |.fI X t,Z,R,k,e,a,g,au,Y=>by
  show eg Z e (hy (t.gn.getD .a9))
  apply nR Y;intro q N Y;rw[cJ,cJ]at Y;cases eq_of_beq Y.1.1;obtain⟨c,d⟩:=oB g.toyx Y.1.2;have ai:=Y.2;cases U:t.gn with
  |none=>rw[U]at ai;cases ai|some v=>rw[U]at ai;exact gH (LP (a.vT _ (by simpa using ai)) c d) rfl
 |.hV X aD,Z,R,k,e,a,g,au,Y=>by
  apply nR Y;intro q N Y;rw[cJ,cJ]at Y;cases eq_of_beq Y.1.1;obtain⟨c,d⟩:=oB g.toyx Y.1.2;obtain⟨V,I,e⟩:=zl.mp Y.2;have:=a.m9 V I;rw[eq_of_beq e]at this;exact gH (LP this c d) rfl
 |.aY A S b,Z,R,k,e,a,g,au,Y=>by
  rcases(pY _ _).mp Y with Y |Y
  rotate_left
  rcases(pY _ _).mp Y with Y |Y
  rotate_right
  ·apply Pa Y;intro s J E N Y
   simp only[cJ]at Y;exact gH (KY (Pn (eq_of_beq Y.1.1)) (dO S a g au.s Y.1.2).di (dO b a g au.E Y.2).di) rfl
  ·apply BZ Y;intro s W aa N Y
   apply hZ Y;intro E n Y;simp only[cJ]at Y;cases j_.mp Y.1.1.1.2;obtain⟨J,K,rfl⟩:=Hk (B4 Y.1.1.1.1);exact Pg (t6 g.oA K) (dO S a g au.s Y.1.2) (dO b a g au.E Y.2) Y.1.1.2
  ·apply yt Y;intro s E N Y
   simp only[cJ]at Y;have K:A=.fq:=by
    have:=Y.1.1.1;cases A<;>first |rfl |cases this
   subst K;exact gH (Lk (NJ g.oA) (dO S a g au.s Y.1.2).di (dO b a g au.E Y.2).di (OZ Y.1.1.2)) rfl
 |.ke A b3 S b t,Z,R,k,e,a,g,au,Y=>by
  apply BZ Y;intro s W aa N Y;apply hZ Y;intro E n Y;apply hZ Y;intro ae ah Y;simp only[cJ]at Y;cases j_.mp Y.1.1.1.1.2;obtain⟨J,aj,af,ai,rfl⟩:=Pr (B4 Y.1.1.1.1.1);exact acF (t6 g.oA af) (t6 g.oA ai) (dO S a g au.s Y.1.1.2) (dO b a g au.E.s Y.1.2) (dO t a g au.E.E Y.2) Y.1.1.1.2
 |.and S b,Z,R,k,e,a,g,au,Y=>by
  apply yv Y;intro X q s N Y;simp only[cJ]at Y;cases s with
  |nil=>exact Ph (dO S a g au.s Y.1.2) (dO b a g au.E Y.2) Y.1.1.1 Y.1.1.2|cons G s=>exact Pj (dO S a g au.s Y.1.2) (dO b a g au.E Y.2) Y.1.1.1
 |.or S b,Z,R,k,e,a,g,au,Y=>by
  apply yv Y;intro X q s N Y;simp only[cJ]at Y;cases s with
  |nil=>exact Pk (dO S a g au.s Y.1.2) (dO b a g au.E Y.2) Y.1.1.1 Y.1.1.2|cons G s=>exact Pl (dO S a g au.s Y.1.2) (dO b a g au.E Y.2) Y.1.1.1
 |.not S,Z,R,k,e,a,g,au,Y=>by
  apply B0 Y;intro A X N Y;simp only[cJ]at Y;cases eq_of_beq Y.1.1;exact Pm (dO S a g au Y.2) Y.1.2
 |.cM S,Z,R,k,e,a,g,au,Y=>by
  apply B0 Y;intro A X N Y;rw[cJ]at Y;cases eq_of_beq Y.1;exact gH (LV (dO S a g au Y.2).di) rfl
 |.jU t S b,Z,R,k,e,a,g,au,Y=>by
  apply acw Y;intro n X q N Y;simp only[cJ]at Y;exact acE (WK ((dO t a g au.s Y.1.1.2).ll Y.1.1.1) (dO S a g au.E.s Y.1.2).di (dO b a g au.E.E Y.2).di) rfl
 |.sl S a8 aE,Z,R,k,e,a,g,au,Y=>by
  apply yt Y;intro s E N Y;apply Pb Y;intro aH aI aK V Y;simp only[cJ]at Y;cases sx.mp Y.1.1.1;exact gH (VA aa8 (dO S a g au.s Y.1.1.2).di (Px a8 a g au.E.s Y.1.2) (Px aE a g au.E.E Y.2)) rfl
 |.bb aG,Z,R,k,e,a,g,au,Y=>by
  apply Hc Y;intro ax y N Y;exact gH (K3 (mK aG a g au Y)) rfl
 |.aM aG,Z,R,k,e,a,g,au,Y=>by
  apply acx Y;intro ax N Y;exact gH (Ve (mK aG a g au Y)) rfl
 |.dh S w,Z,R,k,e,a,g,au,Y=>by
  apply rX Y;intro A aL N Y;simp only[cJ]at Y;cases eq_of_beq Y.1.1.1;exact gH (acL (λt ab=>⟨a.cls t ab,a.o5 t ab _ (by simpa using Y.1.1.2)⟩) (dO S a g au Y.2).di Y.1.2) rfl
 |.b0 w X aG,Z,R,k,e,a,g,au,Y=>by
  apply mI Y;intro q ax V Y;apply nR Y;intro q N Y;simp only[cJ]at Y;cases eq_of_beq Y.1.1;obtain⟨c,d⟩:=oB g.toyx Y.1.2;obtain⟨aJ,h,L,F⟩:=au _ (eI ..);exact gH (Po F (g.qK.bQ L) g.nk (mK aG a g (λM P=>au M (f5 _ P)) Y.2) (mJ Y.2).1 c d (Hl Y.2)) rfl
 |.dX A aG,Z,R,k,e,a,g,au,Y=>by
  apply mI Y;intro q ax V Y;apply nR Y;intro q N Y;simp only[cJ]at Y;cases eq_of_beq Y.1.1.1.1;exact gH (acJ g (a.c6 _ (by simpa using Y.1.1.2)) (mK aG a g au Y.2) (mJ Y.2).1 (Hm Y.2 Y.1.2) Y.1.1.1.2) rfl
 |.eA A S aG,Z,R,k,e,a,g,au,Y=>by
  apply mI Y;intro q ax V Y;apply rX Y;intro E m N Y;simp only[cJ]at Y;cases eq_of_beq Y.1.1.1.1.1.1;exact gH (Pp (dO S a g au.s Y.1.2).di (mK aG a g au.E Y.2) (mJ Y.2).1 Y.1.1.1.1.1.2 Y.1.1.1.1.2 (of_decide_eq_true Y.1.1.1.2) (Hm Y.2 Y.1.1.2)) rfl
 |.ek b2 bN d4 ed bZ t X,Z,R,k,e,a,g,au,Y=>by
  obtain⟨n,aM,ifs,iV,aO,pos,rfl,b7,al,am,ac,an,ao,ap⟩:=Pw b2 bN d4 ed bZ t X (Hn ed) (mK ed) (Py t) (dO X) a g au Y;exact gH (Wh g.fD al am ac an ao (G4 ap)) rfl
 |.jn w t aG,Z,R,k,e,a,g,au,Y=>by
  apply mI Y;intro q ax V Y;apply nR Y;intro q N Y;simp only[cJ]at Y;cases eq_of_beq Y.1.1;obtain⟨c,d⟩:=oB g.toyx Y.1.2;obtain⟨aJ,h,L,F⟩:=au _ (eI ..);exact gH (acH F (g.qK.bQ L) g.nk (mK aG a g (λM P=>au M (f5 _ P)) Y.2) (mJ Y.2).1 c d (Hl Y.2)) rfl
 |.eL aP S m aG,Z,R,k,e,a,g,au,Y=>by
  apply mI Y;intro q ax V Y;apply rX Y;intro E m N Y;simp only[cJ]at Y;cases eq_of_beq Y.1.1.1.1.1;exact gH (acM (λV I=>au.s _ (fk.mpr ⟨V,I,rfl⟩)) g.qK g.nk (dO S a g au.E.s Y.1.2).di (mK aG a g au.E.E Y.2) (mJ Y.2).1 Y.1.1.1.1.2 Y.1.1.1.2 (of_decide_eq_true Y.1.1.2) (Hl Y.2)) rfl
 |.au aJ,Z,R,k,e,a,g,au,Y=>by
  apply acA Y;intro ax N Y;rw[cJ]at Y;cases ax with
  |nil=>cases Y.1|cons S n=>cases n with
   |nil=>cases Y.1|cons b n=>exact gH (Xm (Pz aJ a g au Y.2)) rfl
 |.hD S,Z,R,k,e,a,g,au,Y=>by
  apply acB Y;intro X y w N Y;simp only[cJ]at Y;cases eq_of_beq Y.1.1;cases sx.mp Y.1.2;exact gH (Xj (dO S a g au Y.2).di) rfl
 |.m_ A S,Z,R,k,e,a,g,au,Y=>by
  cases A with
  |m1 s m=>
   apply mI Y;intro E ax V Y;apply rX Y;intro E y N Y;apply hZ Y;intro X n Y;apply hZ Y;intro q n Y;simp only[cJ]at Y;obtain⟨⟨⟨⟨⟨⟨af,ai⟩,bw⟩,x⟩,f⟩,l⟩,o⟩:=Y;cases eq_of_beq af;cases j_.mp ai;apply yu f;intro G ar as f;apply yu l;intro aQ av dI l;cases eq_of_beq f;cases eq_of_beq l;have aX:[Expr.Constant (.str ⟨#[s]⟩) ar as,Expr.Constant (.str ⟨#[m]⟩) av dI].all hn=ag:=rfl;exact gH (ZH (show qn Z.I from au .G7 (eI ..)) (dO S a g au.E o).di ⟨vR bw,BX aX (show 2<29 by decide),x,by rw[rV aX];rfl⟩) rfl
  |qu=>
   apply yt Y;intro s E N Y;apply Pb Y;intro aR aT aw V Y;simp only[cJ]at Y;cases sx.mp Y.1.1.1;cases sx.mp Y.1.1.2;cases aw with
   |none=>cases Y.1.2|some u=>
    apply B0 (show vX u _=ag from Y.1.2);intro A p fh aF
    rw[cJ]at aF;cases eq_of_beq aF.1;apply yu aF.2;intro G aU dI ai;cases eq_of_beq ai;exact gH (ZC (dO S a g au.E Y.2).di (LN (LV KI))) rfl
 |.pw S b,Z,R,k,e,a,g,au,Y=>by
  apply mI Y;intro q ax V Y;apply nR Y;intro q N Y;apply hZ Y;intro E n Y;apply mI Y;intro G j ac Y;apply nR Y;intro G dI Y;apply hZ Y;intro X eJ Y;apply hZ Y;intro p cR Y;simp only[cJ]at Y;obtain⟨⟨⟨⟨⟨⟨⟨⟨⟨⟨⟨af,ai⟩,B⟩,ay⟩,bw⟩,x⟩,f⟩,l⟩,o⟩,z⟩,az⟩,aB⟩:=Y;cases eq_of_beq af;cases eq_of_beq ai;cases j_.mp B;cases j_.mp ay;obtain⟨c,d⟩:=oB g.toyx bw;obtain⟨Q,aC⟩:=oB g.toyx x;exact gH (xl "list" (L1 g.fD) (a.c6 _ (by simpa using f)) (qc (xl "range" Xv (a.c6 _ (by simpa using l)) (qc (dO S a g au.s az).di (qc (dO b a g au.E aB).di w9 (j0 z)) (j0 o)) Q rfl (by decide) aC (j0 o) (qH (by simp[z]))) w9 (j0 rfl)) c rfl (by decide) d (j0 rfl) (qH rfl)) rfl
 |.kn S y,Z,R,k,e,a,g,au,Y=>by
  apply mI Y;intro q ax V Y;apply nR Y;intro q N Y;apply hZ Y;intro X n Y;apply hZ Y;intro G cR Y;apply nR Y;intro G dI Y;simp only[cJ]at Y;obtain⟨⟨⟨⟨⟨⟨⟨⟨af,B⟩,ai⟩,bw⟩,x⟩,f⟩,l⟩,o⟩,z⟩:=Y;cases eq_of_beq af;cases j_.mp B;exact gH (acN g (dO S a g au z).di x ai (a.c6 _ (by simpa using bw)) (eq_of_beq f) l (a.c6 _ (by simpa using o))) rfl
 |.ov,Z,R,k,e,a,g,au,Y=>by
  apply acz Y;intro N;exact gH XI rfl
 |.px A b3 aV S b t w,Z,R,k,e,a,g,au,Y=>by
  apply BZ Y;intro s W aa N Y;apply hZ Y;intro E n Y;apply hZ Y;intro ae ah Y;apply hZ Y;intro aW aY Y;simp only[cJ]at Y;obtain⟨⟨⟨⟨⟨⟨af,B⟩,x⟩,f⟩,l⟩,o⟩,z⟩:=Y;cases j_.mp B;obtain⟨J,aj,aZ,c,d,Q,rfl⟩:=acQ (B4 af);exact acP (t6 g.oA c) (t6 g.oA d) (t6 g.oA Q) (dO S a g au.s.s f) (dO b a g au.s.E l) (dO t a g au.E.s o) (dO w a g au.E.E z) x
theorem Hn:∀(aG:hF) {Z:bU}{R:gr}{k:cg}{e:bV},T.dZ ak Z.I Z.a6->i1 Z R C k->i2 Z C (H.fC aG)->yw T ak R aG e=ag->∃z,aG=[z]/\bu Z e (z.cf Z.I ak k)
 |[],Z,R,k,e,a,g,au,Y=>by unfold yw at Y;cases Y
 |z::aG,Z,R,k,e,a,g,au,Y=>by
  have Y:=lJ.mp Y;cases j_.mp Y.1;exact⟨z,rfl,(dO z a g au.s Y.2).di⟩
theorem mK:∀(aG:hF) {Z:bU}{R:gr}{k:cg}{ax:fz},T.dZ ak Z.I Z.a6->i1 Z R C k->i2 Z C (H.fC aG)->j3 T ak R aG ax=ag->gV Z ax (H.et Z.I ak k aG)
 |[],Z,R,k,ax,a,g,au,Y=>by
  show gV Z ax ib;rw[j_.mp Y]
  exact w9
 |S::aG,Z,R,k,ax,a,g,au,Y=>by
  apply hZ Y;intro e n Y;simp only[cJ]at Y;exact qc (dO S a g au.s Y.1.2).di (mK aG a g au.E Y.2) (j0 Y.1.1)
theorem Px:∀(S:kU) {Z:bU}{R:gr}{k:cg}{e:oU},T.dZ ak Z.I Z.a6->i1 Z R C k->i2 Z C (H.vU S)->Hd T ak R S e=ag->sX Z e (H.BB Z.I ak k S)
 |none,Z,R,k,e,a,g,au,Y=>by
  show sX Z e Af;rw[sx.mp Y]
  exact Vz
 |some S,Z,R,k,e,a,g,au,Y=>by
  cases e with
  |none=>cases Y|some e=>exact LN (dO S a g au Y).di
theorem Py:∀(S:kU) {Z:bU}{R:gr}{k:cg}{ax:fz},T.dZ ak Z.I Z.a6->i1 Z R C k->i2 Z C (H.vU S)->He T ak R S ax=ag->o9 Z ax (H.yb Z.I ak k S)
 |none,Z,R,k,ax,a,g,au,Y=>by
  show o9 Z ax Ar;rw[j_.mp Y]
  exact Wf
 |some S,Z,R,k,ax,a,g,au,Y=>by
  apply hZ Y;intro e n Y;simp only[cJ]at Y;cases j_.mp Y.1.1;exact Wg ((dO S a g au Y.2).ll Y.1.2)
theorem Pz:∀(aG:hF) {Z:bU}{R:gr}{k:cg}{ax:fz},T.dZ ak Z.I Z.a6->i1 Z R C k->i2 Z C (H.fC aG)->B2 T ak R aG ax=ag->xm Z ax (H.tO Z.I ak k aG)
 |[],Z,R,k,ax,a,g,au,Y=>by
  unfold B2 at Y;rw[j_.mp Y,H.tO];exact Xk
 |S::aG,Z,R,k,ax,a,g,au,Y=>by
  apply hZ Y;intro e n Y;rw[cJ]at Y;exact Xl (dO S a g au.s Y.1).di (Pz aG a g au.E Y.2)
end
end
structure t7 (Z:bU)(R:gr)(C:Nat)(k:cg):Prop extends i1 Z R C k where
 hO:∀X,Z.hO X=ag
 az:R.bB.Nodup
 fl:PassesOwn (model Z.cu Z.p) Z.r Z.x Z.fm
 aT:Z.aT=[]
 hN:Z.hN=Z.x::Z.mh/\Z.x.frame=D Z.x.locals
noncomputable def dp.Ho:dp->Bool
 |.bh (.ek ..)=>ag |_=>aA
noncomputable def nj.cV:nj->Str
 |.dE => "append" |.l0 => "extend" |.tV => "pop"
def dp.dd:dp->oz
 |.bh X=>X.dd|.ko O=>[]|.b0 w X aG=>(H.b0 w X (aG.map r.n)).dd|.eL a N m aG=>(H.eL a N.X m (aG.map r.n)).dd|.eS _ N aG=>N.X.dd++H.fC (aG.map r.n)|.aY _ q G=>q.dd++G.dd|.kX S q=>(match S with |.b0 w X aG=>.b0 w X::(q.dd++H.fC aG)|.eA _ aG=>q.dd++H.fC aG)|.tk _ q=>q.dd|.rQ N C v=>N.X.dd++(C.dd++v.dd)|.not q=>q.dd|.or q G=>q.dd++G.dd|.and q G=>q.dd++G.dd
mutual
def aN.dd:aN->oz
 |.cp _ q=>q.dd|.tW _ X=>X.dd|.kY N _ X=>N.X.dd++X.dd|.rR N C X=>N.X.dd++(C.dd++X.dd)|.aT q=>q.dd|.cG q=>q.dd|.tX=>[]|.ef R S b=>R.dd++(aN.fC S++aN.fC b)|.tY R S b=>R.dd++(aN.fC S++aN.fC b)|.tZ R S b=>R.dd++(aN.fC S++aN.fC b)|.qE R t S b=>R.dd++(t.dd++(aN.fC S++aN.fC b))|.gQ _ ed _ b=>H.fC ed++aN.fC b|.qF R b=>R.dd++aN.fC b|.nk=>[]|.cont=>[]|.jd=>[]|.pI b a=>aN.fC b++aN.fC a
def aN.fC:cK->oz
 |[]=>[]|z::c1=>z.dd++aN.fC c1
end
section
variable (T:pK)(ak:fG)
def jC (R:gr):dp->bV->Bool
 |.bh X,e=>dY T ak R X e|.ko O,e=>dY T ak R (.v O) e|.b0 w X aG,e=>dY T ak R (.b0 w X (aG.map r.n)) e|.eL c N m aG,e=>dY T ak R (.eL c N.X m (aG.map r.n)) e|.eS A N aG,e=>l1 e λE ax V=>qJ E λE m a=>m == A.cV && mH E && a.endLine == V.line && decide (ax.length<29) && dY T ak R N.X E && j3 T ak R (aG.map r.n) ax| .aY A q G,e=>Ha e (λs d E=>A.w5 == D d && jC R q s && jC R G E)||
   (ys e (λs f g=>hX g λE n=>f.map D == [A.rW] && n.isEmpty && nQ E && jC R q s && jC R G E)||
   vW e (λs E=>A.O3 && yq E && jC R q s && jC R G E))
 |.kX S q,e=>(match S with
  |.b0 w X aG=>l1 e λE ax _=>nq E λG=>hX ax λb n=>X == G && lz R X && hn b && jC R q b && j3 T ak R aG n|.eA A aG=>l1 e λE ax V=>qJ E λE m N=>m == A.cV && mH E && N.endLine == V.line && decide (ax.length<29) && !aG.isEmpty && jC R q E && j3 T ak R aG ax)
 |.tk t q,e=>eO e λax=>hX ax λS n=>hX n λb cR=>cR.isEmpty && hn S && hn b && t5 S (G8 t) && jC R q b|.rQ N C v,e=>l1 e λE ax V=>qJ E λE m a=>hX ax λS n=>hX n λb n=>m=="setdefault" && n.isEmpty && mH E && a.endLine==V.line && hn S && hn b && dY T ak R N.X E && dY T ak R C S && dY T ak R v b|.not q,e=>vX e λA X=>A == .Not && ik X && jC R q X|.or q G,e=>vY .Or e λS b s=>ik S && (!s ||ik b) && jC R q S && jC R G b|.and q G,e=>vY .And e λS b s=>ik S && (!s ||ik b) && jC R q S && jC R G b
def yy (z:er)(C:bV->bV->Bool):Bool:=ho λO=>Stmt.Assign.elim z O λa e _=>hX a λg n=>n.isEmpty && C g e
def Hp (z:er)(C:bV->Bool):Bool:=ho λO=>Stmt.Expr.elim z O λe _=>C e
def Hq (z:er)(C:oU->Bool):Bool:=ho λO=>Stmt.Return.elim z O λe _=>C e
def yz (z:er)(C:bV->lb->lb->Bool):Bool:=ho λO=>Stmt.If.elim z O λe S b _=>C e S b
def PA (z:er)(C:bV->bV->lb->Bool):Bool:=ho λG=>Stmt.For.elim z G λn O b s _=>s.isEmpty && C n O b
def PB (z:er)(C:bV->lb->Bool):Bool:=ho λO=>Stmt.While.elim z O λe b s _=>s.isEmpty && C e b
def PC (z:er)(C:lb->lb->Bool):Bool:=ho λO=>Stmt.Try.elim z O λb a s w _=>!a.isEmpty && (w.isEmpty && C b s)
def PD (z:er):Bool:=ho λO=>Stmt.Pass.elim z O λ_=>ag
def PE (z:er):Bool:=ho λO=>Stmt.Continue.elim z O λ_=>ag
section
variable {z:er}{aO:er->Prop}
theorem B5 {C}(Y:yy z C=ag)(Q:∀g e V,C g e=ag->aO (.Assign [g] e V)):aO z:=hY Y λO=>Stmt.Assign.elim  z O (λa e V Y=>hZ (aO:=λa=>aO (.Assign a e V)) Y λg n Y=>by simp_all) Y
theorem PF {C}(Y:Hp z C=ag)(Q:∀e V,C e=ag->aO (.Expr e V)):aO z:=hY Y λO=>Stmt.Expr.elim  z O Q Y
theorem PG {C}(Y:Hq z C=ag)(Q:∀e V,C e=ag->aO (.Return e V)):aO z:=hY Y λO=>Stmt.Return.elim  z O Q Y
theorem B6 {C}(Y:yz z C=ag)(Q:∀e S b V,C e S b=ag->aO (.If e S b V)):aO z:=hY Y λO=>Stmt.If.elim  z O Q Y
theorem acR {C}(Y:PA z C=ag)(Q:∀n O b V,C n O b=ag->aO (.For n O b [] V)):aO z:=hY Y λO=>Stmt.For.elim  z O (λn O b s V Y=>by cases s with |nil=>exact Q n O b V Y |cons=>cases Y) Y
theorem acS {C}(Y:PB z C=ag)(Q:∀e b V,C e b=ag->aO (.While e b [] V)):aO z:=hY Y λO=>Stmt.While.elim  z O (λe b s V Y=>by cases s with |nil=>exact Q e b V Y |cons=>cases Y) Y
theorem acT {C}(Y:PC z C=ag)(Q:∀b S E s V,C b s=ag->aO (.Try b (S::E) s [] V)):aO z:=hY Y λO=>Stmt.Try.elim  z O (λb a s w V Y=>by cases a<;>cases w<;>first |exact Q b _ _ s V Y |cases Y) Y
theorem acU (Y:PD z=ag)(Q:∀V,aO (.Pass V)):aO z:=hY Y λO=>Stmt.Pass.elim  z O Q
theorem acV (Y:PE z=ag)(Q:∀V,aO (.Continue V)):aO z:=hY Y λO=>Stmt.Continue.elim  z O Q
end
noncomputable def PH:lb->(er->lb->Bool)->Bool
 |S::s,C=>C S s |[],_=>aA
theorem acW {s:lb}{aO:lb->Prop}{C}(Y:PH s C=ag)(Q:∀S n,C S n=ag->aO (S::n)):aO s:=by cases s with |nil=>cases Y |cons S n=>exact Q S n Y
noncomputable def acX:Const->Bool
 |.str _=>ag |_=>aA
mutual
def PI (R:gr):aN->er->Bool
 |.cp O q,z=>yy z λg e=>t2 R O g && (rU e ||q.Ho) && jC T ak R q e|.tW is X,z=>yy z λg e=>eO g λax=>rU e && OX e && is.length == 5 && yr R is ax && dY T ak R X e|.kY N y X,z=>yy z λg e=>qJ g λA w _=>y == w && T.o5.contains y && dY T ak R N.X A && dY T ak R X e|.rR N C X,z=>yy z λg e=>vW g λA O=>yq O && dY T ak R N.X A && dY T ak R C O && dY T ak R X e|.aT q,z=>Hp z λe=>rU e && jC T ak R q e|.cG q,z=>Hq z λe=>e.any (jC T ak R q)|.tX,z=>Hq z λe=>e.isNone|.ef t S b,z=>yz z λe X q=>ik e && dY T ak R t e && kp R S X && kp R b q|.tZ t S b,z=>yz z λe X q=>BY e && dY T ak R t e && kp R S X && kp R b q|.qE t w S b,z=>yz z λe X q=>vY .And e (λN V s=>s && BY N && dY T ak R t N && ik V && dY T ak R w V) && kp R S X && kp R b q|.tY t S b,z=>yz z λe X q=>ik e && jC T ak R t e && kp R S X && kp R b q|.gQ d4 ed bZ b,z=>PA z λn a X=>nQ a && vV R bZ n && B1 T R d4 bZ a (yw T ak R ed a) (j3 T ak R ed) && kp R b X|.qF t b,z=>PB z λe X=>ik e && dY T ak R t e && kp R b X|.nk,z=>PD z ||Hp z λe=>t5 e acX
 |.cont,z=>PE z|.jd,_=>ag|.pI b c,z=>PC z λX q=>kp R b X && kp R c q
def kp (R:gr):List aN->lb->Bool
 |[],c1=>c1.isEmpty|S::aG,c1=>PH c1 λz c1=>PI R S z && kp R aG c1
end
end
section
variable {Z:bU}{R:gr}{C:Nat}{k:cg}{T:pK}{ak:fG}{e A:bV}{ax:fz}{n:b1}{N pos fE:Pos}
def acY (I:cO)(ak:fG)(k:cg)(b:nj)(n:b1)(aG:pB):b1:=match aG with |[]=>Ai I b.gd b.E n |_=>qe I b.gd b.E n (H.et I ak k (aG.map r.n))
theorem acZ (a:bu Z A n)(g:gV Z ax (H.et Z.I ak k (aG.map r.n)))(f:ax.all hn=ag)(j:mH A=ag)(c:(fE.endLine == pos.line)=ag)(l:ax.length<29)(h:ax=[]↔aG=[]):bu Z (.Call (.Attribute A b.cV fE) ax [] pos) (acY Z.I ak k b n aG):=by
 have d:=λy=>vR (x:=Z.x) (m:=y) j
 cases aG with
 |nil=>
  rw[h.mpr rfl];cases b with
  |dE=>exact EC vx M5 M6 EG a (d _) c|l0=>exact EC vx M7 M8 Lu a (d _) c|tV=>exact EC vx M9 M_ Lv a (d _) c
 |cons S aG=>
  cases ax with
  |nil=>cases h.mp rfl|cons e ax=>
   have w:=BX (x:=Z.x) (pos:=pos) f l;rw[k9,cJ]at f;have bf:=j0 (x:=Z.x) (ax:=ax) f.1;have bo:=qH (x:=Z.x) (pos:=pos) f.2;cases b with
   |dE=>exact Aj vx M5 M6 EG a g (d _) w c bf bo|l0=>exact Aj vx M7 M8 Lu a g (d _) w c bf bo|tV=>exact Aj vx M9 M_ Lv a g (d _) w c bf bo
theorem je:∀(q:dp) {e:bV},T.dZ ak Z.I Z.a6->i1 Z R C k->i2 Z C q.dd->jC T ak R q e=ag->eg Z e (q.cf Z.I ak k)
 |.bh X,e,a,g,au,Y=>dO X a g au Y|.ko O,e,a,g,au,Y=>by
  exact dO (.v O) a g (λ_ G=>by cases G) Y
 |.b0 w X aG,e,a,g,au,Y=>by
  exact dO (.b0 w X (aG.map r.n)) a g au Y
 |.eL f N m aG,e,a,g,au,Y=>by
  have:=dO (.eL f N.X m (aG.map r.n)) a g au Y;exact this
 |.eS b N aG,e,a,g,au,Y=>by
  apply mI Y;intro E ax V Y;apply rX Y;intro E m j Y;simp only[cJ]at Y;cases eq_of_beq Y.1.1.1.1.1;exact gH (acZ (b:=b) (dO N.X a g au.s Y.1.2).di (mK _ a g au.E Y.2) (mJ Y.2).1 Y.1.1.1.1.2 Y.1.1.1.2 (of_decide_eq_true Y.1.1.2) ((mJ Y.2).2.trans List.map_eq_nil_iff)) rfl
 |.aY A q G,e,a,g,au,Y=>by
  rcases(pY _ _).mp Y with Y |Y
  ·apply Pa Y;intro s l E N Y
   simp only[cJ]at Y;exact gH (KY (Pn (eq_of_beq Y.1.1)) (je q a g au.s Y.1.2).di (je G a g au.E Y.2).di) rfl
  rcases(pY _ _).mp Y with Y |Y
  ·apply BZ Y;intro s P Q N Y
   apply hZ Y;intro E n Y;simp only[cJ]at Y;cases j_.mp Y.1.1.1.2;obtain⟨l,c,rfl⟩:=Hk (B4 Y.1.1.1.1);exact Pg (t6 g.oA c) (je q a g au.s Y.1.2) (je G a g au.E Y.2) Y.1.1.2
  ·apply yt Y;intro s E N Y
   simp only[cJ]at Y;have c:A=.fq:=by
    have:=Y.1.1.1;cases A<;>first |rfl |cases this
   subst c;exact gH (Lk (NJ g.oA) (je q a g au.s Y.1.2).di (je G a g au.E Y.2).di (OZ Y.1.1.2)) rfl
 |.kX (.b0 w X aG) q,e,a,g,au,Y=>by
  apply mI Y;intro E ax V Y;apply nR Y;intro G N Y;apply hZ Y;intro b n Y;simp only[cJ]at Y;cases eq_of_beq Y.1.1.1.1;obtain⟨o,p⟩:=oB g.toyx Y.1.1.1.2;obtain⟨aJ,h,u,F⟩:=au _ (eI ..);have d:i2 Z C (q.dd++H.fC aG):=λx z=>au x (f5 _ z)
  exact gH (Po F (g.qK.bQ u) g.nk (qc (je q a g d.s Y.1.2).di (mK aG a g d.E Y.2) (j0 Y.1.1.2)) (by rw[k9,Y.1.1.2];exact(mJ Y.2).1) o p (λG=>by cases G)) rfl
 |.kX (.eA A aG) q,e,a,g,au,Y=>by
  apply mI Y;intro E ax V Y;apply rX Y;intro E m N Y;simp only[cJ]at Y;cases eq_of_beq Y.1.1.1.1.1.1;have au:i2 Z C (q.dd++H.fC aG):=au;exact gH (Pp (je q a g au.s Y.1.2).di (mK aG a g au.E Y.2) (mJ Y.2).1 Y.1.1.1.1.1.2 Y.1.1.1.1.2 (of_decide_eq_true Y.1.1.1.2) (Hm Y.2 Y.1.1.2)) rfl
 |.tk t q,e,a,g,au,Y=>by
  apply Hc Y;intro ax y N Y;apply hZ Y;intro S n Y;apply hZ Y;intro b cR Y;simp only[cJ]at Y;cases j_.mp Y.1.1.1.1;exact gH (K3 (qc (dO (.C t) a g (λ_ G=>by cases G) Y.1.2).di (qc (je q a g au Y.2).di w9 (j0 Y.1.1.2)) (j0 Y.1.1.1.2))) rfl
 |.rQ N C v,e,a,g,au,Y=>by
  apply mI Y;intro E ax V Y;apply rX Y;intro E m j Y;apply hZ Y;intro S n Y;apply hZ Y;intro b n Y;simp only[cJ]at Y;obtain⟨⟨⟨⟨⟨⟨⟨⟨af,B⟩,ai⟩,bw⟩,I⟩,J⟩,K⟩,L⟩,M⟩:=Y;cases eq_of_beq af;cases j_.mp B;have aX:[S,b].all hn=ag:=by simp[I,J]
  exact gH (Y5 g.oA (dO N.X a g au.s K).di (dO C a g au.E.s L).di (dO v a g au.E.E M).di ⟨vR ai,BX aX (show 2<29 by decide),bw,by rw[rV aX];rfl⟩) rfl
 |.not q,e,a,g,au,Y=>by
  apply B0 Y;intro A X N Y;simp only[cJ]at Y;cases eq_of_beq Y.1.1;exact Pm (je q a g au Y.2) Y.1.2
 |.or q G,e,a,g,au,Y=>by
  apply yv Y;intro S b s N Y;simp only[cJ]at Y;cases s with
  |nil=>exact Pk (je q a g au.s Y.1.2) (je G a g au.E Y.2) Y.1.1.1 Y.1.1.2|cons V s=>exact Pl (je q a g au.s Y.1.2) (je G a g au.E Y.2) Y.1.1.1
 |.and q G,e,a,g,au,Y=>by
  apply yv Y;intro S b s N Y;simp only[cJ]at Y;cases s with
  |nil=>exact Ph (je q a g au.s Y.1.2) (je G a g au.E Y.2) Y.1.1.1 Y.1.1.2|cons V s=>exact Pj (je q a g au.s Y.1.2) (je G a g au.E Y.2) Y.1.1.1
theorem ac0 {a:Scope}{X:Str} {y:Nat}:∃b,swapsWith (.ListComp iV gs a pos) (D (.Name X N)) y x=pure b:=⟨_,rfl⟩
theorem ac1 {w:Str}{y:Nat}:swapsWith e (D (.Attribute A w N)) y Z.x=pure aA:=by cases e<;>rfl
theorem ac2 {O:bV}{y:Nat}:swapsWithSole [.Subscript A O N] e y Z.x=pure aA:=by cases e<;>rfl
theorem ac3 {y:Nat}(Y:rU e=ag):swapsWithSole [bZ] e y Z.x=pure aA:=G5 Y _ y
theorem ac4 {O:bV}(Y:yq O=ag)(v:bq):assign (.Subscript A O N) Z.x v=(do
   let a <- holding [v] (eval A Z.x)
   let b <- holding [v,a] (eval O Z.x)
   standAt N
   holding [v,a,b] (setItem a b v)
   release [v,a,b] []):=by
 cases O<;>first |rfl |cases Y
theorem ac5 (c:T.dZ ak Z.I Z.a6)(g:t7 Z R C k){O:Nat}(au:i2 Z C q.dd)(af:t2 R O A=ag)(ai:(rU e ||q.Ho)=ag)(bw:jC T ak R q e=ag):
  jN Z (.Assign [A] e V) (o2 (q.cf Z.I ak k) (o1 O)):=by
 have d:=(je q c g.toi1 au bw).di;obtain⟨l,X,N,rfl⟩:=Hi g.toyx g.az (.inl g.hO) af;unfold t2 at af;rw[cJ]at af;have aE:Z.bB[O]?=D X:=by rw[g.bB];exact eq_of_beq af.1
 have f:Z.bB.Nodup:=by rw[g.bB];exact g.az
 have h:=Pe g.toyx af.2;by_cases a:rU e=ag
 ·exact KR f aE h d (G5 a _ _) (.inl (g.hO X))
 ·have a:rU e=aA:=by simpa using a
  rw[a,Bool.false_or]at ai;unfold dp.Ho at ai;split at ai
  ·rename_i b2 bN d4 ed bZ t G
   obtain⟨n,m,ifs,iV,o,pos,rfl,b7,s,u,v,w,y,z⟩:=Pw b2 bN d4 ed bZ t G (Hn ed) (mK ed) (Py t) (dO G) c g.toi1 au bw;obtain⟨b,j⟩:=ac0 (iV:=iV) (gs:=[⟨n,m,ifs,0⟩]) (a:=o) (pos:=pos) (X:=X) (N:=N) (x:=Z.x) (y:=V.line);cases b with
   |true=>
    exact Wi g.fD s u v w y l j (G4 z)
   |false=>exact KR f aE h d j (.inl (g.hO X))
  ·cases ai
theorem t7.w6 (g:t7 Z R C k):t7 Z.w6 R C jO where
 bB:=g.bB
 cV:=g.cV
 hP:=g.hP
 fD:=g.fD
 qK:=g.qK
 nk:=Hf
 cells:=g.cells
 hO:=g.hO
 az:=g.az
 fl:=PassesOwn.never
 aT:=g.aT
 hN:=g.hN
theorem ac6 {dr eC:gf}(a:mT Z.w6 body dr)(b:mT Z orelse eC):jN Z (.Try body (h::hs) orelse [] pos) (sT dr eC):=by
 intro aj z l Q c d Y;refine wpAny_Try_except (kx (a aj z l Q _ (d.oZ _) Y) (λw bf V=>?_) λe bf V=>fX V)
 replace V:=V.uU;cases w with
 |next=>obtain⟨f,ay,g,V⟩:=V;exact b aj bf f ay c g V|_=>exact V
mutual
theorem ac7:∀{Z:bU}{k:cg}(a:T.dZ ak Z.I Z.a6) (g:t7 Z R C k) (z:aN) {aX:er},i2 Z C z.dd->PI T ak R z aX=ag->jN Z aX (z.cf Z.I ak k)
 |Z,k,a,g,.cp O q,aX,au,Y=>by
  apply B5 Y;intro A e V Y;simp only[cJ]at Y;exact ac5 a g au Y.1.1 Y.1.2 Y.2
 |Z,k,a,g,.tW is X,aX,au,Y=>by
  apply B5 Y;intro A e V Y;apply Hc Y;intro ax y N Y;simp only[cJ]at Y;obtain⟨⟨⟨⟨af,ai⟩,bw⟩,f⟩,h⟩:=Y;obtain⟨S,b,t⟩:=Hj g.toi1 g.az (.inl g.hO) f;exact KQ (dO X a g.toi1 au h).di (ZE g.fD S (b.trans (eq_of_beq bw)) t) (ac3 af) (acq ai)
 |Z,k,a,g,.kY N y X,aX,au,Y=>by
  apply B5 Y;intro A e V Y;apply rX Y;intro A w E Y;simp only[cJ]at Y;cases eq_of_beq Y.1.1.1;have j:=(dO N.X a g.toi1 au.s Y.1.2).di;have m:=(dO X a g.toi1 au.E Y.2).di;intro aj z l Q o p V;obtain⟨t,c,V⟩:=V;exact YV (a.cls t c) (a.o5 t c _ (by simpa using Y.1.1.2)) j m ac1 aj z l Q o p V
 |Z,k,a,g,.rR N C X,aX,au,Y=>by
  apply B5 Y;intro A e V Y;apply yt Y;intro A O E Y;simp only[cJ]at Y;exact KQ (dO X a g.toi1 au.E.E Y.2).di (Uv (dO N.X a g.toi1 au.s Y.1.1.2).di (dO C a g.toi1 au.E.s Y.1.2).di (ab1 g.oA) (ac4 Y.1.1.1)) ac2 acr
 |Z,k,a,g,.aT q,aX,au,Y=>by
  apply PF Y;intro e V Y;simp only[cJ]at Y;exact Uk (je q a g.toi1 au Y.2).di (G5 Y.1 _ _)
 |Z,k,a,g,.cG q,aX,au,Y=>by
  apply PG Y;intro e V Y;cases e with
  |none=>cases Y|some e=>exact Ul (je q a g.toi1 au Y).di
 |Z,k,a,g,.tX,aX,au,Y=>by
  apply PG Y;intro e V Y;cases sx.mp Y;exact Um
 |Z,k,a,g,.ef t S b,aX,au,Y=>by
  apply B6 Y;intro e X q V Y;simp only[cJ]at Y;exact Av ((dO t a g.toi1 au.s Y.1.1.2).ll Y.1.1.1) (l2 a g S au.E.s Y.1.2) (l2 a g b au.E.E Y.2)
 |Z,k,a,g,.tZ t S b,aX,au,Y=>by
  apply B6 Y;intro e X q V Y;simp only[cJ]at Y;exact Av (MY (dO t a g.toi1 au.s Y.1.1.2).di (G6 Y.1.1.1)) (l2 a g S au.E.s Y.1.2) (l2 a g b au.E.E Y.2)
 |Z,k,a,g,.qE t w S b,aX,au,Y=>by
  apply B6 Y;intro e X q V Y;simp only[cJ]at Y;exact Av (yv (aO:=λe=>hR Z e _) Y.1.1 λX q s N Y=>by
   simp only[cJ]at Y;cases s with
   |cons=>cases Y.1.1.1.1|nil=>exact(E1 (MY (dO t a g.toi1 au.s Y.1.1.2).di (G6 Y.1.1.1.2)) (KJ ((dO w a g.toi1 au.E.s Y.2).ll Y.1.2))).ll) (l2 a g S au.E.E.s Y.1.2) (l2 a g b au.E.E.E Y.2)
 |Z,k,a,g,.tY t S b,aX,au,Y=>by
  apply B6 Y;intro e X q V Y;simp only[cJ]at Y;exact Av ((je t a g.toi1 au.s Y.1.1.2).ll Y.1.1.1) (l2 a g S au.E.s Y.1.2) (l2 a g b au.E.E Y.2)
 |Z,k,a,g,.gQ d4 ed bZ b,aX,au,Y=>by
  apply acR Y;intro n x X V Y;simp only[cJ]at Y;exact UB g.fl g.fD (Pu a g.toi1 (Pt Y.1.1.2) Y.1.2 (Hn ed a g.toi1 au.s) λax G=>⟨mK ed a g.toi1 au.s G,(mJ G).1⟩) (Pq g.toi1 g.az (.inl g.hO) Y.1.1.2) (l2 a g b au.E Y.2) (G4 Y.1.1.1)
 |Z,k,a,g,.qF t b,aX,au,Y=>by
  apply acS Y;intro e X V Y;simp only[cJ]at Y;exact Uw g.fl ((dO t a g.toi1 au.s Y.1.2).ll Y.1.1) (l2 a g b au.E Y.2)
 |Z,k,a,g,.nk,aX,au,Y=>by
  rcases(pY _ _).mp Y with Y |Y
  ·apply acU Y;intro V;exact Uh
  ·apply PF Y;intro e V Y
   apply yu Y;intro t y N Y;cases t<;>first |exact Uj |cases Y
 |Z,k,a,g,.cont,aX,au,Y=>by
  apply acV Y;intro V;exact Ui
 |Z,k,a,g,.jd,aX,au,Y=>Un|Z,k,a,g,.pI b d,aX,au,Y=>by
  apply acT Y;intro X S E q V Y;simp only[cJ]at Y;have u:=l2 (Z:=Z.w6) (k:=jO) a g.w6 b au.s Y.1;have v:=l2 a g d au.E Y.2;exact(show jN Z _ (sT (aN.et Z.I ak jO b) (aN.et Z.I ak k d))from ac6 u v)
theorem l2:∀{Z:bU}{k:cg}(a:T.dZ ak Z.I Z.a6) (g:t7 Z R C k) (c1:cK) {aX:lb},i2 Z C (aN.fC c1)->kp T ak R c1 aX=ag->mT Z aX (aN.et Z.I ak k c1)
 |Z,k,a,g,[],aX,au,Y=>by
  unfold kp at Y;rw[aN.et,j_.mp Y];exact Ue
 |Z,k,a,g,z::c1,aX,au,Y=>by
  apply acW Y;intro S n Y;simp only[cJ]at Y;exact Ug (ac7 a g z au.s Y.1) (l2 a g c1 au.E Y.2)
end
end
theorem Hr {aP:Type}{N:aP->Prop}:∀X∈([]:List aP),N X:=λ_ Y=>by cases Y
theorem ac8 {aP:Type}{N:aP->Prop}{S:aP}{s:List aP}(Y:N S)(n:∀X∈s,N X):∀X∈S::s,N X:=λX a=>by
 rcases dn.mp a with rfl |a
 ·exact Y
 exact n X a
theorem ac9 {I:cO}{X:Str}{j:kd}(Y:xM I X j):Be I (dz I X) (j.map eX):=by
 rcases Y (λ_=>i)with Y |Y
 ·rcases Y with Y |⟨_,Y⟩<;>cases Y
 exact Y
noncomputable def t8 (a:js->Prop):List js->Prop
 |[]=>True|b::s=>a b/\t8 a s
theorem t8.mem:∀{s:oz},t8 Φ s->∀a∈s,Φ a
 |[],_,_,Y=>by cases Y
 |c::s,Y,a,b=>by
  rcases dn.mp b with rfl |b
  ·exact Y.1
  exact t8.mem Y.2 a b
section
variable {P:dk}{p:cN}{I:jv}{a6:e2}{bj:Heap}{X V:Str}{aX:er}{bB aJ:c_}{C:Nat}{T:pK}{ak:fG}{body:cK}
theorem PJ (b:o6 bB aJ (gg aX)){w:ba} {r:dM} {Q:ar}(c:gD C (r.deeper (envOfC V (gg aX) z.heap.objs.size w ah))):
  t7 (rf fv P p I a6 bj bB V (gg aX) w ah r mh z Q k) ⟨bB,(gg aX).names⟩ C k where
 bB:=rfl
 cV:=rfl
 hP:=b.hP
 fD:=rfl
 qK:=c
 nk:=Hf
 cells:=λX a=>by
  rcases a with a |a
  ·exact Ex a
  exact absurd rfl (b.K9 _ (sa a))
 hO:=λ_=>rfl
 az:=b.az
 fl:=PassesOwn.leaving
 aT:=rfl
 hN:=⟨rfl,rfl⟩
theorem PK {y m:Nat} {Q:ar}(Y:f3 I (cy ak y m body) a Q o k):a.length=y:=by
 obtain⟨F,Y,ab,e,f,g,c,b⟩:=Y;unfold cy at b;split at b
 ·rename_i d
  rw[<- bL.cn c,d]
 exact b.elim
theorem _root_.L2.hz.Hs {w:ba} {cx:gW}(F:hz I X V aX w bP)(c:o6 bB aJ (gg aX))(d:∀a Q o k,cx a Q o k->a.length=aJ.length)
  (e:∀(b:bq) (r:dM) (f:List PySem.Env) (z:bz) (Q:ar) (a:bp) (o:cm) (k:cg),gD C (r.deeper (envOfC V (gg aX) z.heap.objs.size w b))->cx a Q o k ->
   ∃n,mT (rf fv P p I a6 bj bB V (gg aX) w b r f z Q k) (jo aX) n/\n {dx:=λ_ ay=>o .a9 ay,eT:=o} (nC bB a) Q):gX P p I a6 bj fv (C+1) w bP aJ cx:=by
 obtain⟨h,j,l,m,q,s,b,t,u,rfl,lk,g⟩:=F.aT;exact Ld lk g c d (e b)
theorem _root_.L2.tx.Hs {w:ba}{bP:i4}{cx:gW}{T:ba}(F:tx I T X V aX w bP)(c:o6 bB aJ (gg aX))(d:∀a Q o k,cx a Q o k->a.length=aJ.length)
  (e:∀(b:bq) (r:dM) (f:List PySem.Env) (z:bz) (Q:ar) (a:bp) (o:cm) (k:cg),gD C (r.deeper (envOfC V (gg aX) z.heap.objs.size w b))->cx a Q o k ->
   ∃n,mT (rf fv P p I a6 bj bB V (gg aX) w b r f z Q k) (jo aX) n/\n {dx:=λ_ ay=>o .a9 ay,eT:=o} (nC bB a) Q):gX P p I a6 bj fv (C+1) w bP aJ cx:=by
 obtain⟨h,j,l,m,q,s,b,t,u,rfl,lk,g⟩:=F.aT;exact Ld lk g c d (e b)
theorem rY {y m:Nat}(c:ak.dZ I)(d:T.dZ ak I a6)(au:t8 (js.Q P p I a6 bj C) (aN.fC body))(e:kp T ak ⟨bB,(gg aX).names⟩ body (jo aX)=ag)
  (aN:o6 bB aJ (gg aX)) (b:M4 I X V aX aJ) (f:aJ.length=y) (g:bB.length=y+m):xI P p I a6 bj fv (C+1) X V aX aJ (f3 I (cy ak y m body)):=λw bP F=>
 ⟨F.Hs aN (λa Q o k Y=>(PK Y).trans f.symm) λj r l z Q a o k h Y=>⟨VI.aN.et I ak k body,l2 d (PJ aN h) body au.mem e,OW c g a Q o k Y⟩,b w bP F⟩
theorem ac_ {y m:Nat}(b:ak.dZ I)(c:T.dZ ak I a6)(au:t8 (js.Q P p I a6 bj C) (aN.fC body))(d:kp T ak ⟨bB,(gg aX).names⟩ body (jo aX)=ag)
  (aN:o6 bB aJ (gg aX)) (e:aJ.length=y) (f:bB.length=y+m):Nc P p I a6 bj fv (C+1) X V aX aJ (f3 I (cy ak y m body)):=λT w bP F=>
 F.Hs aN (λa Q o k Y=>(PK Y).trans e.symm) λh r j z Q a o k g Y=>⟨VI.aN.et I ak k body,l2 c (PJ aN g) body au.mem d,OW b f a Q o k Y⟩
noncomputable abbrev H.y (O:Int):H:=.C (.c O)
abbrev H.O (S:H)(y:Int):H:=.aY .fq S (.C (.c y))
abbrev Ht (P:dk)(p:cN)(I:cO)(a6:e2)(bj:Heap)(C:Nat)(X:Str)(aJ:c_)(w:bY):Prop:=AF P p I a6 bj fv C X aJ (f3 I w)
theorem bJ {w:bY}(g:Ht P p I a6 bj h X aJ w)(Y:h<=C:=by decide):js.Q P p I a6 bj C (.b0 w X):=⟨aJ,h,Y,g⟩
theorem Hu {w:bY}(g:tv P p I a6 bj fv h X (dz I X) aJ (f3 I w))(Y:h+1<=C:=by decide):js.Q P p I a6 bj C (.jn w X):=⟨aJ,h,Y,g⟩
theorem lA {w:bY}{R:Str}(g:qm P p I a6 bj fv h (dz I R) X aJ (f3 I w))(Y:h<=C:=by decide):js.Q P p I a6 bj C (.eL X R w):=⟨aJ,h,Y,g⟩
def t9 (aX:er):List Str:=(gg aX).names.filterMap λV=>match V.2 with |.local=>D V.1 |.cell=>D V.1 |_=>i
structure Hv (T:pK)(ak:fG)(I:cO):Prop where
 b:∀X∈T.c6,L2.FI I X
 R:∀R∈ak.dg,L2.js I R
 S:∀R∈ak.dg,∀S∈T.o5,L2.vw I R S
 v:∀V∈T.vT,L2.xH I V.1 V.2
 C:∀V∈ak.m9,L2.tw I V.1
 n:∀V∈ak.m9,L2.xM I V.1 V.2
 X:∀X∈ak.aT,L2.tw I X
theorem Hv.mZ (e:Hv T ak I)(m:lW I a6):T.dZ ak I a6:=⟨λX Y=>m.Y6 (e.b X Y),λR Y=>(e.R R Y).cls,λR Y S aF=>(e.S R Y S aF).aU,λV Y=>m.Y7 (e.v V Y),λV Y=>m.M1 (e.C V Y),λX Y=>m.M1 (e.X X Y)⟩
structure PL (P:dk)(p:cN)(bj:Heap)(T:pK)(ak:fG)(I:cO)(a6:e2):Prop where
 m:lW I a6
 fI:ak.dZ I
 n:T.dZ ak I a6
theorem du (C:Nat){y m:Nat}{w:bY}(e:PL P p bj T ak I a6)(a:w=cy ak y m body)(F:c7 I X aX)(au:t8 (js.Q P p I a6 bj C) (aN.fC body))(c:kp T ak ⟨t9 aX,(gg aX).names⟩ body (jo aX)=ag:=by decide +kernel)
  (aN:o6 (t9 aX) ((t9 aX).take y) (gg aX):=by exact⟨rfl,rfl,rfl,by decide +kernel,by decide +kernel,by decide +kernel,by decide +kernel,by decide +kernel⟩)
  (b:M4 I X X aX ((t9 aX).take y):=by first |exact λ_ _ F=>hz.FG rfl F (by intros;rfl)|exact λ_ _ F=>hz.xF rfl F (by intros;rfl)|exact λ_ _ F=>hz.M0 rfl F (by intros;rfl)|exact λ_ _ F=>hz.binds4 rfl F (by intros;rfl)|exact λ_ _ F=>hz.binds5 rfl F (by intros;rfl))
  (d:((t9 aX).take y).length=y:=by decide +kernel) (f:(t9 aX).length=y+m:=by decide +kernel):Ht P p I a6 bj (C+1) X ((t9 aX).take y) w:=by subst a;exact M3 e.m F (rY e.fI e.n au c aN b d f)
theorem ada {cx:gW}(F:Nb P p I a6 bj dN C X aO aJ [] cx):tv P p I a6 bj dN C X aO aJ cx:=by
 obtain⟨w,bP,ab,F,a,b,c,d⟩:=F;cases c;exact⟨w,bP,F,a,b,d⟩
theorem adb {T w:ba} {y:Nat}(q:aJ.length=10)(F:tx I T X V aX w bP)(s:I.lookup T=D ⟨δ,b5,.seq γ y,ε⟩)(t:γ.toList.length=5)
  (Y:∀(a b c d e:bq) (u v x:bq) (B:jl) (C E:bq) (f g h j k l m n o p:bq) (z:bz),(∃A,z.heap.get? T=D A/\A.data=.seq #[a,b,c,d,e] y)->BindsTo z (W.fnOf X V (lp aX) (jo aX) (gg aX) (.ref T) u v x B C E) ⟨[f,g,h,j,k,l,m,n,o,p],[]⟩ (aJ.zip [f,g,h,j,k,l,m,n,o,p])):iC I bP aJ (γ.toList.drop 5):=by
 obtain⟨a,b,c,d,e,rfl⟩:=Zy t;exact ZF q F s (Y a b c d e)
theorem gX.ade {w:ba} {cx b:gW}(F:gX P p I a6 bj fv C w bP aJ cx)(Y:∀a Q o k,b a Q o k->cx a Q o jO):gX P p I a6 bj fv C w bP aJ b:=by
 refine⟨λa Q o k V=>F.cn _ _ _ _ (Y _ _ _ _ V),λr c z Q d ae a o k e f g h E V=>codeAny_mono (F.f7 r c z Q d ae a o jO e f g h E (Y _ _ _ _ V)) λE bc G=>?_⟩
 assumption
theorem PM:∀(a:eM) {Q:ar},cc I (a.map aq.c) (a.map aS.c) Q
 |[],_=>rfl|y::a,Q=>⟨_,_,rfl,rfl,PM a⟩
noncomputable def dR (a:eM):aq:=.aL (.az .dR (a.map .c))
theorem adf {w:bY}(c:∀b:eM,b.length<=63->AV b->w.b4 [dR b]=.f (.aQ ag)):∀a Q o k,xJ I a Q o k->f3 I w a Q o jO:=by
 rintro a Q o k ⟨S,b,rfl,d,e,f,V⟩;refine Gj (ab:=[.az .dR (b.map .c)]) (bx.fu Q) ?_ ?_
 ·exact⟨_,_,rfl,⟨S,_,rfl,d,PM b⟩,rfl⟩
 ·have:[aq.az .dR _].map aq.bM=[dR b]:=rfl
  rw[this,c b e f];rintro a4 ay X v Y g t z A;cases A.2.aQ;exact V ay
theorem adg {w:bY}(F:gX P p I a6 bj fv C hS bP aJ (f3 I w))(b:∀a:eM,a.length<=63->AV a->w.b4 [dR a]=.f (.aQ ag)):gX P p I a6 bj fv C hS bP aJ (xJ I):=gX.ade F (adf b)
end
section
variable {ak:fG}{aD:md}{x e:aZ}{c1 S b:cK}{q:dp}{R:H}{t:aq}{O:Nat}{ab:bO}
theorem B7 {aP:Type}{S:aP}:S=S:=of_eq_true (eq_self S)
theorem PN (E:b8 aZ fN)(w g:nh):jY (jY E w) g=jY E λe=>jY (w e) g:=by
 cases E with
 |f A e=>cases A<;>rfl
 |_=>rfl
theorem yA:∀(S:cK) (x:aZ),jY (aN.a_ ak aD S x) (λe=>aN.a_ ak aD b e)=aN.a_ ak aD (S++b) x
 |[],x=>rfl|z::S,x=>by
  rw[aN.a_,PN];congr 1;funext e;exact yA S e
theorem nr:aN.a_ ak aD [] x=.f .dx x:=by rw[aN.a_]
theorem kZ (Y:q.aW ak x=.f t e)(a:aD O=aA)(aE:O<e.length):aN.a_ ak aD (.cp O q::c1) x=aN.a_ ak aD c1 (e.set O (D t)):=by
 rw[aN.a_,aN.f7,Y];show jY (if aD O=aA/\O<e.length then .f _ _ else .aU) _=_
 rw[if_pos ⟨a,aE⟩];rfl
theorem adh (Y:q.aW ak x=.f t e):aN.a_ ak aD (.aT q::c1) x=aN.a_ ak aD c1 e:=by
 rw[aN.a_,aN.f7,Y];rfl
theorem PO (Y:q.aW ak x=.f t e):aN.a_ ak aD (.cG q::c1) x=.f (.eT t) e:=by
 rw[aN.a_,aN.f7,Y];rfl
theorem nS (Y:(R.aW ak x).aC fO=.f ag):aN.a_ ak aD (.ef R S b::c1) x=aN.a_ ak aD (S++c1) x:=by
 rw[aN.a_,aN.f7,Y,<- yA];rfl
theorem jD (Y:(R.aW ak x).aC fO=.f aA):aN.a_ ak aD (.ef R S b::c1) x=aN.a_ ak aD (b++c1) x:=by
 rw[aN.a_,aN.f7,Y,<- yA];rfl
theorem adi:aN.a_ ak aD (.pI S b::c1) x=jY (BJ (aN.a_ ak aD S x)) λe=>aN.a_ ak aD (b++c1) e:=by
 rw[aN.a_,aN.f7,PN];congr 1;funext e;exact yA b e
theorem Hw (Y:aq.lZ ab=ag)(O:Nat):aj ab O=aA:=by
 induction ab generalizing O with
 |nil=>rfl|cons t ab a=>
  unfold aq.lZ at Y;rw[cJ]at Y;cases O with
  |zero=>show(!t.e9)=aA;rw[Y.1];rfl|succ O=>exact a Y.2 O
theorem yB:∀{ab:bO}{x:aZ},aq.lZ ab=ag->mG ab x=ab
 |[],_,_=>rfl|t::ab,[],Y=>by
  unfold aq.lZ at Y;rw[cJ]at Y;unfold mG;rw[if_pos Y.1,yB Y.2]
 |t::ab,A::x,Y=>by
  unfold aq.lZ at Y;rw[cJ]at Y;unfold mG;rw[if_pos Y.1,yB Y.2]
theorem Hx {w:bY}(Y:w ab=.f t dJ):w.b4 ab=.f t:=by unfold bY.b4;rw[Y]
theorem adj (a:eM):(dR a).bM=dR a:=by unfold dR aq.bM aq.e8;rfl
theorem adk (O:Int):(aq.c O).bM=.c O:=rfl
theorem PQ (s:bt):(aq.d s).bM=.d s:=rfl
theorem ahn (b:Bool):(aq.aQ b).bM=.aQ b:=rfl
theorem aho:aq.a9.bM=.a9:=rfl
theorem PR (a:eM):m8 [dR a]=.f (.c a.length):=by
 show Mo.f _=_
 rw[cE]
theorem B8 {aP:Type}{s:List aP}{O:Int}{S:aP}(a:0<=O)(Y:s[O.toNat]?=D S):dW s O=D S:=by
 have aE:=(ia.mp Y).1;unfold dW ic;simp_all
section
variable (O h:Int)
theorem ahp:F0 (.c O) (.c h)=.f (.aQ (decide (O<h))):=rfl
theorem ahq:FX (.c O) (.c h)=.f (.aQ (decide (O<=h))):=rfl
theorem ahr:FY (.c O) (.c h)=.f (.aQ (decide (h<O))):=rfl
theorem ahs:FZ (.c O) (.c h)=.f (.aQ (decide (h<=O))):=rfl
theorem aht:iY (.c O) (.c h)=.f (.c (O+h)):=rfl
theorem ahu:FW (.c O) (.c h)=.f (.c (O-h)):=rfl
theorem ahv:xT (.c O)=.f (.c (-O)):=rfl
theorem ahw (b:Bool):fO (.aQ b)=.f b:=rfl
theorem PS:mC (.c O)=.f O:=rfl
theorem adl (s:bt):lu (.d s)=.f s:=rfl
end
theorem rZ {O h:Int}(Y:0<h):Bh (.c O) (.c h)=.f (.c (O % h)):=if_pos Y
theorem adm {O h:Int}(Y:vm O h):xQ (.c O) (.c h)=.f (.c (O / h)):=if_pos Y
theorem PT {O h:Int}(Y:IntMulOk O h):oj (.c O) (.c h)=.f (.c (O*h)):=if_pos Y
theorem adn {b:eM}{C:Int}(c:0<=C)(Y:C<b.length):df (dR b) (.c C)=.f (.c (b.getD C.toNat 0)):=by
 show Mo.fj _=_
 rw[B8 c (S:=.c (b.getD C.toNat 0)) (by rw[gS];simp_all)]
 rfl
end
section
variable {aP dT z:Type}{ak:fG}{aD:md}{x e:aZ}{t X q:aq}
theorem mL (g:nh):jY (.f .dx e) g=g e:=rfl
theorem ado (g:nh):jY (.f (.eT t) e) g=.f (.eT t) e:=rfl
theorem ahx (g:nh):jY (.f .gM e) g=.f .gM e:=rfl
theorem ahy (R:m2)(g:nh):jY (.aT R e) g=.aT R e:=rfl
theorem kq (S:aP)(n:z)(C:aP->z->b8 z dT):(b8.f S n).aC C=C S n:=rfl
theorem ahz (R:m2)(n:z)(C:aP->z->b8 z dT):(b8.aT R n:b8 z aP).aC C=.aT R n:=rfl
theorem pL (S:aP)(C:aP->Mo dT):(Mo.f S).aC C=C S:=rfl
theorem adp (S:aP):Mo.fj (D S)=.f S:=rfl
theorem adq (bI bW:b8 aZ fN):pH x (.f ag) bI bW=bI:=rfl
theorem ads (bI bW:b8 aZ fN):pH x (.f aA) bI bW=bW:=rfl
theorem ahA (E:eY):tB (.aQ ag) E=E:=rfl
theorem ahB (E:eY):tB (.aQ aA) E=.f (.aQ aA):=rfl
theorem ahC (E:eY):tC (.aQ ag) E=.f (.aQ ag):=rfl
theorem ahD (E:eY):tC (.aQ aA) E=E:=rfl
theorem ahE (A:fN):BJ (.f A e)=.f A e:=rfl
theorem ahF (t:aq)(a:jX):qB (.t t::a)=(qB a).map λab=>t::ab:=rfl
theorem ahG:qB []=D []:=rfl
theorem ahH (O:Nat)(a:aD O=aA)(aE:O<e.length):BG aD O (.f t e)=.f .dx (e.set O (D t)):=by
 unfold BG;rw[kq,if_pos ⟨a,aE⟩]
theorem adt:qA (.f t e)=.f .dx e:=rfl
theorem ahI:BH (.f t e)=.f (.eT t) e:=rfl
theorem ahJ (s:aZ):fo (D t::s) 0=.f t.bM:=rfl
theorem ahK (A:m5)(s:aZ)(y:Nat):fo (A::s) (y+1)=fo s y:=rfl
theorem ahL (s:aZ):rS (D t::s) 0=.f t (i::s):=rfl
theorem ahM (A:m5)(s:aZ)(y:Nat):rS (A::s) (y+1)=match rS s y with |.f t e=>.f t (A::e)|.aT R e=>.aT R (A::e)|.aU=>.aU:=by
 unfold rS
 match s[y]? with
 |some (D t)=>rfl
 |some i=>rfl|none=>rfl
def fb (m:eY)(x:aZ)(u:bt):b8 aZ aq:=match m with
 |.f t=>if t.el then .f t x else .f t (qy x u)
 |.aT R=>.aT R x|.aU=>.aU
theorem nT (X:H):mF ak x X=fb (X.aW ak x) x X.eD:=rfl
theorem hp (u:bt)(a:t.el=ag):fb (.f t) x u=.f t x:=if_pos a
theorem t_ (u:bt)(a:t.el=aA):fb (.f t) x u=.f t (qy x u):=if_neg (by rw[a];decide)
section
variable (cM:Bool)(a8 aE:eR)
theorem PU:df (.aL t) X=df t X:=rfl
theorem ahN:nK cM X (.aL t)=nK cM X t:=rfl
theorem ahO:m8 [.aL t]=m8 [t]:=rfl
theorem adu:iY (.aL t) X=iY t X:=rfl
theorem ahP:iY X (.aL t)=iY X t:=rfl
theorem ahQ:lx (.aL t) a8 aE=lx t a8 aE:=rfl
theorem nU (a:c_)(w:Str):jT a w (.aL t)=jT a w t:=rfl
theorem ahR:x_ [.aL t]=x_ [t]:=rfl
theorem B9:pq [.aL t]=pq [t]:=rfl
theorem ahS:vJ [.aL t]=vJ [t]:=rfl
theorem ahT:ya [.aL t]=ya [t]:=rfl
theorem ahU:m7 cM (.aL t) X=m7 cM t X:=rfl
theorem ahV (y:String):ot y (.aL t)=ot y t:=rfl
theorem ahW:fO (.aL t)=fO t:=rfl
theorem ahX:mC (.aL t)=mC t:=rfl
theorem ahY:rF [.aL t,X]=rF [t,X]:=rfl
theorem ahZ:rF [X,.aL t]=rF [X,t]:=rfl
theorem ah0:vF [.aL t]=vF [t]:=rfl
theorem adv (y:Nat):gp y (.aL t) X=gp y t X:=by cases y<;>rfl
theorem adw (y:Nat):gp y X (.aL t)=gp y X t:=by cases y<;>rfl
theorem Hy:gq cM (.aL t) X=gq cM t X:=by unfold gq;rw[adv]
theorem ah1:gq cM X (.aL t)=gq cM X t:=by unfold gq;rw[adw]
theorem Hz (Y:t.e8=aA):(aq.aL t).bM=.aL t:=by unfold aq.bM;simp_all
end
theorem adx (O:Int):H.aW ak x (.C (.c O))=.f (.c O):=rfl
theorem ah2 (s:bt):H.aW ak x (.C (.d s))=.f (.d s):=rfl
theorem ah3 (b:Bool):H.aW ak x (.C (.aQ b))=.f (.aQ b):=rfl
theorem ah4:H.aW ak x (.C .a9)=.f .a9:=rfl
theorem ah5 (y:Str)(O:Int):H.aW ak x (.fI y (.c O))=.f (.c O):=rfl
theorem ah6 (y:Str)(s:bt):H.aW ak x (.fI y (.d s))=.f (.d s):=rfl
theorem ah7 (S b:Bool):tC (.aQ S) (.f (.aQ b))=.f (.aQ (S ||b)):=by cases S<;>rfl
theorem ah8 (S b:Bool):tB (.aQ S) (.f (.aQ b))=.f (.aQ (S && b)):=by cases S<;>rfl
theorem ah9 (O h:Int):Gf [.c O,.c h]=.f (.c (min O h)):=rfl
theorem ady {O h:Int}(a:0<h)(af:h<1073741824):xQ (.c O) (.c h)=.f (.c (O / h)):=adm (Yb a (by lia))
theorem B_ {O h:Int}(a : -18446744073709551616<O)(af:O<18446744073709551616):oj (.c O) (.c h)=.f (.c (O*h)):=PT (Mm (.inl ⟨by lia,by lia⟩))
theorem adz {O h:Int}(a : -18446744073709551616<h)(af:h<18446744073709551616):oj (.c O) (.c h)=.f (.c (O*h)):=PT (Mm (.inr ⟨by lia,by lia⟩))
theorem HA (O:Int):(aq.c O).el=ag:=by rw[aq.el]<;>simp
theorem yC (s:bt):(aq.d s).el=ag:=by rw[aq.el]<;>simp
theorem adA:aq.a9.el=ag:=by rw[aq.el]<;>simp
theorem ah_ (C:iF)(ab:bO):(aq.az C ab).el=aq.lr ab:=by rw[aq.el]
theorem Ca (t:aq)(ab:bO):aq.lr (t::ab)=(t.el && aq.lr ab):=by rw[aq.lr]
theorem Cb:aq.lr []=ag:=by rw[aq.lr]
section
variable (S b R X:H)(aG:hF)
theorem adB (O:Nat):H.aW ak x (.v O)=fo x O:=rfl
theorem PV (y:Str)(a:kd)(Y:(y,a)∈ak.m9):H.aW ak x (.hV y a)=.f (.az .iW (a.map .d)):=if_pos Y
theorem aia (A:hU):H.aW ak x (.aY A S b)=(S.aW ak x).aC λX=>(b.aW ak x).aC λq=>A.w X q:=rfl
theorem aib (A b3:hU):H.aW ak x (.ke A b3 S b R)=(S.aW ak x).aC λX=>(b.aW ak x).aC λq=>qv A b3 X q (R.aW ak x):=rfl
theorem aic (A b3 a:hU):H.aW ak x (.px A b3 a S b R X)=(S.aW ak x).aC λu=>(b.aW ak x).aC λq=>BC A b3 a u q (R.aW ak x) (X.aW ak x):=rfl
theorem aid:H.aW ak x (.and S b)=(S.aW ak x).aC λX=>tB X (b.aW ak x):=rfl
theorem aie:H.aW ak x (.or S b)=(S.aW ak x).aC λX=>tC X (b.aW ak x):=rfl
theorem adC:H.aW ak x (.not S)=(S.aW ak x).aC λX=>(fO X).aC λb=>.f (.aQ (!b)):=rfl
theorem adD:H.aW ak x (.cM S)=(S.aW ak x).aC xT:=rfl
theorem aif:H.aW ak x (.jU R S b)=((R.aW ak x).aC fO).aC λn=>if n=ag then S.aW ak x else b.aW ak x:=rfl
theorem aih (a8 aE:kU):H.aW ak x (.sl S a8 aE)=(S.aW ak x).aC λX=>(H.qw ak x a8).aC λs=>(H.qw ak x aE).aC λY=>lx X s Y:=rfl
theorem aii:H.aW ak x (.bb aG)=(H.gZ ak x aG).aC λab=>.ei ab.length (.f (.az .bb ab)):=rfl
theorem aij:H.aW ak x (.aM aG)=(H.gZ ak x aG).aC λab=>.ei ab.length (.f (.az .aM ab)):=rfl
theorem aik (w:Str):H.aW ak x (.dh S w)=(S.aW ak x).aC (jT ak.dg w):=rfl
theorem ail (w:bY)(y:Str):H.aW ak x (.b0 w y aG)=(H.gZ ak x aG).aC λab=>w.b4 (ab.map .bM):=rfl
theorem aim (A:pv):H.aW ak x (.dX A aG)=(H.gZ ak x aG).aC A.w:=rfl
theorem ain (w:bY)(y:Str):H.aW ak x (.jn w y aG)=(H.gZ ak x aG).aC (qr w y):=rfl
theorem h1 (A:kj):H.aW ak x (.eA A S aG)=(S.aW ak x).aC λt=>(lu t).aC λs=>(H.gZ ak x aG).aC λR=>A.w s R:=rfl
theorem aio:H.aW ak x (.pw S b)=(S.aW ak x).aC λX=>(b.aW ak x).aC λq=>Bw X q:=rfl
theorem aip (y:String):H.aW ak x (.kn S y)=(S.aW ak x).aC (ot y):=rfl
theorem aiq:H.aW ak x .ov=.f (.az (.gP []) []):=rfl
theorem air:H.gZ ak x []=.f []:=rfl
theorem ais:H.gZ ak x (S::aG)=(S.aW ak x).aC λt=>(H.gZ ak x aG).aC λab=>.f (t::ab):=rfl
theorem ait:H.qw ak x i=.f i:=rfl
theorem aiu:H.qw ak x (D S)=(S.aW ak x).aC λt=>(mC t).aC λO=>.f (D O):=rfl
theorem adE:H.ow ak x i=.f ag:=rfl
theorem aiv:H.ow ak x (D S)=(S.aW ak x).aC fO:=rfl
end
def bX (E:b8 aZ fN)(o:fN->aZ->Prop):Prop:=∃A e,E=.f A e/\o A e
theorem pM {s:List dT} {body C:nh}(P:List dT->aZ->Prop)(g:P [] x)
  (h:∀t X E e,s=t++X::E->P t e->∃a,jt aD e is (enc X)=D a/\bX (body a) λA c=>((A=.dx\/A=.gM)/\P (t++[X]) c)\/((∃v,A=.eT v)/\o A c))
  (j:∀e,P s e->bX (C e) o):bX (jY (nN (λe X=>match jt aD e is X with |some a=>body a |none=>.aU) (s.map enc) x) C) o:=by
 suffices main:∀(E t:List dT) (e:aZ),s=t++E->P t e->bX (nN (λe X=>match jt aD e is X with |some a=>body a |none=>.aU) (E.map enc) e) (λA e=>(A=.dx/\P s e)\/((∃v,A=.eT v)/\o A e)) by
  obtain⟨A,e,Y,V⟩:=main s [] x rfl g;rw[Y];rcases V with⟨rfl,V⟩|⟨⟨v,rfl⟩,V⟩
  ·rw[mL];exact j e V
  ·rw[ado];exact⟨_,_,rfl,V⟩
 intro E;induction E with
 |nil=>intro t e b d;rw[l_]at b;subst b;exact⟨.dx,e,rfl,.inl ⟨rfl,d⟩⟩
 |cons X E f=>
  intro t e b d;obtain⟨a,af,A,c,ai,V⟩:=h t X E e b d;rw[eW];unfold nN;simp only[af,ai];rcases V with⟨Y |Y,V⟩|⟨⟨v,Y⟩,V⟩
  ·subst Y;exact f (t++[X]) c (by rw[b,n1];rfl) V
  ·subst Y;exact f (t++[X]) c (by rw[b,n1];rfl) V
  ·subst Y;exact⟨_,_,rfl,.inr ⟨⟨v,rfl⟩,V⟩⟩
theorem HB {s:List dT} {X:H}(P:List dT->aZ->Prop)(d:fb (X.aW ak x) x X.eD=.f t aR)(aE:d4.w [t]=.f γ)(f:ij bZ γ=D (s.map enc))(g:P [] aR)
  (h:∀t X E e,s=t++X::E->P t e->∃a,jt aD e bZ.is (enc X)=D a/\bX (aN.a_ ak aD b a) λA c=>((A=.dx\/A=.gM)/\P (t++[X]) c)\/((∃v,A=.eT v)/\o A c))
  (k:∀e,P s e->bX (aN.a_ ak aD c1 e) o):bX (aN.a_ ak aD (.gQ d4 [X] bZ b::c1) x) o:=by
 have l:eE ak x ([X].map .X)=.f [.t t] aR:=by
  show((mF ak x X).aC λt e=>(eE ak e []).aC λm a=>.f (.t t::m) a)=_
  rw[nT,d];rfl
 rw[aN.a_,aN.f7,l];have aR:BI aD d4 bZ (.f [.t t] aR) (λe=>aN.a_ ak aD b e)=nN (λe X=>match jt aD e bZ.is X with |some a=>aN.a_ ak aD b a |none=>.aU) (s.map enc) aR:=by
  unfold BI;show(match d4.w [t]with |.f γ=>_ |_=>_)=_
  rw[aE];show(match ij bZ γ with |some j=>_ |none=>_)=_
  rw[f]<;>rfl
 rw[aR];exact pM P g h k
theorem eZ {q:dp}{O:Nat}{c1:cK}(Y:q.aW ak x=.f t x)(a:aD O=aA)(aE:Nat.ble (O+1) x.length=ag:=by rfl):aN.a_ ak aD (.cp O q::c1) x=aN.a_ ak aD c1 (x.set O (D t)):=kZ Y a (JO aE)
theorem ua {s:List dT} {X:H}(P:List dT->aZ->Prop)(d:fb (X.aW ak x) x X.eD=.f t x)(aE:d4.w [t]=.f items)(f:ij bZ items=D (s.map enc))(g:P [] x)
  (h:∀t X E e,s=t++X::E->P t e->∃a,jt aD e bZ.is (enc X)=D a/\bX (aN.a_ ak aD b a) λA c=>((A=.dx\/A=.gM)/\P (t++[X]) c)\/((∃v,A=.eT v)/\o A c))
  (j:∀e,P s e->bX (aN.a_ ak aD c1 e) o):bX (aN.a_ ak aD (.gQ d4 [X] bZ b::c1) x) o:=HB P d aE f g h j
theorem vZ {s:List dT}{a:dT->aq}{O:Nat}{S:aZ}{b:aZ}{A:m5}{body C:nh}{o:fN->aZ->Prop}(aE:S.length=O)(f:aD O=aA)
  (g:∀X∈s,bX (body (S++D (a X).bM::b)) λA e=>A=.dx/\e=S++D (a X).bM::b)
  (h:∀A,bX (C (S++A::b)) o):bX (jY (nN (λe X=>match jt aD e [O] X with |some d=>body d |none=>.aU) (s.map λX=>[a X]) (S++A::b)) C) o:=by
 refine pM (enc:=λX=>[a X]) (λ_ e=>∃A,e=S++A::b) ⟨A,rfl⟩ (λt X E e j c=>?_) (λe c=>?_)
 ·obtain⟨A,rfl⟩:=c
  refine⟨S++D (a X).bM::b,?_,?_⟩
  ·unfold jt
   rw[if_pos ⟨f,by rw[dm,ew];lia⟩]
   unfold jt;rw[<- aE,Jo _ _ (cZ _),zw,wA]
  ·obtain⟨b3,d,af,rfl,rfl⟩:=g X (by rw[j];simp)
   exact⟨_,_,af,.inl ⟨.inl rfl,_,rfl⟩⟩
 ·obtain⟨A,rfl⟩:=c;exact h A
theorem aiw (s:aZ):nL (D t::s) 0=D t.bM::s:=rfl
theorem aix (s:aZ):nL (i::s) 0=i::s:=rfl
theorem aiy (A:m5)(s:aZ)(y:Nat):nL (A::s) (y+1)=A::nL s y:=by
 unfold nL
 match s[y]? with
 |some (D t)=>rfl
 |some i=>rfl|none=>rfl
theorem PW {R:aZ->pd}{body C:nh}(P:Nat->aZ->Prop)(m:Nat)(h:m<100000)(b:P 0 x)
  (c:∀O e,O<=m->P O e->(R e=.f aA/\bX (C e) o)\/(O<m/\R e=.f ag/\bX (body e) λA a=>A=.dx/\P (O+1) a)):bX (jY (nO R body tg x) C) o:=by
 have j:m<tg:=by unfold tg;lia
 suffices main:∀(y O:Nat) (e:aZ),m<y+O->O<=m->P O e->bX (nO R body y e) (λA e=>A=.dx/\bX (C e) o) by
  obtain⟨A,e,Y,rfl,V⟩:=main tg 0 x (by lia) (by lia) b
  rw[Y,mL];exact V
 intro y;induction y with
 |zero=>intro O e af ai;lia
 |succ y d=>
  intro O e af ai f;unfold nO;rcases c O e ai f with⟨Y,V⟩|⟨aE,Y,A,a,g,rfl,V⟩
  ·rw[Y,ads];exact⟨_,_,rfl,rfl,V⟩
  ·rw[Y,adq,g];exact d (O+1) a (by lia) (by lia) V
def l3 (x:aZ)(O:Nat):Option aq:=match x[O]? with |some A=>A |none=>i
theorem aiz (A:m5)(s:aZ):l3 (A::s) 0=A:=rfl
theorem aiA (A:m5)(s:aZ)(y:Nat):l3 (A::s) (y+1)=l3 s y:=by unfold l3;rw[List.getElem?_cons_succ]
theorem r0 (O:Nat):en x (O,[])=l3 x O:=by
 unfold en l3
 match x[O]? with
 |some (D t)=>rfl
 |some i=>rfl|none=>rfl
theorem Cc {O:Nat}{R cS:aq}(Y:l3 x O=D R):fe x (O,[]) cS=x.set O (D cS):=by
 unfold fe;unfold l3 at Y
 match e:x[O]?,Y with
 |some (D t),_=>rfl
def Cd (w:bY)(O:Nat)(ab:bO)(e:aZ):b8 aZ aq:=match l3 e O with
 |some R=>(match w (R::ab)with
  |.f E (cS::_)=>.f E (e.set O (D cS))|.f E []=>.f E e|.aT X (cS::_)=>.aT X (e.set O (D cS))|.aT X []=>.aT X e|.aU=>.aU)
 |none=>.aU
def nV (ab:bO):List rK:=ab.map .t
theorem HC:∀(ab:bO),iL e (nV ab)=D ab
 |[]=>rfl|t::ab=>by show(iL e (nV ab)).map _=_;rw[HC ab];rfl
theorem HD (V:jV):∀(ab:bO),pE V (nV ab)=ag
 |[]=>rfl|t::ab=>HD V ab
theorem HE:∀(ab:bO),pF (nV ab)=ag
 |[]=>rfl|t::ab=>HE ab
theorem Ce:∀(ab dJ:bO),jB e (nV ab) dJ=e
 |[],dJ=>rfl|t::ab,[]=>rfl|t::ab,_::dJ=>Ce ab dJ
theorem PX {w:bY}{O:Nat}:hk w (.s (O,[])::nV ab) e=Cd w O ab e:=by
 show(match(en e _).bind λR=>(iL e _).map λab=>R::ab with |some dJ=>_ |none=>_)=_
 rw[r0,HC];unfold Cd;cases Y:l3 e O with
 |none=>rfl|some R=>
  show(if(pE _ _ && pF _)=ag then _ else _)=_
  rw[HD,HE];dsimp only;cases w _ with
  |aU=>rfl|f E dJ=>
   cases dJ with
   |nil=>rfl|cons cS dJ=>show b8.f E (fe _ _ cS)=_;rw[Ce,Cc Y]
  |aT X dJ=>
   cases dJ with
   |nil=>rfl|cons cS dJ=>show b8.aT X (fe _ _ cS)=_;rw[Ce,Cc Y]
def Cf (T:String)(x:aZ)(O:Nat)(m:b8 aZ aq):b8 aZ aq:=match l3 x O with |some R=>if kW T R=ag then m else .aU |none=>.aU
theorem PY (O:Nat)(aG:pB)(T:String)(C:jV->jX->aZ->b8 aZ aq):ni ak x (.v O) aG (kW T) C=Cf T x O ((eE ak x aG).aC (C (O,[]))):=by
 unfold ni Cf;rw[(show ee.aW ak x _=if(l3 x O).isSome then Mo.f _ else Mo.aU by rw[ee.aW,r0])]
 cases Y:l3 x O with
 |none=>rfl|some R=>
  have aB:=r0 (x:=x) O;simp_all
theorem aiB (A:nj)(O:Nat)(X:H):dp.aW ak (.eS A (.v O) [.X X]) x=Cf A.gd x O ((fb (X.aW ak x) x X.eD).aC λt e=>Cd A.w O [t] e):=by
 rw[dp.aW,PY];congr 1;show((mF ak x X).aC λt e=>(eE ak e []).aC λb a=>.f _ a).aC _=_
 rw[nT];cases fb _ x _ with
 |f t e=>exact PX (ab:=[t])|_=>rfl
theorem aiC (O:Nat)(C v:H):dp.aW ak (.rQ (.v O) C v) x=Cf "dict" x O ((fb (C.aW ak x) x C.eD).aC λS e=>(fb (v.aW ak e) e v.eD).aC λt a=>Cd oy O [S,t] a):=by
 rw[dp.aW,PY];congr 1;show((mF ak x C).aC λS e=>((mF ak e v).aC λt a=>(eE ak a []).aC λb a=>.f _ a).aC λb a=>.f _ a).aC _=_
 rw[nT];cases fb _ x _ with
 |f S e=>
  rw[kq,kq,nT];cases fb _ e _ with
  |f t a=>exact PX (ab:=[S,t])|_=>rfl
 |_=>rfl
theorem k0 (X:H):dp.aW ak (.bh X) x=fb (X.aW ak x) x X.eD:=by rw[dp.aW,nT]
theorem aiD (O:Nat):dp.aW ak (.ko O) x=rS x O:=by rw[dp.aW]
theorem PZ (A:hU)(q G:dp):dp.aW ak (.aY A q G) x=(q.aW ak x).aC λt e=>(G.aW ak e).aC λa aB=>pJ (A.w t a) aB:=by rw[dp.aW]
theorem HF (S:jZ)(q:dp):dp.aW ak (.kX S q) x=(q.aW ak x).aC λt e=>yn ak S t e:=by rw[dp.aW]
theorem adF (S:aq)(q:dp):dp.aW ak (.tk S q) x=(q.aW ak x).aC λt e=>pJ (.ea (S.gn.isSome=ag) (.f (.az .bb ([S,t].map .bM)))) e:=by rw[dp.aW]
theorem HG (S:jZ)(s:bt):yn ak S (.d s) x=fb ((S.X (.C (.d s))).aW ak x) x (S.X (.C (.d s))).eD:=by rw[<- nT];exact if_pos (show(aq.d s).gn.isSome=ag from rfl)
theorem aiE (S:aP):pJ (.f S) e=.f S e:=rfl
theorem P0 {O:Nat}{C X:H}{t S R cS E eh qk:aq}(b:X.aW ak x=.f t)(c:t.el=ag)(d:C.aW ak x=.f S)(e:S.el=ag)(a:l3 x O=D R)(f:nP [t,R,S]=.f E [eh,cS,qk]):rP ak (.v O) C X x=.f .dx (x.set O (D cS)):=by
 unfold rP;have aR:eE ak x [.X X,.s (.v O),.X C]=.f [.t t,.s (O,[]),.t S] x:=by
  unfold eE;rw[nT,b,hp _ c,kq];unfold eE;rw[(show ee.aW ak x (.v O)=Mo.f (O,[]) by rw[ee.aW,r0,a];rfl)]
  show(b8.aC (b8.aC _ _) _)=_
  unfold eE;rw[nT,d,hp _ e];rfl
 rw[aR,kq];unfold hk;have aB:iL x [.t t,.s (O,[]),.t S]=D [t,R,S]:=by
  show((en x _).bind λR=>D [R,S]).map _=_
  rw[r0,a];rfl
 rw[aB];show qA (if _ then(match nP _ with |.f E dJ=>b8.f E _ |.aT X dJ=>_ |.aU=>_)else _)=_
 rw[f];show b8.f _ (fe x _ cS)=_
 rw[Cc a]
theorem pN {O:Nat}{X:H} {y aO:Str}(c:X.aW ak x=.f t)(d:t.el=ag)(b:l3 x O=D (.az (.dV aO a) j))(e:aO∈ak.dg)(g:a.length<1000)(h:y∉a):yl ak y (.v O) (.X X) x=.f .dx (x.set O (D (.az (.dV aO (a++[y])) (j++[t])))):=by
 unfold yl;have aR:eE ak x [.X X,.s (.v O)]=.f [.t t,.s (O,[])] x:=by
  unfold eE;rw[nT,c,hp _ d,kq];unfold eE;rw[(show ee.aW ak x (.v O)=Mo.f (O,[]) by rw[ee.aW,r0,b];rfl)]
  rfl
 rw[aR,kq];simp only[(show vQ x (O,[])=D aO by unfold vQ;rw[r0,b]),if_pos e]
 unfold hk;have aB:iL x [.t t,.s (O,[])]=D [t,.az (.dV aO a) j]:=by
  show((en x _).bind λR=>D [R]).map _=_
  rw[r0,b];rfl
 rw[aB];have f:rO y [t,.az (.dV aO a) j]=.f .a9 [.e4,.az (.dV aO (a++[y])) (j++[t])]:=by
  unfold rO;simp_all
 show qA (if _ then(match rO y _ with |.f E dJ=>b8.f E _ |.aT X dJ=>_ |.aU=>_)else _)=_
 rw[f];show b8.f _ (fe x _ _)=_
 rw[Cc b]
theorem adG {y m:Nat}(b:ab.length=y)(a:aq.lZ ab=ag)(Y:∀aD,(∀O,aD O=aA)->bX (aN.a_ ak aD body (ab.map D++gy m i)) λA _=>A=.eT t\/(A=.dx/\t=.a9)):cy ak y m body ab=.f t ab:=by
 obtain⟨A,e,Y,V⟩:=Y _ (Hw a);unfold cy;rw[if_pos b,Y];rcases V with rfl |⟨rfl,rfl⟩
 ·show b8.f t _=_;rw[yB a]
 show b8.f _ _=_;rw[yB a]
theorem dK {y m:Nat}(a:ab.length=y)(b:aq.lZ ab=ag)(Y:∀aD,(∀O,aD O=aA)->bX (aN.a_ ak aD body (ab.map D++gy m i)) λA _=>A=.eT t\/(A=.dx/\t=.a9)):(cy ak y m body).b4 ab=.f t:=Hx (adG a b Y)
theorem P1 {y m:Nat}(a:ab.length=y)(Y:aN.a_ ak (aj ab) body (ab.map D++gy m i)=.f .dx e):cy ak y m body ab=.f .a9 (mG ab e):=by
 unfold cy;rw[if_pos a,Y]
end
class k2 {aP:Type}(g:aP->aq):Prop where
 Cg:∀X,(g X).e8=ag
section
variable {aP:Type}{g:aP->aq}[k2 g]{s:List aP}{X:aP}
theorem HH (X:aP):(g X).bM=g X:=by unfold aq.bM;rw[if_pos (k2.Cg X)]
theorem adH (s:List aP):aq.mA (s.map g)=ag:=by
 induction s with
 |nil=>rfl|cons X s a=>rw[eW,aq.mA,k2.Cg X,a];rfl
theorem v3 (s:List aP):(s.map g).map aq.bM=s.map g:=by
 rw[gT];exact sf λX _=>HH X
mutual
theorem HI:∀(t:aq),t.e8=ag->t.el=ag
 |.a9,_=>rfl|.aQ _,_=>rfl|.c _,_=>rfl|.d _,_=>rfl|.az .bb ab,Y=>Ci ab Y|.az .iW ab,Y=>Ci ab Y|.az .aM _,Y=>by trivial
 |.az .dR _,Y=>by trivial
 |.az (.qo _) _,Y=>by trivial
 |.az (.gP _) _,Y=>by trivial
 |.az (.dV _ _) _,Y=>by trivial
 |.aL t,Y=>by assumption
 |.e5 _,Y=>by trivial
 |.e4,Y=>by trivial
theorem Ci:∀(ab:bO),aq.mA ab=ag->aq.lr ab=ag
 |[],_=>rfl|t::ab,Y=>by rw[aq.mA,cJ]at Y;rw[aq.lr,HI t Y.1,Ci ab Y.2];rfl
end
theorem Cj (X:aP):(g X).el=ag:=HI _ (k2.Cg X)
theorem P2 (X:aP):(g X).e9=ag:=GH (k2.Cg X)
instance:k2 aq.c:=⟨λ_=>rfl⟩
instance:k2 aq.d:=⟨λ_=>rfl⟩
instance:k2 aq.aQ:=⟨λ_=>rfl⟩
noncomputable def ao (g:aP->aq)(s:List aP):aq:=.az .aM (s.map g)
theorem adI:(ao g s).bM=.aL (ao g s):=rfl
theorem mM:(aq.aL (ao g s)).bM=.aL (ao g s):=Hz rfl
theorem jf:(ao g s).el=ag:=Ci _ (adH s)
theorem aiF:(aq.aL (ao g s)).el=aA:=by rw[aq.el];rfl
theorem Ck:aq.az .aM []=ao g []:=rfl
theorem aiG:m8 [ao g s]=.f (.c s.length):=by
 show Mo.f _=_;rw[cE]
theorem aiH:df (ao g s) (.c O)=.fj ((dW s O).map g):=by
 show Mo.fj _=_
 unfold dW;rw[cE];cases ic _ O with
 |none=>rfl|some C=>
  show Mo.fj (((s.map g)[C]?).map _)=_
  rw[gS,Option.map_map];congr 2;funext X;exact HH X
theorem adJ (a8 aE:eR)(s:List aP)(g:aP->dT):fU (s.map g) a8 aE=(fU s a8 aE).map g:=by
 unfold fU;simp_all
theorem HJ (a8 aE:eR):lx (ao g s) a8 aE=.f (ao g (fU s a8 aE)):=by
 show Mo.f _=_
 rw[adJ,v3];rfl
theorem r1 (Y:S.length+b.length<=100000):iY (ao g S) (ao g b)=.f (ao g (S++b)):=by
 show Mo.ei _ _=_
 rw[Mo.mr (by simp_all),<- iQ,v3,ao]
theorem P4:x_ [ao g s]=.f (ao g s):=by
 show Mo.f _=_;rw[v3];rfl
theorem Cm:pq [ao g s]=.f (s.map g):=of_eq_true (eq_self _)
theorem aiI:kW "list" (ao g s)=ag:=rfl
theorem jE (Y:s.length<100000):qC [ao g s,g X]=.f .a9 [ao g (s++[X]),.e4]:=by
 show(if(s.map g).length<cA then _ else _)=_
 rw[cE,if_pos (by have:=lR (y:=s.length+1) (by lia);lia)];unfold ao;rw[iQ];rfl
theorem yD (Y:S.length+b.length<=100000):tU [ao g S,ao g b]=.f .a9 [ao g (S++b),.az .aM (b.map λ_=>.e4)]:=by
 show(if(S.map g).length+(b.map g).length<=cA then b8.f _ _ else _)=_
 rw[cE,cE,if_pos (lR Y),gT];unfold ao;rw[iQ];rfl
theorem HK:∀(s:eM),tE (s.map .c)=D (s.map .c)
 |[]=>rfl|O::s=>by rw[eW,tE,HK s];rfl
theorem P5 (O:Int):∀(s:eM),mX (.c O) (s.map .c)=decide (O∈s)
 |[]=>rfl|h::s=>by
  have:=P5 O s;unfold mX at this ⊢;rw[eW,zr,this];by_cases Y:O=h
  ·subst Y;simp[jx]
  simp[jx,Y,oT Y]
theorem P6 (s:eM):nK cM (.c O) (ao .c s)=.f (.aQ (if cM=ag then !decide (O∈s)else decide (O∈s))):=by
 show tF cM _ _=_
 unfold tF;rw[HK];show Mo.f (aq.aQ (if cM=ag then !(mX _ _)else mX _ _))=_
 rw[P5]
end
section
variable {dT gk:Type}{ak:fG}{x:aZ}{b2:c_}{bN:jJ}{d4:iZ}{ed:hF}{bZ:kl}{N:dT->Bool}{w:dT->gk}{A:gk->aq}
theorem HL:∀{s:List dT}{bA:bO},(∀b∈s,F (T b)=.f (if N b=ag then D (A (w b))else i))->bA.length+s.length<=100000->lT F (s.map T) bA=.f (bA++((s.filter N).map w).map A)
 |[],bA,_,_=>by rw[sm];unfold lT;simp
 |b::s,bA,Y,c=>by
  rw[ew]at c;rw[eW];unfold lT;rw[Y b eI,List.filter_cons];cases e:N b with
  |false=>
   exact HL (λq a=>Y q (f5 _ a)) (by lia)
  |true=>
   show Mo.ei _ _=_
   rw[Mo.mr (by lia),HL (λq a=>Y q (f5 _ a)) (by rw[dm,oP];lia)]
   simp
theorem adK {R:kU}{e:H}(s:List dT)(aE:bZ.is.all (·<b2.length)=ag)(c:(H.gZ ak x ed).aC d4.w=.f items)(d:ij bZ items=D (s.map T))(f:∀b∈s,H.ow ak (jb (hT b2 bN x) bZ.is (T b)) R=.f (N b))(g:∀b∈s,N b=ag->H.aW ak (jb (hT b2 bN x) bZ.is (T b)) e=.f (A (w b)))(k:s.length<=100000):H.aW ak x (.ek b2 bN d4 ed bZ R e)=.f (ao A ((s.filter N).map w)):=by
 show(if bZ.is.all _ then(((H.gZ ak x ed).aC _).aC λs=>.fj _).aC λj=>(lT _ j []).aC λaV=>Mo.f _ else .aU)=_
 rw[if_pos aE,c,pL,d,adp,pL,HL    (λb a=>?_) (by simp_all)]
 ·rfl
 ·rw[f b a]
  cases h:N b with
  |false=>rfl|true=>rw[g b a h];rfl
theorem iM {e:H}(s:List dT)(aE:bZ.is.all (·<b2.length)=ag)(a:(H.gZ ak x ed).aC d4.w=.f items)(c:ij bZ items=D (s.map T))(d:∀b∈s,H.aW ak (jb (hT b2 bN x) bZ.is (T b)) e=.f (A (w b)))(f:s.length<=100000):H.aW ak x (.ek b2 bN d4 ed bZ i e)=.f (ao A (s.map w)):=by
 rw[adK  s aE a c (λ_ _=>adE) (λb g _=>d b g) f,List.filter_eq_self.mpr λ_ _=>rfl]
theorem adL (ab:bO)(O:Nat):ij ⟨aA,[O]⟩ ab=D (ab.map λt=>[t]):=by
 induction ab with
 |nil=>rfl|cons t ab a=>rw[ij,a];rfl
theorem h2 {g:dT->aq}(s:List dT)(O:Nat):ij ⟨aA,[O]⟩ (s.map g)=D (s.map λt=>[g t]):=by rw[adL,gT];rfl
theorem Cn {g Y:dT->aq}(s:List dT)(O h:Nat):ij ⟨ag,[O,h]⟩ (s.map λb=>.az .bb [g b,Y b])=D (s.map λb=>[g b,Y b]):=by
 induction s with
 |nil=>trivial|cons t ab a=>rw[eW,ij,a];rfl
end
noncomputable def jF {aP:Type}(g:aP->aq)(m:List (Int×aP)):aq:=.az (.gP (m.map λV=>.inl V.1)) (m.map λV=>g V.2)
def h3 {aP:Type}:List (Int×aP)->Int->Option aP
 |[],_=>i|V::m,O=>if V.1=O then D V.2 else h3 m O
def v5 {aP:Type}:List (Int×aP)->Int->aP->List (Int×aP)
 |[],O,v=>[(O,v)]|V::m,O,v=>if V.1=O then(O,v)::m else V::v5 m O v
section
variable {aP:Type}{g:aP->aq}[k2 g]{m:List (Int×aP)}{O:Int}{v p:aP}{cM:Bool}
theorem HM {O h:Int}:((uK O:ey)=.inl h)↔O=h:=⟨λY=>by lia,λY=>by rw[Y]⟩
theorem P7 (m:List (Int×aP)):om (m.map λV=>.inl V.1) (m.map λV=>g V.2) (.inl O)=(h3 m O).map g:=by
 unfold om;induction m with
 |nil=>rfl|cons V m a=>
  rw[eW,eW,kB,q3,h3];by_cases Y:V.1=O
  ·rw[decide_eq_true (HM.mpr Y),if_pos Y];rfl
  rwa[decide_eq_false (λG=>Y (HM.mp G)),if_neg Y]
theorem aiJ:(jF g m).bM=.aL (jF g m):=rfl
theorem aiK:kW "dict" (jF g m)=ag:=rfl
theorem P8:df (jF g m) (.c O)=.fj ((h3 m O).map g):=by
 show Mo.fj _=_
 rw[P7];cases h3 m O with
 |none=>rfl|some v=>show Mo.f _=_;rw[HH];rfl
theorem aiL:nK cM (.c O) (jF g m)=.f (.aQ (if cM=ag then !(h3 m O).isSome else(h3 m O).isSome)):=by
 show Mo.f _=_
 rw[P7,zx]
theorem yE (m:List (Int×aP)):(h3 m O=i->¬g0 (m.map λV=>(.inl V.1:ey)) (.inl O)<m.length)/\(∀p,h3 m O=D p->g0 (m.map λV=>(.inl V.1:ey)) (.inl O)<m.length/\(m.map λV=>g V.2)[g0 (m.map λV=>(.inl V.1:ey)) (.inl O)]?=D (g p)):=by
 induction m with
 |nil=>exact⟨λ_=>by simp,λp Y=>by cases Y⟩|cons V m a=>
  rw[eW,g0,h3,ew];by_cases Y:V.1=O
  ·simp_all
  ·rw[if_neg Y,if_neg (λG=>Y (HM.mp G))]
   refine⟨λG=>by have:=a.1 G;lia,λp G=>?_⟩
   have:=a.2 p G;exact⟨by lia,this.2⟩
theorem HN (O:Int):nI (.c O)=D (.inl O):=rfl
theorem HO {y:Nat}(Y:y<100000):y<cA:=by have:=lR (y:=y+1) (by lia);lia
theorem adM (Y:h3 m O=i)(a:m.length<100000):oy [jF g m,.c O,g v]=.f (g v) [jF g (m++[(O,v)]),.c O,g v]:=by
 unfold jF oy;simp only[P2,if_true,HN,cE,if_neg ((yE (g:=g) m).1 Y),if_pos (HO a),iQ];rfl
theorem adN (Y:h3 m O=D p):oy [jF g m,.c O,g v]=.f (g p) [jF g m,.c O,g v]:=by
 have C:=(yE (g:=g) m).2 p Y;unfold jF oy;simp only[P2,if_true,HN,cE,if_pos C.1,C.2]
theorem yF (m:List (Int×aP)):(h3 m O=i->v5 m O v=m++[(O,v)])/\(∀p,h3 m O=D p->(m.map λV=>g V.2).set (g0 (m.map λV=>(.inl V.1:ey)) (.inl O)) (g v)=(v5 m O v).map (λV=>g V.2)/\(v5 m O v).map (λV=>(.inl V.1:ey))=m.map λV=>.inl V.1):=by
 induction m with
 |nil=>exact⟨λ_=>rfl,λp Y=>by cases Y⟩|cons V m a=>
  rw[eW,eW,g0,h3,v5];by_cases Y:V.1=O
  ·simp_all
  simp_all
theorem P9 (a:m.length<100000):nP [g v,jF g m,.c O]=.f .a9 [.e4,jF g (v5 m O v),.c O]:=by
 unfold jF nP;simp only[HN,cE];cases Y:h3 m O with
 |none=>rw[if_neg (λG=>(yE (g:=g) m).1 Y G.1),if_pos ⟨HO a,(yE (g:=g) m).1 Y⟩,(yF (g:=g) m).1 Y,iQ,iQ];rfl|some p=>rw[if_pos ⟨((yE (g:=g) m).2 p Y).1,HO a⟩,((yF m).2 p Y).1,((yF (g:=g)  m).2 p Y).2]
theorem adO (m:List (Int×aP)):tM (m.map λV=>.inl V.1)=D (m.map (·.1)):=by
 induction m with
 |nil=>rfl|cons V m a=>rw[eW,tM,a];rfl
theorem aiM:ya [jF g m]=rG (m.map (·.1)):=by
 show(match tM _ with |some is=>rG is |none=>_)=_
 rw[adO]
theorem v7 (y:Nat)(O h:Int):gp y (.c O) (.c h)=D (decide (O=h)):=by
 cases y with
 |_=>rfl
theorem P_ (y:Nat)(S b:bt):gp y (.d S) (.d b)=D (decide (S=b)):=by
 have:jx (eX S) (eX b)=decide (S=b):=by
  by_cases Y:S=b
  ·subst Y;simp[eX,jx]
  ·rw[decide_eq_false Y]
   refine beq_eq_false_iff_ne.mpr λG=>Y ?_
   injection G with G;exact List.toArray_inj G
 cases y with
 |_=>show D (jx _ _)=_;rw[this]
theorem ub {R:Bool}(Y:gp 12 S b=D R):gq cM S b=.f (.aQ (if cM=ag then !R else R)):=by
 unfold gq;rw[Y];rfl
theorem jg (S b:Int):gq cM (.c S) (.c b)=.f (.aQ (if cM=ag then !decide (S=b)else decide (S=b))):=ub (v7 12 S b)
theorem l4 (S b:bt):gq cM (.d S) (.d b)=.f (.aQ (if cM=ag then !decide (S=b)else decide (S=b))):=ub (P_ 12 S b)
theorem HP {w:Bd}:∀(ab:bO),(∀t∈ab,w t t=D ag)->nJ w ab ab=D ag
 |[],_=>by simp[nJ]
 |t::ab,Y=>by rw[nJ,Y t eI,HP ab λX a=>Y X (f5 _ a)];rfl
theorem HQ {y:Nat}(Y:∀t∈ab,gp y t t=D ag):gp (y+1) (.az .aM ab) (.az .aM ab)=D ag:=by
 show(if ab.length=ab.length then nJ _ ab ab else D aA)=_
 rw[if_pos rfl,HP ab Y]
theorem yG {y:Nat}(Y:∀t∈ab,gp y t t=D ag):gp (y+1) (.az .bb ab) (.az .bb ab)=D ag:=by
 show(nJ _ ab ab).map _=_
 rw[HP ab Y];simp
end
end VI
namespace K44
open PySem PySem.Spec PyProof.Rows L2 VI
open Mo renaming aC→aiN,f→g4
open ih renaming aL→aiO,od→aiP,qh→aiQ
noncomputable abbrev gi:=bt
abbrev HR:=List gi
noncomputable abbrev yH:bt:=[97,98,99,100,101,102,103,104,105,106,107,108,109,110,111,112,113,114,115,116,117,118,119,120,121,122]
noncomputable abbrev Co:bt:=[32,48,49,50,51,52,53,54,55,56,57,65,66,67,68,69,70,71,72,73,74,75,76,77,78,79,80,81,82,83,84,85,86,87,88,89,90]
noncomputable abbrev HS:bt:=[48,49,50,51,52,53,54,55,56,57]
noncomputable def aI:fG:={dg:=["Asking", "Clauses"],m9:=[("MATING_WORDS",[[109,97,116,101,115],[119,105,116,104,111,117,116]]),("WORK_WORDS",[[112,108,117,115],[108,101,115,115],[116,105,109,101,115]])]}
def Qa:cK:=[.ef (.aY .iy (.v 1) (.dX .cn [(.v 0)])) [.cG (.bh (.aY .fq (.v 0) (.v 1)))] [],.cG (.bh (.y 0))]
def uc:bY:=cy aI 2 0 Qa
noncomputable abbrev Cp:=H.b0 uc "_law_cell_at"
def Qb:cK:=[.cp 1 (.bh (.C (.d yH))),.cG (.bh (.eA .iJ (.C (.d [])) [(.ek ["_law_k"] [("_law_letters",1),("_law_cell",0)] .bI [(.aY .dA (.y 1) (.aY .es (.v 0) (.y 8)))] ⟨aA,[0]⟩ i (.aY .fq (.v 1) (.aY .es (.aY .dA (.aY .jc (.v 2) (.aY .dA (.v 0) (.y 1))) (.aY .mE (.v 0) (.v 0))) (.y 26))))]))]
def HU:bY:=cy aI 1 1 Qb
def Qc:cK:=[.cp 3 (.bh (.aY .dA (.y 1) (.aY .es (.v 0) (.v 1)))),.cG (.bh (.bb [(.v 3),(.dX .min [(.v 1),(.aY .dA (.v 3) (.aY .es (.aY .jc (.v 0) (.y 24)) (.v 2)))])]))]
def HV:bY:=cy aI 3 1 Qc
noncomputable abbrev v8:=H.b0 HV "_law_span"
def Qd:cK:=[.cp 2 (.bh (.C (.d yH))),.cp 3 (.bh (.aY .es (.v 1) (.dX .cn [(.v 0)]))),.cp 4 (.bh (.aY .fq (.v 2) (.aY .es (.aY .dA (.aY .dA (.eA .find (.v 2) [(.aY .fq (.v 0) (.v 3))]) (.y 1)) (.aY .es (.aY .jc (.v 1) (.y 8)) (.y 25))) (.y 26)))),.cG (.bh (.aY .dA (.aY .dA (.sl (.v 0) i (D (.v 3))) (.v 4)) (.sl (.v 0) (D (.aY .dA (.v 3) (.y 1))) i)))]
def HW:bY:=cy aI 2 3 Qd
def Cq:cK:=[.cp 2 (.bh (v8 [(.aY .jc (.v 1) (.y 4)),(.y 24),(.y 6)])),.cp 3 (.bh (.aY .kT (.O (.v 2) 1) (.O (.v 2) 0))),.cp 4 (.bh (.aY .dA (.y 1) (.aY .es (.aY .jc (.v 1) (.y 9)) (.aY .kT (.y 36) (.v 3))))),.ef (.aY .fH (.aY .es (.v 1) (.y 4)) (.y 1)) [.cG (.bh (.bb [(.C (.d [102,105,114,115,116])),(.v 2)]))] [],.ef (.aY .hV (.aY .es (.v 1) (.y 4)) (.y 1)) [.cG (.bh (.bb [(.aY .fq (.aM [(.C (.d [109,97,116,101,115])),(.C (.d [119,105,116,104,111,117,116]))]) (.aY .es (.v 1) (.y 2))),(.b0 HW "_law_other" [(.v 0),(.aY .jc (.v 1) (.y 4))]),(.v 2),(.bb [(.v 4),(.aY .dA (.v 4) (.v 3))])]))] [],.cG (.bh (.C .a9))]
def HX:bY:=cy aI 2 3 Cq
def HY:cK:=[.cp 2 (.bh (.bb [(.aY .dA (.y 25) (.aY .mE (.y 3) (.v 1))),(.aY .dA (.aY .dA (.y 25) (.aY .mE (.y 3) (.v 1))) (.aY .es (.v 0) (.y 3)))])),.cp 3 (.bh (v8 [(.aY .jc (.v 0) (.y 3)),(.y 24),(.y 6)])),.cp 4 (.bh (v8 [(.aY .jc (.v 0) (.y 5)),(.y 24),(.y 3)])),.ef (.and (.aY .hV (.v 1) (.y 0)) (.aY .fH (.aY .es (.aY .jc (.v 0) (.y 2)) (.y 3)) (.y 1))) [.cp 5 (.bh (.aY .dA (.y 25) (.aY .mE (.y 3) (.aY .es (.aY .jc (.v 0) (.y 7)) (.v 1))))),.cp 3 (.bh (.bb [(.v 5),(.aY .dA (.v 5) (.aY .es (.aY .jc (.v 0) (.y 11)) (.y 3)))]))] [],.cG (.bh (.bb [(.v 2),(.v 3),(.aY .fq (.aM [(.C (.d [112,108,117,115])),(.C (.d [108,101,115,115])),(.C (.d [116,105,109,101,115]))]) (.aY .es (.aY .jc (.v 0) (.y 4)) (.y 3))),(.v 4)]))]
def HZ:bY:=cy aI 2 4 HY
def Cr:cK:=[.cp 1 (.bh (.C (.d Co))),.cp 2 (.bh (Cp [(.v 0),(.y 3)])),.cp 3 (.bh (.aM [(.aM []),(.aM []),(.aM []),(.aM []),(.aM [])])),.gQ .dw [(.sl (.v 0) (D (.y 4)) (D (.y 67)))] ⟨aA,[4]⟩ [.cp 5 (.bh (.aY .es (.v 4) (.y 5))),.cp 6 (.bh (.aY .jc (.v 4) (.y 5))),.ef (.aY .vL (.dX .cn [(.aY .fq (.v 3) (.v 5))]) (.aY .fq (.aM [(.y 8),(.y 6),(.y 4),(.y 4),(.y 36)]) (.v 5))) [.cont] [],.ef (.aY .fH (.v 5) (.y 0)) [.cp 7 (.bh (v8 [(.v 6),(.y 24),(.y 5)])),.cp 8 (.bh (.eA .iJ (.C (.d [])) [(.ek ["_law_at"] [("_law_signs",1),("_law_seed",2)] .bW [(.O (.v 7) 0),(.aY .dA (.O (.v 7) 1) (.y 1))] ⟨aA,[0]⟩ i (.aY .fq (.v 1) (.aY .es (.aY .dA (.v 2) (.aY .mE (.aY .mE (.v 0) (.v 0)) (.aY .dA (.y 1) (.aY .es (.v 2) (.y 7))))) (.y 37))))])),.aT (.eS .dE (.z (.v 3) (.y 0)) [(.X (.bb [(.v 7),(.v 8)]))])] [],.ef (.aY .fH (.v 5) (.y 1)) [.aT (.eS .dE (.z (.v 3) (.y 1)) [(.X (v8 [(.v 6),(.y 24),(.y 4)]))])] [],.ef (.aY .fH (.v 5) (.y 2)) [.aT (.eS .dE (.z (.v 3) (.y 2)) [(.X (.b0 HZ "_law_work" [(.v 6),(.dX .cn [(.O (.v 3) 2)])]))])] [],.ef (.aY .fH (.v 5) (.y 3)) [.aT (.eS .dE (.z (.v 3) (.y 3)) [(.X (v8 [(.v 6),(.y 36),(.y 8)]))])] [],.ef (.and (.aY .fH (.v 5) (.y 4)) (.aY .BA (.aY .dA (.y 1) (.aY .es (.aY .jc (.v 6) (.y 40)) (.y 36))) (.ek ["_law_wire"] [] .dw [(.O (.v 3) 4)] ⟨aA,[0]⟩ i (.O (.v 0) 1)))) [.aT (.eS .dE (.z (.v 3) (.y 4)) [(.X (.bb [(.aY .dA (.y 1) (.aY .es (.v 6) (.y 40))),(.aY .dA (.y 1) (.aY .es (.aY .jc (.v 6) (.y 40)) (.y 36)))]))])] []],.cG (.ko 3)]
def yI:bY:=cy aI 1 8 Cr
def Qe:cK:=[.cG (.bh (.bb [(.aY .kT (.y 37) (.O (.v 0) 1)),(.aY .kT (.y 37) (.O (.v 0) 0))]))]
def H0:bY:=cy aI 1 0 Qe
noncomputable abbrev qL:=H.b0 H0 "_law_turned"
def nW:cK:=[.cp 1 (.bh (Cp [(.v 0),(.y 0)])),.cp 2 (.bh (.b0 HU "_law_name" [(.aY .jc (.v 1) (.y 2))])),.cp 3 (.bh (.b0 HX "_law_middle" [(.v 2),(Cp [(.v 0),(.y 1)])])),.cp 4 (.bh (Cp [(.v 0),(.y 2)])),.tW [5,6,7,8,9] (.b0 yI "_law_drawn" [(.v 0)]),.ef (.aY .fH (.aY .es (.v 1) (.y 2)) (.y 1)) [.cp 5 (.bh (.ek ["_law_field_here", "_law_text"] [] .dw [(.v 5)] ⟨ag,[0,1]⟩ i (.bb [(qL [(.v 0)]),(.m_ .qu (.v 1))]))),.cp 6 (.bh (.ek ["_law_field_here"] [] .dw [(.v 6)] ⟨aA,[0]⟩ i (qL [(.v 0)]))),.cp 8 (.bh (.ek ["_law_field_here"] [] .dw [(.v 8)] ⟨aA,[0]⟩ i (qL [(.v 0)]))),.cp 10 (.bh (.aM [])),.gQ .dw [(.v 7)] ⟨ag,[11,12,13,14]⟩ [.aT (.eS .dE (.v 10) [(.X (.bb [(qL [(.v 11)]),(qL [(.v 12)]),(.v 13),(qL [(.v 14)])]))])],.cp 7 (.bh (.v 10)),.ef (.aY .rH (.v 3) (.C .a9)) [.cp 15 (.bh (.aY .kT (.aY .kT (.dX .cn [(.v 3)]) (.y 1)) (.dX .c [(.aY .fH (.dX .cn [(.v 3)]) (.y 4))]))),.cp 3 (.bh (.aY .dA (.aY .dA (.sl (.v 3) i (D (.v 15))) (.bb [(qL [(.aY .fq (.v 3) (.v 15))])])) (.sl (.v 3) (D (.aY .dA (.v 15) (.y 1))) i)))] []] [],.cp 16 (.bh (.ek ["_law_there", "_law_here"] [] .dw [(.dX .tN [(.ek ["_law_wire"] [] .dw [(.v 9)] ⟨aA,[0]⟩ i (.bb [(.O (.v 0) 1),(.O (.v 0) 0)]))])] ⟨ag,[0,1]⟩ i (.bb [(.v 1),(.v 0)]))),.cp 17 (.bh (.aY .es (.v 4) (.aY .dA (.dX .min [(.y 3),(.dX .cn [(.v 6)])]) (.y 1)))),.cG (.bh (.aM [(.v 2),(.v 5),(.v 3),(.v 6),(.v 7),(.v 17),(.v 8),(.aY .dA (.y 1) (.aY .es (.aY .jc (.v 4) (.y 4)) (.y 12))),(.v 16)]))]
def Cs:bY:=cy aI 1 17 nW
noncomputable def Qf:cK:=[.cG (.bh (.jU (.aY .is (.v 0) (.C .a9)) (.aM []) (.dX .d9 [(.v 0)])))]
def H2:bY:=cy aI 1 0 Qf
noncomputable abbrev H3:=H.b0 H2 "own_list"
noncomputable def adP:cK:=[.ef (.not (.v 0)) [.jd] []]
def H4:bY:=cy aI 2 0 adP
noncomputable abbrev j4:=H.b0 H4 "ask_for"
def Qg:cK:=[.aT (.bh (j4 [(.aY .fB (.dX .cn [(.dh (.v 0) "picks")]) (.fI "MOST_PICKS" (.c 8))),(.C (.d [97,110,32,97,115,107,105,110,103,32,104,97,115,32,56,32,112,105,99,107,115,32,97,116,32,109,111,115,116]))])),.aT (.bh (j4 [(.aY .fB (.dX .cn [(.dh (.v 0) "order")]) (.fI "MOST_KEYS" (.c 6))),(.C (.d [97,110,32,97,115,107,105,110,103,32,104,97,115,32,54,32,107,101,121,115,32,97,116,32,109,111,115,116]))])),.aT (.bh (j4 [(.aY .fB (.dX .cn [(.dh (.v 0) "works")]) (.fI "MOST_WORKS" (.c 4))),(.C (.d [97,110,32,97,115,107,105,110,103,32,104,97,115,32,52,32,119,111,114,107,115,32,97,116,32,109,111,115,116]))])),.aT (.bh (j4 [(.aY .fB (.dX .cn [(.dh (.v 0) "sums")]) (.fI "MOST_SUMS" (.c 4))),(.C (.d [97,110,32,97,115,107,105,110,103,32,104,97,115,32,52,32,115,117,109,115,32,97,116,32,109,111,115,116]))]))]
def H5:bY:=cy aI 1 0 Qg
def adQ:cK:=[.cG (.bh (.and (.aY .rH (.dh (.v 0) "middle") (.C .a9)) (.aY .ps (.O (.dh (.v 0) "middle") 0) (.hV "MATING_WORDS" [[109,97,116,101,115],[119,105,116,104,111,117,116]]))))]
def Qh:bY:=cy aI 1 0 adQ
noncomputable abbrev Ct:=H.b0 Qh "mates_by"
def adR:cK:=[.ef (.aY .is (.dh (.v 0) "middle") (.C .a9)) [.tX] [],.cp 1 (.bh (.dX .cn [(.dh (.v 0) "middle")])),.aT (.bh (j4 [(.and (.aY .hV (.v 1) (.y 0)) (.or (Ct [(.v 0)]) (.aY .fH (.O (.dh (.v 0) "middle") 0) (.C (.d [102,105,114,115,116]))))),(.C (.d [97,32,109,105,100,100,108,101,32,104,97,115,32,111,110,101,32,111,102,32,116,104,114,101,101,32,119,111,114,100,115]))])),.aT (.bh (j4 [(.aY .fH (.v 1) (.jU (Ct [(.v 0)]) (.y 4) (.y 2))),(.C (.d [97,32,109,105,100,100,108,101,32,104,97,115,32,119,104,97,116,32,105,116,115,32,119,111,114,100,32,119,97,110,116,115]))]))]
def H6:bY:=cy aI 1 1 adR
def adS:cK:=[.cG (.bh (.jU (Ct [(.v 0)]) (.aM [(.dh (.v 0) "deck"),(.O (.dh (.v 0) "middle") 1)]) (.aM [(.dh (.v 0) "deck")])))]
def Cu:bY:=cy aI 1 0 adS
def Qi:cK:=[.cG (.bh (.and (.ke .fB .fB (.y 1) (.dX .cn [(.v 0)]) (.fI "LONGEST_NAME" (.c 8))) (.dX .all [(.ek ["letter"] [] .dw [(.v 0)] ⟨aA,[0]⟩ i (.aY .ps (.v 0) (.fI "SMALL_LETTERS" (.d yH))))])))]
def H7:bY:=cy aI 1 0 Qi
def Qj:cK:=[.cp 1 (.bh (.b0 Cu "names_of" [(.v 0)])),.gQ .dw [(.v 1)] ⟨aA,[2]⟩ [.aT (.bh (j4 [(.b0 H7 "is_name" [(.v 2)]),(.C (.d [97,32,110,97,109,101,32,104,97,115,32,111,110,101,32,116,111,32,101,105,103,104,116,32,115,109,97,108,108,32,108,101,116,116,101,114,115]))]))],.aT (.bh (j4 [(.or (.aY .ne (.O (.v 1) 0) (.aY .fq (.v 1) (.cM (.y 1)))) (.aY .fH (.dX .cn [(.v 1)]) (.y 1))),(.C (.d [116,104,101,32,116,119,111,32,110,97,109,101,115,32,97,114,101,32,117,110,108,105,107,101]))]))]
def Cv:bY:=cy aI 1 2 Qj
def adT:cK:=[.ef (.aY .is (.dh (.v 0) "middle") (.C .a9)) [.cG (.bh (.aM []))] [],.cG (.bh (.jU (Ct [(.v 0)]) (.dX .d9 [(.sl (.dh (.v 0) "middle") (D (.y 2)) i)]) (.aM [(.O (.dh (.v 0) "middle") 1)])))]
def H8:bY:=cy aI 1 0 adT
noncomputable abbrev H9:=H.b0 H8 "middle_fields"
def Qk:cK:=[.cp 1 (.bh (.aY .dA (.aY .dA (.aY .dA (.ek ["pick"] [] .dw [(.dh (.v 0) "picks")] ⟨aA,[0]⟩ i (.O (.v 0) 0)) (H9 [(.v 0)])) (.dh (.v 0) "order")) (.dh (.v 0) "sums"))),.gQ .dw [(.dh (.v 0) "works")] ⟨aA,[2]⟩ [.aT (.eS .l0 (.v 1) [(.X (.aM [(.O (.v 2) 0),(.O (.v 2) 1),(.O (.v 2) 3)]))])],.cG (.ko 1)]
def H_:bY:=cy aI 1 2 Qk
noncomputable def adU:cK:=[.cG (.bh (.and (.kn (.v 0) "int") (.not (.kn (.v 0) "bool"))))]
def Ia:bY:=cy aI 1 0 adU
noncomputable abbrev yJ:=H.b0 Ia "is_whole"
def Ql:cK:=[.cG (.bh (.and (yJ [(.v 0)]) (.and (yJ [(.v 1)]) (.px .fB .fB .fB (.y 1) (.v 0) (.v 1) (.fI "BODY_WIDTH" (.c 36))))))]
def Cw:bY:=cy aI 2 0 Ql
def adV:cK:=[.cG (.bh (.aY .dA (.aY .kT (.O (.v 0) 1) (.O (.v 0) 0)) (.y 1)))]
def Ib:bY:=cy aI 1 0 adV
noncomputable abbrev Ic:=H.b0 Ib "width_of"
def Qm:cK:=[.cG (.bh (.dX .all [(.ek ["sign"] [] .dw [(.v 0)] ⟨aA,[0]⟩ i (.aY .ps (.v 0) (.fI "SIGNS" (.d Co))))]))]
def Cx:bY:=cy aI 1 0 Qm
def Qn:cK:=[.cp 1 (.bh .ov),.gQ .dw [(.v 0)] ⟨aA,[2]⟩ [.ef (.aY .fH (.O (.v 2) 0) (.C (.d [112,105,99,107]))) [.tY (.aY .ne (.rQ (.v 1) (.O (.v 2) 1) (.O (.v 2) 2)) (.bh (.O (.v 2) 2))) [.cG (.bh (.C .a9))] []] []],.cG (.ko 1)]
def Cy:bY:=cy aI 1 2 Qn
def Qo:cK:=[.cG (.bh (.pw (.O (.v 0) 0) (.aY .dA (.O (.v 0) 1) (.y 1))))]
def Ie:bY:=cy aI 1 0 Qo
def Qp:cK:=[.cp 1 (.bh (.aM [])),.gQ .dw [(.dh (.v 0) "picks")] ⟨aA,[2]⟩ [.aT (.eS .l0 (.v 1) [(.X (.ek ["column", "sign"] [] .zip [(.b0 Ie "columns_of" [(.O (.v 2) 0)]),(.O (.v 2) 1)] ⟨ag,[0,1]⟩ i (.bb [(.C (.d [112,105,99,107])),(.v 0),(.v 1)])))])],.cG (.ko 1)]
def Ig:bY:=cy aI 1 2 Qp
def Qq:cK:=[.gQ .dw [(.dh (.v 0) "picks")] ⟨aA,[1]⟩ [.aT (.bh (j4 [(.aY .fH (.dX .cn [(.O (.v 1) 1)]) (Ic [(.O (.v 1) 0)])),(.C (.d [97,32,112,105,99,107,39,115,32,116,101,120,116,32,105,115,32,97,115,32,119,105,100,101,32,97,115,32,105,116,115,32,102,105,101,108,100]))])),.aT (.bh (j4 [(.b0 Cx "are_signs" [(.O (.v 1) 1)]),(.C (.d [97,32,112,105,99,107,39,115,32,116,101,120,116,32,105,115,32,111,102,32,115,105,103,110,115]))]))],.aT (.bh (j4 [(.aY .rH (.b0 Cy "picked_signs" [(.b0 Ig "pick_passes" [(.v 0)])]) (.C .a9)),(.C (.d [116,119,111,32,112,105,99,107,115,32,119,97,110,116,32,117,110,108,105,107,101,32,115,105,103,110,115,32,111,102,32,111,110,101,32,99,111,108,117,109,110]))]))]
def Ih:bY:=cy aI 1 1 Qq
def Cz:cK:=[.cp 1 (.bh (H9 [(.v 0)])),.tZ (.v 1) [.aT (.bh (j4 [(.aY .fH (Ic [(.O (.v 1) 0)]) (Ic [(.aY .fq (.v 1) (.cM (.y 1)))])),(.C (.d [116,104,101,32,109,105,100,100,108,101,39,115,32,102,105,101,108,100,115,32,97,114,101,32,111,102,32,111,110,101,32,119,105,100,116,104]))]))] []]
def Ii:bY:=cy aI 1 1 Cz
def Qr:cK:=[.cG (.bh (.and (yJ [(.v 0)]) (.ke .fB .fB (.y 1) (.v 0) (.v 1))))]
def CA:bY:=cy aI 2 0 Qr
def Ij:cK:=[.gQ .dw [(.v 0)] ⟨aA,[1]⟩ [.ef (.or (.not (.b0 CA "is_column" [(.O (.v 1) 0),(.fI "CARD_WIDTH" (.c 40))])) (.not (.b0 CA "is_column" [(.O (.v 1) 1),(.fI "BODY_WIDTH" (.c 36))]))) [.jd] []],.cp 2 (.bh .ov),.gQ .dw [(.v 0)] ⟨aA,[1]⟩ [.ef (.aY .ps (.O (.v 1) 1) (.v 2)) [.jd] [],.rR (.v 2) (.O (.v 1) 1) (.v 1)],.cG (.bh (.ek ["column"] [("leading",2)] .dw [(.dX .vM [(.v 2)])] ⟨aA,[0]⟩ i (.aY .fq (.v 1) (.v 0))))]
def yK:bY:=cy aI 1 2 Ij
def Qs:cK:=[.pI [.cp 1 (.bh (.b0 yK "make_board" [(.v 0)]))] [],.cG (.bh (.aY .fH (.v 1) (.v 0)))]
def Ik:bY:=cy aI 1 1 Qs
def Qt:cK:=[.aT (.bh (j4 [(.and (yJ [(.dh (.v 0) "breaks")]) (.ke .fB .fB (.y 0) (.dh (.v 0) "breaks") (.fI "MOST_BREAKS" (.c 3)))),(.C (.d [116,104,101,114,101,32,97,114,101,32,48,32,116,111,32,51,32,98,114,101,97,107,115]))])),.aT (.bh (j4 [(.aY .fB (.dh (.v 0) "breaks") (.dX .cn [(.dh (.v 0) "order")])),(.C (.d [116,104,101,114,101,32,97,114,101,32,110,111,32,109,111,114,101,32,98,114,101,97,107,115,32,116,104,97,110,32,107,101,121,115]))])),.aT (.bh (j4 [(.and (yJ [(.dh (.v 0) "figures")]) (.ke .fB .fB (.y 1) (.dh (.v 0) "figures") (.fI "MOST_FIGURES" (.c 12)))),(.C (.d [119,104,101,101,108,115,32,104,97,118,101,32,49,32,116,111,32,49,50,32,102,105,103,117,114,101,115]))])),.aT (.bh (j4 [(.b0 Ik "is_board" [(.dh (.v 0) "board")]),(.C (.d [116,104,101,32,98,111,97,114,100,32,105,115,32,110,111,110,101,44,32,111,114,32,110,111,116,32,115,111,114,116,101,100]))]))]
def Il:bY:=cy aI 1 0 Qt
def Qu:cK:=[.cp 2 (.bh (.aY .dA (.aY .dA (.ek ["pick"] [] .dw [(.dh (.v 0) "picks")] ⟨aA,[0]⟩ i (.O (.v 0) 0)) (.sl (H9 [(.v 0)]) i (D (.y 1)))) (.dh (.v 0) "order"))),.gQ .rJ [(.dh (.v 0) "works")] ⟨ag,[3,4]⟩ [.ef (.aY .ne (.v 3) (.v 1)) [.aT (.eS .dE (.v 2) [(.X (.O (.v 4) 0))])] [],.ef (.aY .fB (.v 3) (.v 1)) [.aT (.eS .l0 (.v 2) [(.X (.aM [(.O (.v 4) 1),(.O (.v 4) 3)]))])] []],.cG (.ko 2)]
def Im:bY:=cy aI 2 3 Qu
def Qv:cK:=[.cG (.bh (.or (.aY .iy (.O (.v 0) 1) (.O (.v 1) 0)) (.aY .iy (.O (.v 1) 1) (.O (.v 0) 0))))]
def Io:bY:=cy aI 2 0 Qv
def Qw:cK:=[.gQ .rJ [(.dh (.v 0) "works")] ⟨ag,[1,2]⟩ [.aT (.bh (j4 [(.aY .ps (.O (.v 2) 2) (.hV "WORK_WORDS" [[112,108,117,115],[108,101,115,115],[116,105,109,101,115]])),(.C (.d [97,32,119,111,114,107,32,104,97,115,32,111,110,101,32,111,102,32,116,104,114,101,101,32,119,111,114,100,115]))])),.gQ .dw [(.b0 Im "fields_kept" [(.v 0),(.v 1)])] ⟨aA,[3]⟩ [.aT (.bh (j4 [(.b0 Io "are_apart" [(.O (.v 2) 0),(.v 3)]),(.C (.d [97,32,119,111,114,107,32,112,117,110,99,104,101,115,32,105,110,116,111,32,97,32,102,105,101,108,100,32,116,104,97,116,32,105,116,32,109,117,115,116,32,98,101,32,97,112,97,114,116,32,102,114,111,109]))]))]]]
def Ip:bY:=cy aI 1 3 Qw
def Qx:cK:=[.aT (.bh (.b0 H5 "check_lengths" [(.v 0)])),.aT (.bh (.b0 H6 "check_middle_word" [(.v 0)])),.aT (.bh (.b0 Cv "check_names" [(.v 0)])),.gQ .dw [(.b0 H_ "fields_due" [(.v 0)])] ⟨aA,[1]⟩ [.aT (.bh (j4 [(.b0 Cw "is_field" [(.O (.v 1) 0),(.O (.v 1) 1)]),(.C (.d [97,32,102,105,101,108,100,32,103,111,101,115,32,102,114,111,109,32,97,32,102,105,114,115,116,32,116,111,32,97,32,108,97,115,116,32,99,111,108,117,109,110,44,32,102,114,111,109,32,49,32,116,111,32,51,54]))]))],.aT (.bh (.b0 Ih "check_picks" [(.v 0)])),.aT (.bh (.b0 Ii "check_middle_widths" [(.v 0)])),.aT (.bh (.b0 Il "check_counting" [(.v 0)])),.aT (.bh (.b0 Ip "check_works" [(.v 0)]))]
def Iq:bY:=cy aI 1 1 Qx
def yL:cK:=[.kY (.v 0) "deck" (.v 1),.kY (.v 0) "picks" (.dX .d9 [(.v 2)]),.kY (.v 0) "middle" (.v 3),.kY (.v 0) "order" (.dX .d9 [(.v 4)]),.kY (.v 0) "works" (H3 [(.v 5)]),.kY (.v 0) "breaks" (.v 6),.kY (.v 0) "sums" (H3 [(.v 7)]),.kY (.v 0) "figures" (.v 8),.kY (.v 0) "board" (H3 [(.v 9)]),.aT (.bh (.b0 Iq "check_asking" [(.v 0)]))]
def yM:bY:=cy aI 10 0 yL
def Qy:cK:=[.cp 1 (.bh (.ek ["_law_part"] [] .dw [(.v 0)] ⟨aA,[0]⟩ i (.jU (.kn (.v 0) "list") (.dX .d9 [(.v 0)]) (.v 0)))),.cp 2 (.bh (.sl (.v 1) (D (.y 4)) i)),.cG (.bh (.jn yM "Asking" [(.O (.v 1) 0),(.O (.v 1) 1),(.O (.v 1) 2),(.O (.v 1) 3),(.O (.v 2) 0),(.O (.v 2) 1),(.O (.v 2) 2),(.O (.v 2) 3),(.O (.v 2) 4)]))]
def Ir:bY:=cy aI 1 2 Qy
def Qz:cK:=[.cG (.bh (.jU (.aY .fH (.v 1) (.C (.d []))) (.v 0) (.au [(.hD (.v 0)),(.C (.d [32])),(.hD (.v 1))])))]
def qM:bY:=cy aI 2 0 Qz
noncomputable abbrev v9:=H.b0 qM "shown_clause"
def QA:cK:=[.cp 1 (.bh (.O (.v 0) 0)),.cp 2 (.bh (.O (.v 0) 1)),.ef (.aY .fH (.v 1) (.v 2)) [.cG (.bh (.dX .d [(.v 1)]))] [],.cG (.bh (.au [(.hD (.v 1)),(.C (.d [45])),(.hD (.v 2))]))]
def v_:bY:=cy aI 1 2 QA
noncomputable abbrev pO:=H.b0 v_ "shown_field"
noncomputable def QB:cK:=[.cG (.bh (.m_ (.m1 32 95) (.v 0)))]
def It:bY:=cy aI 1 0 QB
def QC:cK:=[.cp 1 (.bh (pO [(.O (.v 0) 0)])),.cp 2 (.bh (.b0 It "shown_blanks" [(.O (.v 0) 1)])),.cG (.bh (.au [(.C (.d [112,105,99,107,32])),(.hD (.v 1)),(.C (.d [32])),(.hD (.v 2))]))]
def Iu:bY:=cy aI 1 2 QC
def wa:cK:=[.ef (.aY .is (.v 0) (.C .a9)) [.cG (.bh (.aM []))] [],.cp 1 (.bh (.ek ["thing"] [] .dw [(.v 0)] ⟨aA,[0]⟩ i (.jU (.kn (.v 0) "tuple") (pO [(.v 0)]) (.v 0)))),.cG (.bh (.aM [(.eA .iJ (.C (.d [32])) [(.v 1)])]))]
def Iv:bY:=cy aI 1 1 wa
def QD:cK:=[.cG (.bh (.eA .iJ (.C (.d [44,32])) [(.ek ["field"] [] .dw [(.v 0)] ⟨aA,[0]⟩ i (pO [(.v 0)]))]))]
def CB:bY:=cy aI 1 0 QD
def QE:cK:=[.cp 1 (.bh (.aM [(pO [(.O (.v 0) 0)]),(.C (.d [61])),(pO [(.O (.v 0) 1)]),(.O (.v 0) 2),(pO [(.O (.v 0) 3)])])),.cG (.bh (.eA .iJ (.C (.d [32])) [(.v 1)]))]
def Iw:bY:=cy aI 1 1 QE
def QF:cK:=[.cp 1 (.bh (.aM [])),.gQ .dw [(.v 0)] ⟨aA,[2]⟩ [.qE (.v 1) (.aY .fH (.aY .fq (.aY .fq (.v 1) (.cM (.y 1))) (.cM (.y 1))) (.bb [(.aY .kT (.O (.v 2) 0) (.y 1)),(.aY .kT (.O (.v 2) 1) (.y 1))])) [.aT (.eS .dE (.z (.v 1) (.cM (.y 1))) [(.X (.v 2))])] [.aT (.eS .dE (.v 1) [(.X (.aM [(.v 2)]))])]],.cG (.ko 1)]
def CC:bY:=cy aI 1 2 QF
def QG:cK:=[.cp 1 (.bh (pO [(.bb [(.O (.O (.v 0) 0) 0),(.O (.aY .fq (.v 0) (.cM (.y 1))) 0)])])),.cp 2 (.bh (pO [(.bb [(.O (.O (.v 0) 0) 1),(.O (.aY .fq (.v 0) (.cM (.y 1))) 1)])])),.cG (.bh (.au [(.hD (.v 1)),(.C (.d [62])),(.hD (.v 2))]))]
def CD:bY:=cy aI 1 2 QG
def QH:cK:=[.cG (.bh (.eA .iJ (.C (.d [44,32])) [(.ek ["piece"] [] .dw [(.b0 CC "pieces_of" [(.v 0)])] ⟨aA,[0]⟩ i (.b0 CD "shown_piece" [(.v 0)]))]))]
def Iy:bY:=cy aI 1 0 QH
def QI:cK:=[.cp 1 (.bh (.aM [(v9 [(.C (.d [116,97,107,101])),(.dh (.v 0) "deck")])])),.aT (.eS .l0 (.v 1) [(.X (.ek ["pick"] [] .dw [(.dh (.v 0) "picks")] ⟨aA,[0]⟩ i (.b0 Iu "shown_pick" [(.v 0)])))]),.aT (.eS .l0 (.v 1) [(.X (.b0 Iv "shown_middle" [(.dh (.v 0) "middle")]))]),.aT (.eS .dE (.v 1) [(.X (v9 [(.C (.d [111,114,100,101,114])),(.b0 CB "shown_listed" [(.dh (.v 0) "order")])]))]),.aT (.eS .l0 (.v 1) [(.X (.ek ["work"] [] .dw [(.dh (.v 0) "works")] ⟨aA,[0]⟩ i (v9 [(.C (.d [119,111,114,107])),(.b0 Iw "shown_work" [(.v 0)])])))]),.aT (.eS .dE (.v 1) [(.X (v9 [(.C (.d [98,114,101,97,107])),(.dX .d [(.dh (.v 0) "breaks")])]))]),.cp 2 (.bh (v9 [(.C (.d [115,117,109])),(.b0 CB "shown_listed" [(.dh (.v 0) "sums")])])),.cp 3 (.bh (.dX .d [(.dh (.v 0) "figures")])),.aT (.eS .dE (.v 1) [(.X (.au [(.hD (.v 2)),(.C (.d [32,105,110,32])),(.hD (.v 3))]))]),.aT (.eS .dE (.v 1) [(.X (v9 [(.C (.d [112,114,105,110,116])),(.b0 Iy "shown_board" [(.dh (.v 0) "board")])]))]),.cG (.bh (.eA .iJ (.C (.d [59,32])) [(.v 1)]))]
def CE:bY:=cy aI 1 3 QI
def QJ:cK:=[.ef (.aY .fH (.O (.v 0) 0) (.O (.v 0) 1)) [.cG (.bh (.dX .d [(.O (.v 0) 0)]))] [],.cG (.bh (.aY .dA (.aY .dA (.dX .d [(.O (.v 0) 0)]) (.C (.d [45]))) (.dX .d [(.O (.v 0) 1)])))]
def wb:bY:=cy aI 1 0 QJ
noncomputable abbrev oC:=H.b0 wb "_law_field"
def r2:cK:=[.cp 2 (.bh (.aM [(.aY .dA (.C (.d [116,97,107,101,32])) (.O (.v 0) 0))])),.gQ .dw [(.O (.v 0) 1)] ⟨ag,[3,4]⟩ [.aT (.eS .dE (.v 2) [(.X (.aY .dA (.aY .dA (.aY .dA (.C (.d [112,105,99,107,32])) (oC [(.v 3)])) (.C (.d [32]))) (.eA .iJ (.C (.d [95])) [(.eA .split (.v 4) [(.C (.d [32]))])])))])],.ef (.aY .rH (.O (.v 0) 2) (.C .a9)) [.cp 5 (.bh (.aM [])),.gQ .dw [(.O (.v 0) 2)] ⟨aA,[6]⟩ [.ef (.kn (.v 6) "tuple") [.aT (.eS .dE (.v 5) [(.X (oC [(.v 6)]))])] [.aT (.eS .dE (.v 5) [(.X (.v 6))])]],.aT (.eS .dE (.v 2) [(.X (.eA .iJ (.C (.d [32])) [(.v 5)]))])] [],.cp 7 (.bh (.eA .iJ (.C (.d [44,32])) [(.ek ["_law_field_here"] [] .dw [(.O (.v 0) 3)] ⟨aA,[0]⟩ i (oC [(.v 0)]))])),.aT (.eS .dE (.v 2) [(.X (.eA .iJ (.C (.d [32])) [(.sl (.aM [(.C (.d [111,114,100,101,114])),(.v 7)]) i (D (.aY .dA (.y 1) (.dX .cn [(.O (.v 0) 3)]))))]))]),.gQ .dw [(.O (.v 0) 4)] ⟨ag,[8,9,10,11]⟩ [.cp 5 (.bh (.aM [(.C (.d [119,111,114,107])),(oC [(.v 8)]),(.C (.d [61])),(oC [(.v 9)]),(.v 10),(oC [(.v 11)])])),.aT (.eS .dE (.v 2) [(.X (.eA .iJ (.C (.d [32])) [(.v 5)]))])],.aT (.eS .dE (.v 2) [(.X (.aY .dA (.C (.d [98,114,101,97,107,32])) (.dX .d [(.O (.v 0) 5)])))]),.cp 12 (.bh (.eA .iJ (.C (.d [44,32])) [(.ek ["_law_field_here"] [] .dw [(.O (.v 0) 6)] ⟨aA,[0]⟩ i (oC [(.v 0)]))])),.aT (.eS .dE (.v 2) [(.X (.eA .iJ (.C (.d [32])) [(.aY .dA (.sl (.aM [(.C (.d [115,117,109])),(.v 12)]) i (D (.aY .dA (.y 1) (.dX .cn [(.O (.v 0) 6)])))) (.aM [(.C (.d [105,110])),(.dX .d [(.O (.v 0) 7)])]))]))]),.cG (.bh (.aY .dA (.v 2) (.aM [(.eA .iJ (.C (.d [32])) [(.aY .dA (.aM [(.C (.d [112,114,105,110,116]))]) (.sl (.aM [(.v 1)]) i (D (.dX .cn [(.v 1)]))))])])))]
def Iz:bY:=cy aI 2 11 r2
def QK:cK:=[.cp 1 (.bh (.aM [])),.gQ .dw [(.v 0)] ⟨aA,[2]⟩ [.ef (.and (.aY .ne (.v 1) (.aM [])) (.aY .fH (.v 2) (.bb [(.aY .dA (.O (.O (.aY .fq (.v 1) (.cM (.y 1))) 1) 0) (.y 1)),(.aY .dA (.O (.O (.aY .fq (.v 1) (.cM (.y 1))) 1) 1) (.y 1))]))) [.rR (.z (.v 1) (.cM (.y 1))) (.y 1) (.v 2)] [.aT (.eS .dE (.v 1) [(.X (.aM [(.v 2),(.v 2)]))])]],.cp 3 (.bh (.aM [])),.gQ .dw [(.v 1)] ⟨ag,[4,5]⟩ [.aT (.eS .dE (.v 3) [(.X (.aY .dA (.aY .dA (oC [(.bb [(.O (.v 4) 0),(.O (.v 5) 0)])]) (.C (.d [62]))) (oC [(.bb [(.O (.v 4) 1),(.O (.v 5) 1)])])))])],.cG (.bh (.eA .iJ (.C (.d [44,32])) [(.v 3)]))]
def IA:bY:=cy aI 1 5 QK
noncomputable def QL:cK:=[.cp 1 (.bh (.aM [(.dh (.v 0) "deck"),(.dh (.v 0) "picks"),(.dh (.v 0) "middle"),(.dh (.v 0) "order"),(.dh (.v 0) "works"),(.dh (.v 0) "breaks")])),.cG (.bh (.aY .dA (.v 1) (.aM [(.dh (.v 0) "sums"),(.dh (.v 0) "figures"),(.dh (.v 0) "board")])))]
def CF:bY:=cy aI 1 1 QL
def IB:cK:=[.cG (.bh (.and (.aY .ne (.dh (.v 0) "waiting") (.aM [])) (.aY .fH (.O (.eA .vN (.O (.dh (.v 0) "waiting") 0) [(.C (.d [32]))]) 0) (.v 1))))]
def pP:bY:=cy aI 2 0 IB
def IC:cK:=[.ef (.not (.eL [("Clauses",pP)] (.v 0) "is_next" [(.v 1)])) [.jd] [],.cG (.eS .tV (.w (.v 0) "waiting") [(.X (.y 0))])]
def qN:bY:=cy aI 2 0 IC
def CG:cK:=[.cp 3 (.kX (.eA .split [(.C (.d [32]))]) (.eL [("Clauses",qN)] (.v 0) "take" [(.X (.v 1))])),.ef (.aY .ne (.dX .cn [(.v 3)]) (.v 2)) [.jd] [],.cG (.ko 3)]
def lB:bY:=cy aI 3 1 CG
def adW:cK:=[.cp 1 (.bh (.y 0)),.gQ .dw [(.v 0)] ⟨aA,[2]⟩ [.cp 1 (.bh (.aY .dA (.aY .mE (.v 1) (.y 10)) (.eA .index (.fI "FIGURES" (.d HS)) [(.v 2)])))],.cG (.ko 1)]
def QM:bY:=cy aI 1 2 adW
def adX:cK:=[.ef (.or (.aY .fH (.v 0) (.C (.d []))) (.not (.dX .all [(.ek ["sign"] [] .dw [(.v 0)] ⟨aA,[0]⟩ i (.aY .ps (.v 0) (.fI "FIGURES" (.d HS))))]))) [.cG (.bh (.C .a9))] [],.ef (.and (.aY .fH (.O (.v 0) 0) (.C (.d [48]))) (.aY .ne (.v 0) (.C (.d [48])))) [.cG (.bh (.C .a9))] [],.cG (.bh (.b0 QM "number_by" [(.v 0)]))]
def yN:bY:=cy aI 1 0 adX
noncomputable abbrev ID:=H.b0 yN "read_whole"
def QN:cK:=[.ef (.not (.b0 Cw "is_field" [(.v 0),(.v 1)])) [.jd] [],.cG (.bh (.bb [(.v 0),(.v 1)]))]
def IE:bY:=cy aI 2 0 QN
def QO:cK:=[.cp 1 (.bh (.ek ["end"] [] .dw [(.eA .split (.v 0) [(.C (.d [45]))])] ⟨aA,[0]⟩ i (ID [(.v 0)]))),.ef (.or (.aY .hV (.dX .cn [(.v 1)]) (.y 2)) (.and (.aY .fH (.dX .cn [(.v 1)]) (.y 2)) (.aY .fH (.O (.v 1) 0) (.O (.v 1) 1)))) [.jd] [],.cG (.bh (.b0 IE "field_of" [(.O (.v 1) 0),(.aY .fq (.v 1) (.cM (.y 1)))]))]
def wc:bY:=cy aI 1 1 QO
noncomputable abbrev ud:=H.b0 wc "read_field"
noncomputable def QP:cK:=[.cG (.bh (.m_ (.m1 95 32) (.v 0)))]
def IF:bY:=cy aI 1 0 QP
def yO:cK:=[.cp 1 (.bh (.aM [])),.qF (.eL [("Clauses",pP)] (.v 0) "is_next" [(.C (.d [112,105,99,107]))]) [.cp 2 (.eL [("Clauses",lB)] (.v 0) "take_words" [(.X (.C (.d [112,105,99,107]))),(.X (.y 3))]),.aT (.eS .dE (.v 1) [(.X (.bb [(ud [(.O (.v 2) 1)]),(.b0 IF "read_blanks" [(.O (.v 2) 2)])]))])],.cG (.ko 1)]
def CH:bY:=cy aI 1 2 yO
def yP:cK:=[.gQ .dw [(.hV "MATING_WORDS" [[109,97,116,101,115],[119,105,116,104,111,117,116]])] ⟨aA,[1]⟩ [.ef (.eL [("Clauses",pP)] (.v 0) "is_next" [(.v 1)]) [.cp 2 (.eL [("Clauses",lB)] (.v 0) "take_words" [(.X (.v 1)),(.X (.y 4))]),.cG (.bh (.bb [(.v 1),(.O (.v 2) 1),(ud [(.O (.v 2) 2)]),(ud [(.O (.v 2) 3)])]))] []],.ef (.eL [("Clauses",pP)] (.v 0) "is_next" [(.C (.d [102,105,114,115,116]))]) [.cG (.tk (.d [102,105,114,115,116]) (.kX (.b0 wc "read_field" []) (.aY .fq (.eL [("Clauses",lB)] (.v 0) "take_words" [(.X (.C (.d [102,105,114,115,116]))),(.X (.y 2))]) (.bh (.y 1)))))] [],.cG (.bh (.C .a9))]
def CI:bY:=cy aI 1 2 yP
def QR:cK:=[.ef (.aY .fH (.v 0) (.v 1)) [.cG (.bh (.aM []))] [],.cG (.bh (.ek ["text"] [] .dw [(.eA .split (.sl (.v 0) (D (.aY .dA (.dX .cn [(.v 1)]) (.y 1))) i) [(.C (.d [44,32]))])] ⟨aA,[0]⟩ i (ud [(.v 0)])))]
def yQ:bY:=cy aI 2 0 QR
def yR:cK:=[.cp 1 (.bh (.aM [])),.qF (.eL [("Clauses",pP)] (.v 0) "is_next" [(.C (.d [119,111,114,107]))]) [.cp 2 (.eL [("Clauses",lB)] (.v 0) "take_words" [(.X (.C (.d [119,111,114,107]))),(.X (.y 6))]),.ef (.aY .ne (.O (.v 2) 2) (.C (.d [61]))) [.jd] [],.aT (.eS .dE (.v 1) [(.X (.bb [(ud [(.O (.v 2) 1)]),(ud [(.O (.v 2) 3)]),(.O (.v 2) 4),(ud [(.O (.v 2) 5)])]))])],.cG (.ko 1)]
def CJ:bY:=cy aI 1 2 yR
def QS:cK:=[.cp 1 (.bh (ID [(.v 0)])),.ef (.aY .is (.v 1) (.C .a9)) [.jd] [],.cG (.ko 1)]
def CK:bY:=cy aI 1 1 QS
def QT:cK:=[.cp 2 (.bh (.ek ["end"] [] .dw [(.eA .split (.v 0) [(.C (.d [45]))])] ⟨aA,[0]⟩ i (ID [(.v 0)]))),.ef (.or (.aY .ps (.C .a9) (.v 2)) (.aY .hV (.dX .cn [(.v 2)]) (.y 2))) [.jd] [],.ef (.and (.aY .fH (.dX .cn [(.v 2)]) (.y 2)) (.aY .vL (.O (.v 2) 0) (.O (.v 2) 1))) [.jd] [],.ef (.or (.aY .iy (.O (.v 2) 0) (.y 1)) (.aY .hV (.aY .fq (.v 2) (.cM (.y 1))) (.v 1))) [.jd] [],.cG (.bh (.bb [(.O (.v 2) 0),(.aY .fq (.v 2) (.cM (.y 1)))]))]
def CL:bY:=cy aI 2 1 QT
def QU:cK:=[.cp 1 (.bh (.eA .split (.v 0) [(.C (.d [62]))])),.ef (.aY .ne (.dX .cn [(.v 1)]) (.y 2)) [.jd] [],.cp 2 (.bh (.b0 CL "read_span" [(.O (.v 1) 0),(.fI "CARD_WIDTH" (.c 40))])),.cp 3 (.bh (.b0 CL "read_span" [(.O (.v 1) 1),(.fI "BODY_WIDTH" (.c 36))])),.ef (.aY .ne (.aY .kT (.O (.v 2) 1) (.O (.v 2) 0)) (.aY .kT (.O (.v 3) 1) (.O (.v 3) 0))) [.jd] [],.cG (.bh (.ek ["step"] [("here",2),("there",3)] .bI [(.aY .dA (.aY .kT (.O (.v 2) 1) (.O (.v 2) 0)) (.y 1))] ⟨aA,[0]⟩ i (.bb [(.aY .dA (.O (.v 1) 0) (.v 0)),(.aY .dA (.O (.v 2) 0) (.v 0))])))]
def CM:bY:=cy aI 1 3 QU
def QV:cK:=[.ef (.aY .fH (.v 0) (.C (.d []))) [.cG (.bh (.aM []))] [],.cp 1 (.bh (.aM [])),.gQ .dw [(.eA .split (.v 0) [(.C (.d [44,32]))])] ⟨aA,[2]⟩ [.aT (.eS .l0 (.v 1) [(.X (.b0 CM "read_piece" [(.v 2)]))])],.cG (.bh (.b0 yK "make_board" [(.v 1)]))]
def ue:bY:=cy aI 1 2 QV
def QW:cK:=[.ef (.aY .fH (.v 0) (.C (.d [112,114,105,110,116]))) [.cG (.bh (.aM []))] [],.cp 1 (.bh (.sl (.v 0) (D (.dX .cn [(.C (.d [112,114,105,110,116,32]))])) i)),.ef (.aY .fH (.v 1) (.C (.d []))) [.jd] [],.cG (.bh (.b0 ue "read_board" [(.v 1)]))]
def IG:bY:=cy aI 1 1 QW
noncomputable def IH:cK:=[.ef (.aY .ne (.dh (.v 0) "waiting") (.aM [])) [.jd] []]
def yS:bY:=cy aI 1 0 IH
def CN:cK:=[.cp 1 (.aY .fq (.eL [("Clauses",lB)] (.v 0) "take_words" [(.X (.C (.d [116,97,107,101]))),(.X (.y 2))]) (.bh (.y 1))),.cp 2 (.b0 CH "read_picks" [(.s (.v 0))]),.cp 3 (.b0 CI "read_middle" [(.s (.v 0))]),.cp 4 (.kX (.b0 yQ "read_listed" [(.C (.d [111,114,100,101,114]))]) (.eL [("Clauses",qN)] (.v 0) "take" [(.X (.C (.d [111,114,100,101,114])))])),.cp 5 (.b0 CJ "read_works" [(.s (.v 0))]),.cp 6 (.kX (.b0 CK "read_number" []) (.aY .fq (.eL [("Clauses",lB)] (.v 0) "take_words" [(.X (.C (.d [98,114,101,97,107]))),(.X (.y 2))]) (.bh (.y 1)))),.cp 7 (.kX (.eA .rI [(.C (.d [32,105,110,32]))]) (.eL [("Clauses",qN)] (.v 0) "take" [(.X (.C (.d [115,117,109])))])),.cp 8 (.bh (.b0 yQ "read_listed" [(.O (.v 7) 0),(.C (.d [115,117,109]))])),.cp 9 (.bh (.b0 CK "read_number" [(.O (.v 7) 2)])),.cp 10 (.kX (.b0 IG "read_print" []) (.eL [("Clauses",qN)] (.v 0) "take" [(.X (.C (.d [112,114,105,110,116])))])),.aT (.bh (.eL [("Clauses",yS)] (.v 0) "check_end" [])),.cG (.bh (.jn yM "Asking" [(.v 1),(.v 2),(.v 3),(.v 4),(.v 5),(.v 6),(.v 8),(.v 9),(.v 10)]))]
def CO:bY:=cy aI 1 10 CN
noncomputable def CP:cK:=[.kY (.v 0) "waiting" (.eA .split (.v 1) [(.C (.d [59,32]))])]
def yT:bY:=cy aI 2 0 CP
def QX:cK:=[.pI [.cG (.b0 CO "asking_of" [(.X (.jn yT "Clauses" [(.v 0)]))])] []]
def II:bY:=cy aI 1 1 QX
noncomputable def QY:cK:=[.cG (.bh (.aM [(.dh (.v 0) "deck"),(.dh (.v 0) "picks"),(.dh (.v 0) "middle"),(.dh (.v 0) "order"),(.dh (.v 0) "works"),(.dh (.v 0) "breaks"),(.dh (.v 0) "sums"),(.dh (.v 0) "figures"),(.dh (.v 0) "board")]))]
def CQ:bY:=cy aI 1 0 QY
def QZ:cK:=[.cG (.bh (.aY .fH (.b0 CQ "parts_of" [(.v 0)]) (.b0 CQ "parts_of" [(.v 1)])))]
def IJ:bY:=cy aI 2 0 QZ
def IK:cK:=[.cp 1 (.bh (.b0 Cs "_law_parts" [(.v 0)])),.cp 2 (.bh (.b0 Ir "_law_made" [(.v 1)])),.cp 3 (.bh (.b0 CE "shown_asking" [(.v 2)])),.cp 4 (.bh (.eA .iJ (.C (.d [59,32])) [(.b0 Iz "_law_clauses" [(.v 1),(.b0 IA "_law_board" [(.O (.v 1) 8)])])])),.ef (.or (.not (.kn (.v 3) "str")) (.or (.aY .ne (.v 3) (.v 4)) (.aY .ne (.b0 CF "_law_told" [(.v 2)]) (.v 1)))) [.cG (.bh (.C (.aQ aA)))] [],.cp 5 (.bh (.b0 II "read_asking" [(.v 3)])),.cG (.bh (.and (.aY .fH (.b0 CF "_law_told" [(.v 5)]) (.v 1)) (.and (.b0 IJ "same_asking" [(.v 5),(.v 2)]) (.aY .fH (.b0 CE "shown_asking" [(.v 5)]) (.v 4)))))]
def Q0:bY:=cy aI 1 5 IK
local macro_rules|`(tactic|exists $ts,*)=>do
 let f (t:String)(g:Lean.Ident->Lean.MacroM (Lean.TSyntax `Lean.Parser.Tactic.simpLemma)):=(t.splitOn " ").toArray.mapM fun s=>g (Lean.mkIdent s.toName)
 let a<-f "aN.a_ aN.f7 qG k0 aiD PZ aiE aiB aiC Cf Cd aiz aiA nj.gd nj.w aiI aiK mL ado ahx ahy kq ahz pL adp adq ads ahA ahB ahC ahD ahE ah7 ah8 ah9 rZ ady adz HA yC adA ah_ Ca Cb Bool.and_true Mo.mr ahF ahG ahH adt ahI ahJ ahK ahL ahM nT hp t_ aiF qy List.foldl_cons List.foldl_nil aiw aix aiy H.eD H.nc H.BD h2 Cn adB aia aib aic aid aie adC adD aif aih aii aij aik ail aim ain aio aip aiq air ais ait aiu adE aiv adx ah2 ah3 ah4 ah5 ah6 PU ahN ahO adu ahP ahQ nU ahR B9 ahS ahT ahU ahV ahW ahX ahY ahZ ah0 Hy ah1 hU.w pv.w iZ.w BI eE List.map_cons List.map_nil List.length_cons List.length_nil List.set_cons_zero List.set_cons_succ List.replicate_succ List.replicate_zero List.cons_append List.nil_append adk PQ ahn aho HH Cj adI mM jf aiG aiH HJ P4 Cm aiJ P8 aiL aiM P6 jg l4 ahp ahq ahr ahs aht ahu ahv ahw PS adl Bool.not_true Bool.not_false if_true if_false Bool.false_eq_true Bool.true_eq_false Option.map_some Option.map_none Nat.reduceAdd Nat.reduceLT Nat.reduceLeDiff Int.reduceLT Int.reduceLE Int.reduceNeg Int.reduceAdd Int.reduceSub Nat.lt_add_one Nat.zero_lt_succ Nat.zero_add jb hT List.getElem?_cons_succ List.getElem?_cons_zero Option.join_some jt true_and Int.toNat_natCast adj" fun i=>`(Lean.Parser.Tactic.simpLemma|$i:term)
 let b<-f "mL ado ahx ahy kq ahz pL" fun i=>`(Lean.Parser.Tactic.simpLemma|↓$i:term)
 `(tactic|first |simp only[$[$a:simpLemma],*,$[$b:simpLemma],*,$[$ts:term],*]|skip)
set_option hygiene false in
local macro_rules | `(tactic|fail "q") => `(tactic|first |exact⟨_, _, rfl, .inl rfl⟩|exact⟨_, _, rfl, .inr ⟨rfl, rfl⟩⟩|exact⟨_, _, rfl, .inr ⟨rfl, trivial⟩⟩)
noncomputable abbrev cF:=Int×Int
abbrev fs:=List cF
def av (w:cF):aq:=.az .bb [.c w.1,.c w.2]
instance:k2 av:=⟨λ_=>rfl⟩
abbrev hI:=cF×bt
def cU (N:hI):aq:=.az .bb [av N.1,.d N.2]
instance:k2 cU:=⟨λ_=>rfl⟩
abbrev hJ:=cF×cF×bt×cF
abbrev qO:=List hJ
def cb (p:hJ):aq:=.az .bb [av p.1,av p.2.1,.d p.2.2.1,av p.2.2.2]
instance:k2 cb:=⟨λ_=>rfl⟩
theorem iN (w:cF):df (av w) (.c 0)=.f (.c w.1):=rfl
theorem h5 (w:cF):df (av w) (.c 1)=.f (.c w.2):=rfl
theorem IL (w:hI):df (cU w) (.c 0)=.f (av w.1):=rfl
theorem IM (w:hI):df (cU w) (.c 1)=.f (.d w.2):=rfl
theorem wd (w:hJ):df (cb w) (.c 0)=.f (av w.1):=rfl
theorem yU (w:hJ):df (cb w) (.c 1)=.f (av w.2.1):=rfl
theorem Q1 (w:hJ):df (cb w) (.c 2)=.f (.d w.2.2.1):=rfl
theorem yV (w:hJ):df (cb w) (.c 3)=.f (av w.2.2.2):=rfl
theorem eF (w:cF):(av w).bM=av w:=rfl
theorem CR (w:hI):(cU w).bM=cU w:=rfl
theorem qP (w:hJ):(cb w).bM=cb w:=rfl
theorem hq (w:cF):(av w).el=ag:=Cj w
noncomputable def lC:bt:=[102,105,114,115,116]
noncomputable def oD:bt:=[109,97,116,101,115]
noncomputable def oE:bt:=[119,105,116,104,111,117,116]
inductive k3 where
 |aU |hK (w:cF)|gv (p y:gi) (w g:cF)
def c9:k3->aq
 |.aU=>.a9|.hK w=>.az .bb [.d lC,av w]|.gv p y w g=>.az .bb [.d p,.d y,av w,av g]
structure eB where
 dP:bt
 c3:List hI
 cB:k3
 b5:fs
 c8:qO
 cP:Int
 cj:fs
 dC:Int
 b6:fs
def CS (r:eB):List aq:=[.d r.dP,ao cU r.c3,c9 r.cB,ao av r.b5,ao cb r.c8,.c r.cP,ao av r.cj,.c r.dC,ao av r.b6]
def eb (r:eB):aq:=.az (.dV "Asking" ["deck", "picks", "middle", "order", "works", "breaks", "sums", "figures", "board"]) (CS r)
section
variable (r:eB)
theorem IP:jT aI.dg "deck" (eb r)=.f (.d r.dP):=rfl
theorem r3:jT aI.dg "picks" (eb r)=.f (.aL (ao cU r.c3)):=rfl
theorem IQ:jT aI.dg "middle" (eb r)=.f (c9 r.cB):=by cases Y:r.cB<;>· show g4 _=_;rw[Y];rfl
theorem uf:jT aI.dg "order" (eb r)=.f (.aL (ao av r.b5)):=rfl
theorem ug:jT aI.dg "works" (eb r)=.f (.aL (ao cb r.c8)):=rfl
theorem CT:jT aI.dg "breaks" (eb r)=.f (.c r.cP):=rfl
theorem yW:jT aI.dg "sums" (eb r)=.f (.aL (ao av r.cj)):=rfl
theorem CU:jT aI.dg "figures" (eb r)=.f (.c r.dC):=rfl
theorem CV:jT aI.dg "board" (eb r)=.f (.aL (ao av r.b6)):=rfl
theorem IS:(eb r).bM=.aL (eb r):=rfl
theorem fV:(aq.aL (eb r)).bM=.aL (eb r):=rfl
end
def fw (w:cF):Prop:=1<=w.1/\w.1<=w.2/\w.2<=36
def ju:bt:=Co
def j5:bt:=yH
def nX (y:gi):Prop:=1<=y.length/\y.length<=8/\∀R∈y,R∈j5
def r4 (dj:p3)(N:hI):Prop:=fw N.1/\N.2=(gF N.1.1 (N.1.2+1-N.1.1).toNat).map dj
def oF (t:gi):k3->Prop
 |.aU=>True|.hK w=>fw w|.gv p y w g=>(p=oD\/p=oE)/\nX y/\y≠t/\fw w/\fw g/\w.2-w.1=g.2-g.1
def mN:HR:=[[112,108,117,115],[108,101,115,115],[116,105,109,101,115]]
def CW (p:hJ):Prop:=fw p.1/\fw p.2.1/\fw p.2.2.2/\p.2.2.1∈mN
def uh (S b:cF):Bool:=decide (S.2<b.1)||decide (b.2<S.1)
def jh:k3->fs
 |.aU=>[]|.hK w=>[w]|.gv _ _ w g=>[w,g]
def oh (C:Int)(V:Int×hJ):List cF:=(if V.1=C then[]else[V.2.1])++(if V.1<=C then[V.2.2.1,V.2.2.2.2]else[])
def mj (r:eB)(C:Int):List cF:=r.c3.map (·.1)++(jh r.cB).take 1++r.b5++(mx r.c8).flatMap (oh C)
structure il (r:eB):Prop where
 cV:nX r.dP
 g_:r.c3.length<=8
 c3:∃dj:Int->Nat,(∀R,dj R∈ju)/\∀N∈r.c3,r4 dj N
 cB:oF r.dP r.cB
 k4:r.b5.length<=6
 b5:∀w∈r.b5,fw w
 l5:r.c8.length<=4
 c8:∀p∈r.c8,CW p
 cP:0<=r.cP/\r.cP<=3/\r.cP<=r.b5.length
 sl:r.cj.length<=4
 cj:∀w∈r.cj,fw w
 dC:1<=r.dC/\r.dC<=12
 aQ:r.b6.length<=36
 b6:(∀p∈r.b6,1<=p.1/\p.1<=40/\1<=p.2/\p.2<=36)/\r.b6.Pairwise λS b=>S.2<b.2
 mZ:∀V∈mx r.c8,∀w∈mj r V.1,uh V.2.1 w=ag
theorem adY (S b:cF):Io.b4 [av S,av b]=.f (.aQ (uh S b)):=by
 refine dK rfl rfl λaD a=>?_
 unfold Qv
 exists iN,h5
 fail "q"
theorem IT (w:cF):Ib.b4 [av w]=.f (.c (w.2-w.1+1)):=rfl
theorem oG (p:gi):H4.b4 [.aQ ag,.d p]=.f .a9:=rfl
theorem adZ (O:Int):Ia.b4 [.c O]=.f (.aQ ag):=rfl
theorem Q2 {w:cF}(Y:fw w):Cw.b4 [.c w.1,.c w.2]=.f (.aQ ag):=by
 obtain⟨af,ai,bw⟩:=Y;refine dK rfl rfl λaD a=>?_
 unfold Ql
 exists BC,qv,decide_eq_true af,decide_eq_true ai,decide_eq_true bw
 fail "q"
theorem ad0 {w:cF}(Y:fw w):Ie.b4 [av w]=.f (ao .c (gF w.1 (w.2+1-w.1).toNat)):=by
 obtain⟨af,ai,bw⟩:=Y;refine dK rfl rfl λaD a=>?_
 unfold Qo;have e:Bw (.c w.1) (.c (w.2+1))=.f (ao .c (gF w.1 (w.2+1-w.1).toNat)):=by
  show Mo.ea _ _=_
  rw[Mo.mu (by lia),v3];rfl
 exists iN,h5,e
 fail "q"
theorem ad1 {r:eB}(Y:oF r.dP r.cB):Cu.b4 [.aL (eb r)]=.f (ao .d (match r.cB with |.gv _ y _ _=>[r.dP,y]|_=>[r.dP])):=by
 obtain⟨S,b,m,E⟩:=r;cases m with
 |gv p y w g=>rcases Y.1 with rfl |rfl<;>rfl |_=>rfl
theorem IU {r:eB}(Y:oF r.dP r.cB):H8.b4 [.aL (eb r)]=.f (ao av (jh r.cB)):=by
 obtain⟨S,b,m,E⟩:=r;cases m with
 |gv p y w g=>rcases Y.1 with rfl |rfl<;>rfl |_=>rfl
theorem ad2 {r:eB}(Y:oF r.dP r.cB):H6.b4 [.aL (eb r)]=.f .a9:=by
 obtain⟨S,b,m,E⟩:=r;cases m with
 |gv p y w g=>rcases Y.1 with rfl |rfl<;>rfl |_=>rfl
theorem ad3 {r:eB}(Y:il r):H5.b4 [.aL (eb r)]=.f .a9:=by
 have af:=Y.g_;have ai:=Y.k4;have bw:=Y.l5;have a:=Y.sl;refine dK rfl rfl λaD b=>?_
 unfold Qg
 exists fV,r3,uf,ug,yW,decide_eq_true (show(r.c3.length:Int)<=8 by lia),decide_eq_true (show(r.b5.length:Int)<=6 by lia),decide_eq_true (show(r.c8.length:Int)<=4 by lia),decide_eq_true (show(r.cj.length:Int)<=4 by lia),oG
 fail "q"
theorem ad4 {R:Nat}(Y:R∈j5):nK aA (.d [R]) (.d j5)=.f (.aQ ag):=by
 show g4 (aq.aQ (decide _))=_
 rw[decide_eq_true Y]
theorem ad5 {R:Nat}(Y:R∈ju):nK aA (.d [R]) (.d ju)=.f (.aQ ag):=by
 show g4 (aq.aQ (decide _))=_
 rw[decide_eq_true Y]
theorem Q3:∀(s:q7),tL (s.map .aQ)=D s
 |[]=>rfl|b::s=>by rw[eW,tL,Q3 s];rfl
theorem ad6 (s:q7):vJ [ao .aQ s]=.f (.aQ (s.all id)):=by
 show(match tL _ with |some c6=>g4 _ |none=>.aU)=_
 rw[Q3]
theorem Q4 (s:List aP)(Y:∀X∈s,N X=ag):vJ [ao .aQ (s.map N)]=.f (.aQ ag):=by
 rw[ad6,JI,nx.mpr];assumption
theorem yX {s:bt}(Y:s.length<=100000):m8 [.d s]=.f (.c s.length):=by
 show Mo.ei _ _=_
 rw[Mo.mr Y]
theorem ad7 {y:bt}(Y:nX y):H7.b4 [.d y]=.f (.aQ ag):=by
 obtain⟨af,ai,bw⟩:=Y;refine dK rfl rfl λaD b=>?_
 unfold Qi
 exists qv,yX (show y.length<=100000 by lia),decide_eq_true (show(1:Int)<=y.length by lia),decide_eq_true (show(y.length:Int)<=8 by lia)
 rw[iM   y rfl (rfl) (h2 _ _) (λR a=>by exact ad4 (bw R a)) (by lia)]
 exists Q4 y  (λ_ _=>rfl)
 fail "q"
theorem ad8 {y:bt}(a:y.length<=100000)(Y:∀R∈y,R∈ju):Cx.b4 [.d y]=.f (.aQ ag):=by
 refine dK rfl rfl λaD b=>?_
 unfold Qm
 exists b
 rw[iM   y rfl (rfl) (h2 _ _) (λR c=>by exact ad5 (Y R c)) a]
 exists Q4 y  (λ_ _=>rfl)
 fail "q"
theorem ad9 {r:eB}(Y:il r):Cv.b4 [.aL (eb r)]=.f .a9:=by
 have j:∀(c:HR) (R:Bool),Cu.b4 [.aL (eb r)]=.f (ao .d c)->(∀y∈c,nX y)->gq ag (.d (c.headD [])) (.d (c.getLastD []))=.f (.aQ R)->df (ao .d c) (.c 0)=.f (.d (c.headD []))->df (ao .d c) (.c (-1))=.f (.d (c.getLastD []))->(R ||decide ((c.length:Int)=1))=ag->Cv.b4 [.aL (eb r)]=.f .a9:=λc R e l m n af o=>by
  refine dK rfl rfl λaD f=>?_
  unfold Qj
  exists f,fV,e
  refine vZ (S:=[_,_]) (b:=[]) rfl (f _) (λy d=>?_) (λA=>?_)
  ·exists f,ad7 (l y d),oG
   exact⟨_,_,rfl,rfl,rfl⟩
  ·exists f,n,af,m,o,oG
   fail "q"
 have e:=ad1 Y.cB;have h:=Y.cB
 revert e h
 cases r.cB with
 |aU=>exact λe _=>j _ aA e (λy d=>by rw[fy.mp d];exact Y.cV) (by rw[l4];simp) rfl rfl rfl|hK=>exact λe _=>j _ aA e (λy d=>by rw[fy.mp d];exact Y.cV) (by rw[l4];simp) rfl rfl rfl|gv p y w g=>
  intro e h;refine j _ ag e (λX k=>?_) ?_ rfl rfl rfl
  ·rcases dn.mp k with rfl |k
   ·exact Y.cV
   ·rw[fy.mp k];exact h.2.1
  ·rw[l4]
   show g4 (aq.aQ (if ag=ag then !decide (r.dP=y)else _))=_
   rw[if_pos rfl,decide_eq_false (λG=>h.2.2.1 G.symm)];rfl
theorem Q5 {y:Nat}{w:aP->List dT}:∀(s:List aP),(∀X,(w X).length<=y)->(s.flatMap w).length<=y*s.length
 |[],_=>by simp
 |X::s,Y=>by rw[sh,dm,ew];have:=Q5 s Y;grind
theorem ad_ {r:eB}(Y:il r):H_.b4 [.aL (eb r)]=.f (ao av (r.c3.map (·.1)++jh r.cB++r.b5++r.cj++r.c8.flatMap λp=>[p.1,p.2.1,p.2.2.2])):=by
 have af:=Y.g_;have ai:=Y.k4;have bw:=Y.l5;have k:=Y.sl;have m:(jh r.cB).length<=2:=by unfold jh;split<;>simp
 refine dK rfl rfl λaD c=>?_
 unfold Qk
 exists c,fV
 rw[iM (w:=λN:hI=>N.1) (A:=av) r.c3 rfl (by exists fV,r3;rfl) (h2 _ _) (λR q=>rfl) (by lia)]
 exists c,fV,IU Y.cB,uf,yW,ug,r1 (g:=av) (S:=r.c3.map (·.1)) (b:=jh r.cB) (by rw[cE];lia),r1 (g:=av) (S:=r.c3.map (·.1)++jh r.cB) (b:=r.b5) (by rw[dm,cE];lia),r1 (g:=av) (S:=r.c3.map (·.1)++jh r.cB++r.b5) (b:=r.cj) (by rw[dm,dm,cE];lia)
 generalize h:r.c3.map (·.1)++jh r.cB++r.b5++r.cj=z
 have s:z.length<=20:=by rw[<- h];simp;lia
 refine pM (s:=r.c8) (enc:=λp=>[cb p]) (λt e=>∃A,e=[D (.aL (eb r)),D (ao av (z++t.flatMap λp=>[p.1,p.2.1,p.2.2.2])),A]) ⟨_,by rw[zp,l_]⟩ (λt X E e j d=>?_) (λe d=>?_)
 ·obtain⟨A,rfl⟩:=d
  refine⟨_,by exists c;rfl,?_⟩
  have e:tU [ao av (z++t.flatMap λp=>[p.1,p.2.1,p.2.2.2]),.az .aM [av X.1,av X.2.1,av X.2.2.2]]=.f .a9 [_,_]:=yD (b:=[X.1,X.2.1,X.2.2.2]) (by
   have:=Q5 (y:=3) (w:=λp:hJ=>[p.1,p.2.1,p.2.2.2]) t (λ_=>by simp)
   rw[j]at bw;rw[dm]at bw ⊢;simp only[ew,wD];lia)
  exists c,qP,wd,yU,yV,hq,e
  exact⟨_,_,rfl,.inl ⟨.inl rfl,D (cb X),by rw[pW];simp⟩⟩
 ·obtain⟨A,rfl⟩:=d
  exists c
  fail "q"
theorem aea {r:eB}(Y:il r)(b:∀R,dj R∈ju)(c:r4 dj N):Cx.b4 [.d N.2]=.f (.aQ ag)/\m8 [.d N.2]=.f (.c (N.1.2-N.1.1+1)):=by
 obtain⟨⟨d,f,g⟩,e⟩:=c;have h:N.2.length=(N.1.2+1-N.1.1).toNat:=by rw[e,cE,pf]
 refine⟨ad8 (by lia) (λR a=>?_),?_⟩
 ·rw[e]at a
  obtain⟨X,_,rfl⟩:=fk.mp a;exact b X
 rw[yX (by lia)];lia
def b7 (w:cF):List Int:=gF w.1 (w.2+1-w.1).toNat
def jz (dj:p3)(R:Int):aq:=.az .bb [.d [112,105,99,107],.c R,.d [dj R]]
def r5 (dj:p3)(a:eM):aq:=jF .d (a.map λR=>(R,[dj R]))
def r6 (m:eM)(R:Int):List Int:=if R∈m then m else m++[R]
def mO (s:eM):List Int:=s.foldl r6 []
section
variable {dj:p3}
instance:k2 (jz dj):=⟨λ_=>rfl⟩
theorem Q6 (R:Int):df (jz dj R) (.c 0)=.f (.d [112,105,99,107]):=rfl
theorem Q7 (R:Int):df (jz dj R) (.c 1)=.f (.c R):=rfl
theorem Q8 (R:Int):df (jz dj R) (.c 2)=.f (.d [dj R]):=rfl
theorem Q9 (R:Int):(jz dj R).bM=jz dj R:=rfl
theorem Q_ (a:eM)(R:Int):h3 (a.map λR=>(R,[dj R])) R=if R∈a then D [dj R]else i:=by
 induction a with
 |nil=>rfl|cons C a b=>
  rw[eW,h3];by_cases Y:C=R
  ·simp_all
  ·rw[if_neg Y,b]
   simp[oT Y]
theorem aeb (s:eM)(R:Int):mO (s++[R])=r6 (mO s) R:=by unfold mO;rw[Jv];rfl
theorem aec (m:eM)(R:Int):(r6 m R).length<=m.length+1:=by unfold r6;split<;>simp
theorem Ra:∀(s m:eM),(s.foldl r6 m).length<=m.length+s.length
 |[],m=>by simp
 |R::s,m=>by have:=Ra s (r6 m R);have:=aec m R;grind
theorem aed (s:eM):(mO s).length<=s.length:=by have:=Ra s [];rwa[wD,Nat.zero_add]at this
theorem IV {w:cF}(Y:fw w):(b7 w).length<=36:=by unfold b7;rw[pf];obtain⟨S,b,R⟩:=Y;lia
theorem CX {y:Nat}{w:aP->List dT}:∀(s:List aP),(∀X∈s,(w X).length<=y)->(s.flatMap w).length<=y*s.length
 |[],_=>by simp
 |X::s,Y=>by rw[sh,dm,ew,Nat.mul_add];have:=CX s λq a=>Y q (f5 _ a);have:=Y X eI;lia
theorem Rb (s:eM):rF [ao .c s,.d (s.map dj)]=.f (s.map λR=>.az .bb [.c R,.d [dj R]]):=by
 show g4 _=_
 rw[List.zip_map',gT];rfl
theorem aee {r:eB}(m:r.c3.length<=8)(k:∀N∈r.c3,r4 dj N):Ig.b4 [.aL (eb r)]=.f (ao (jz dj) (r.c3.flatMap λN=>b7 N.1)):=by
 refine dK rfl rfl λaD c=>?_
 unfold Qp
 exists c,fV,r3
 refine pM (s:=r.c3) (enc:=λp=>[cU p]) (λt e=>∃A,e=[D (.aL (eb r)),D (ao (jz dj) (t.flatMap λN=>b7 N.1)),A]) ⟨i,rfl⟩ (λt X E e d h=>?_) (λe h=>?_)
 ·obtain⟨A,rfl⟩:=h
  refine⟨_,by exists c;rfl,?_⟩
  have j:=k X (by rw[d];simp)
  have aR:X.2=(b7 X.1).map dj:=j.2;have s  := CX t λq n=>IV (k q (by rw[d];simp[n])).1
  have u:=IV j.1;rw[d,dm]at m
  exists c,CR
  rw[iM (w:=λR:Int=>R) (A:=jz dj)  (b7 X.1) rfl (by exists CR,IL,IM,eF,ad0 j.1,aR,Rb;exact Rb _) (Cn _ _ _) (λR v=>rfl) (by lia)]
  exists c,uC,yD (g:=jz dj) (S:=t.flatMap λN=>b7 N.1) (b:=b7 X.1) (by lia)
  exact⟨_,_,rfl,.inl ⟨.inl rfl,D (cU X),by rw[pW];simp⟩⟩
 ·obtain⟨A,rfl⟩:=h
  exists c
  fail "q"
theorem aef (a:eM)(j:a.length<=1000):Cy.b4 [.aL (ao (jz dj) a)]=.f (r5 dj (mO a)):=by
 refine dK rfl rfl λaD b=>?_
 unfold Qn
 exists b
 refine pM (s:=a) (enc:=λp=>[jz dj p]) (λt e=>∃A,e=[D (.aL (ao (jz dj) a)),D (r5 dj (mO t)),A]) ⟨i,rfl⟩ (λt X E e k d=>?_) (λe d=>?_)
 ·obtain⟨A,rfl⟩:=d
  refine⟨_,by exists b;rfl,?_⟩
  have m:=aed t;rw[k,dm]at j;rw[aeb];have f:gq ag (.d [dj X]) (.d [dj X])=.f (.aQ aA):=by rw[l4];simp
  have h:gq aA (.d [112,105,99,107]) (.d [112,105,99,107])=.f (.aQ ag):=by rw[l4];simp
  by_cases c:X∈mO t
  ·have ax:oy [r5 dj (mO t),.c X,.d [dj X]]=_:=adN (g:=.d) (v:=[dj X]) (p:=[dj X]) (by rw[Q_,if_pos c])
   rw[show r6 (mO t) X=mO t from if_pos c]
   have d4:kW "dict" (r5 dj (mO t))=ag:=rfl
   exists b,Q9,Q6,Q7,Q8,h,ax,d4,f
   exact⟨_,_,rfl,.inl ⟨.inl rfl,D (jz dj X),rfl⟩⟩
  ·have ax:oy [r5 dj (mO t),.c X,.d [dj X]]=_:=adM (g:=.d) (v:=[dj X]) (by rw[Q_,if_neg c]) (by rw[cE];lia)
   have d4:kW "dict" (r5 dj (mO t))=ag:=rfl
   exists b,Q9,Q6,Q7,Q8,h,ax,d4,f
   exact⟨_,_,rfl,.inl ⟨.inl rfl,D (jz dj X),by unfold r5 r6;rw[if_neg c,iQ];rfl⟩⟩
 ·obtain⟨A,rfl⟩:=d
  exists b
  fail "q"
end
theorem aeg {r:eB}(c:r.c3.length<=8)(a:∀N∈r.c3,r4 dj N):Cy.b4 [.aL (ao (jz dj) (r.c3.flatMap λN=>b7 N.1))]=.f (r5 dj (mO (r.c3.flatMap λN=>b7 N.1))):=
 aef _ (by have  := CX _ λq b=>IV (a q b).1;lia)
theorem aeh {r:eB}(Y:il r):Ih.b4 [.aL (eb r)]=.f .a9:=by
 obtain⟨dj,c,b⟩:=Y.c3;refine dK rfl rfl λaD d=>?_
 unfold Qq
 exists fV,r3
 refine vZ (S:=[_])  rfl (d _) (λN e=>?_) (λA=>?_)
 ·obtain⟨aR,aB⟩:=aea Y c (b N e)
  exists IL,IM,aR,aB,IT,decide_true,oG
  exact⟨_,_,rfl,rfl,rfl⟩
 ·exists fV,aee Y.g_ b,aeg Y.g_ b,oG
  fail "q"
theorem aei {r:eB}(Y:il r):Ii.b4 [.aL (eb r)]=.f .a9:=by
 have e:=IU Y.cB;have c:=Y.cB
 revert e c
 cases r.cB with
 |aU=>
  intro e _;refine dK rfl rfl λaD a=>?_
  unfold Cz;have b:qG (ao av [])=.f aA:=rfl
  exists a,fV,e,jh
  have:qG (.aL (ao av []))=.f aA:=rfl;exact⟨_,_,rfl,.inr ⟨rfl,by first |rfl |trivial⟩⟩
 |hK w=>
  intro e _;refine dK rfl rfl λaD a=>?_
  unfold Cz;have b:df (ao av [w]) (.c 0)=.f (av w):=rfl;have aR:df (ao av [w]) (.c (-1))=.f (av w):=rfl
  exists a,fV,e,jh,b,aR,eF,IT,jg,decide_true,oG
  exact⟨_,_,rfl,.inr ⟨rfl,by first |rfl |trivial⟩⟩
 |gv p y w g=>
  intro e c;refine dK rfl rfl λaD a=>?_
  unfold Cz;have b:df (ao av [w,g]) (.c 0)=.f (av w):=rfl;have aR:df (ao av [w,g]) (.c (-1))=.f (av g):=rfl
  exists a,fV,e,jh,b,aR,eF,IT,jg,decide_eq_true (show w.2-w.1+1=g.2-g.1+1 by have:=c.2.2.2.2.2;lia),oG
  exact⟨_,_,rfl,.inr ⟨rfl,by first |rfl |trivial⟩⟩
theorem CY (Y:1<=v/\v<=m):CA.b4 [.c v,.c m]=.f (.aQ ag):=by
 refine dK rfl rfl λaD a=>?_
 unfold Qr
 exists qv,decide_eq_true Y.1,decide_eq_true Y.2
 fail "q"
def h6 (aH:fs):List (Int×cF):=aH.map λp=>(p.2,p)
theorem Rc {O:Int}(Y:∀p∈aH,p.2≠O):h3 (h6 aH) O=i:=by
 induction aH with
 |nil=>rfl|cons p aH a=>unfold h6 at a ⊢;rw[eW,h3,if_neg (Y p eI)];exact a λX b=>Y X (f5 _ b)
theorem aej (a:aH.Pairwise λS b=>S.2<b.2){p:cF}(Y:p∈aH):h3 (h6 aH) p.2=D p:=by
 induction aH with
 |nil=>cases Y|cons X aH c=>
  rw[DC]at a;unfold h6 at c ⊢;rw[eW,h3];rcases dn.mp Y with rfl |Y
  ·rw[if_pos rfl]
  rw[if_neg (by have:=a.1 p Y;lia)];exact c a.2 Y
theorem aek (n:aH.length<=36)(af:∀p∈aH,1<=p.1/\p.1<=40/\1<=p.2/\p.2<=36)(ai:aH.Pairwise λS b=>S.2<b.2):yK.b4 [.aL (ao av aH)]=.f (ao av aH):=by
 refine dK rfl rfl λaD c=>?_
 unfold Ij
 exists c
 refine vZ (S:=[_]) (b:=[_]) rfl (c _) (λp hw=>?_) (λA=>?_)
 ·obtain⟨q,s,u,w⟩:=af p hw
  exists c,eF,iN,h5,CY ⟨q,s⟩,CY ⟨u,w⟩
  exact⟨_,_,rfl,rfl,rfl⟩
 ·exists c
  refine pM (s:=aH) (enc:=λp=>[av p]) (λt e=>∃A,e=[D (.aL (ao av aH)),A,D (jF av (h6 t))]) ⟨_,rfl⟩ (λt X E e j h=>?_) (λe h=>?_)
  ·obtain⟨A,rfl⟩:=h
   refine⟨_,by exists c;rfl,?_⟩
   have k:h3 (h6 t) X.2=i:=Rc λp hw=>by
    rw[j,List.pairwise_append]at ai;have:=ai.2.2 p hw X eI;lia
   rw[j,dm]at n
   exists c,eF,h5,k,JV
   rw[P0 (t:=av X) (S:=.c X.2) rfl (hq X) rfl rfl rfl (P9 (g:=av) (m:=h6 t) (O:=X.2) (v:=X) (by unfold h6;rw[cE];lia))]
   exists c
   refine⟨_,_,rfl,.inl ⟨.inl rfl,D (av X),?_⟩⟩;rw[(yF (g:=av) (h6 t)).1 k];unfold h6;rw[iQ];rfl
  ·obtain⟨A,rfl⟩:=h
   exists c
   have ax:rG ((h6 aH).map (·.1))=.f (.az .aM (aH.map λp=>.c p.2)):=by
    have x:(h6 aH).map (·.1)=aH.map (·.2):=by unfold h6;rw[gT];rfl
    unfold rG;rw[x,Mo.mu (by rw[cE];lia),<- AZ rx (aH:=aH.map (·.2)) (Kx _) ?_,gT]
    ·rfl
    ·rw[uA]
     exact ai.imp λ{S b} Y=>by show decide _=aA;exact decide_eq_false (by lia)
   rw[iM (w:=λp:cF=>p) (A:=av) (T:=λp=>[.c p.2]) (items:=aH.map λp=>.c p.2) aH rfl (by exists ax;rfl) (h2 _ _) (λR y=>?_) (by lia)]
   ·exists c,uC
    fail "q"
   ·show df (.aL (jF av (h6 aH))) (.c R.2)=_
    rw[PU,P8,aej ai y];rfl
theorem oH (y:Nat)(p:cF):gp (y+1) (av p) (av p)=D ag:=yG λt a=>by
 rcases dn.mp a with rfl |a
 ·rw[v7,decide_eq_true rfl]
 rw[fy.mp a,v7,decide_eq_true rfl]
theorem ael (a:aH.length<=36)(af:∀p∈aH,1<=p.1/\p.1<=40/\1<=p.2/\p.2<=36)(ai:aH.Pairwise λS b=>S.2<b.2):Ik.b4 [.aL (ao av aH)]=.f (.aQ ag):=by
 refine dK rfl rfl λaD c=>?_
 unfold Qs;have e:gq aA (ao av aH) (ao av aH)=.f (.aQ ag):=ub  (HQ  λt d=>by obtain⟨p,_,rfl⟩:=fk.mp d;exact oH 10 p)
 exists c,aek a af ai,e
 fail "q"
theorem aem {r:eB}(Y:il r):Il.b4 [.aL (eb r)]=.f .a9:=by
 obtain⟨lP,ki,a⟩:=Y.cP;obtain⟨b,c⟩:=Y.dC;refine dK rfl rfl λaD d=>?_
 unfold Qt
 exists fV,CT,uf,CU,CV,adZ,qv,decide_eq_true lP,decide_eq_true ki,decide_eq_true a,decide_eq_true b,decide_eq_true c,ael Y.aQ Y.b6.1 Y.b6.2,oG
 fail "q"
theorem Rd (s:qO):vF [ao cb s]=.f ((mx s).map λV=>.az .bb [.c V.1,cb V.2]):=by
 show g4 _=_
 unfold mx;rw[cE,List.zip_map_right,gT,gT,gT];rfl
theorem aen {r:eB}(Y:il r)(C:Int):Im.b4 [.aL (eb r),.c C]=.f (ao av (mj r C)):=by
 have af:=Y.g_;have ai:=Y.k4;have bw:=Y.l5;have u:((jh r.cB).take 1).length<=1:=by rw[l9];lia
 refine dK rfl rfl λaD c=>?_
 unfold Qu
 exists c,fV
 rw[iM (w:=λN:hI=>N.1) (A:=av) r.c3 rfl (by exists fV,r3;rfl) (h2 _ _) (λR v=>rfl) (by lia)]
 exists c,fV,IU Y.cB,uf,ug,AS (show(0:Int)<=1 by lia),show(1:Int).toNat=1 from rfl,r1 (g:=av) (S:=r.c3.map (·.1)) (b:=(jh r.cB).take 1) (by rw[cE];lia),r1 (g:=av) (S:=r.c3.map (·.1)++(jh r.cB).take 1) (b:=r.b5) (by rw[dm,cE];lia),Rd
 unfold mj
 generalize q:r.c3.map (·.1)++(jh r.cB).take 1++r.b5=z
 have w:z.length<=15:=by rw[<- q];simp;lia
 refine pM (s:=mx r.c8) (enc:=λV=>[.c V.1,cb V.2]) (λt e=>∃A b3,e=[D (.aL (eb r)),D (.c C),D (ao av (z++t.flatMap (oh C))),A,b3]) ⟨i,i,by rw[zp,l_]⟩ (λt X E e s j=>?_) (λe j=>?_)
 ·obtain⟨A,b3,rfl⟩:=j
  refine⟨_,by exists c;rfl,?_⟩
  have y:(t.flatMap (oh C)).length<=3*t.length:=CX t λV _=>by unfold oh;split<;>split<;>simp
  have B:t.length<=4:=by have:=Fj r.c8;rw[s,dm]at this;lia
  generalize k:z++t.flatMap (oh C)=m
  have F:m.length<=30:=by rw[<- k,dm];lia
  rw[pW,<- n1,k,sh,zp,l_];have n:qC [ao av m,av X.2.1]=_:=jE (g:=av) (s:=m) (X:=X.2.1) (by lia)
  have p:∀m:fs,m.length<=31->tU [ao av m,.az .aM [av X.2.2.1,av X.2.2.2.2]]=.f .a9 [ao av (m++[X.2.2.1,X.2.2.2.2]),_]:=λm G=>yD (b:=[X.2.2.1,X.2.2.2.2]) (by simp only[ew,wD];lia)
  unfold oh;by_cases h:X.1=C
  ·have d:X.1<=C:=by lia
   rw[if_pos h,if_pos d]
   exists c,qP,wd,yU,yV,eF,hq,jg,decide_eq_true h,decide_eq_true d,p m (by lia)
   exact⟨_,_,rfl,.inl ⟨.inl rfl,D (.c X.1),D (cb X.2),rfl⟩⟩
  ·rw[if_neg h]
   by_cases d:X.1<=C
   ·rw[if_pos d]
    exists c,qP,wd,yU,yV,eF,hq,jg,decide_eq_false h,decide_eq_true d,n,p (m++[X.2.1]) (by simp;lia)
    exact⟨_,_,rfl,.inl ⟨.inl rfl,D (.c X.1),D (cb X.2),by simp⟩⟩
   ·rw[if_neg d]
    exists c,qP,wd,yU,yV,eF,hq,jg,decide_eq_false h,decide_eq_false d,n
    exact⟨_,_,rfl,.inl ⟨.inl rfl,D (.c X.1),D (cb X.2),by simp⟩⟩
 ·obtain⟨A,b3,rfl⟩:=j
  exists c
  fail "q"
theorem aeo {p:bt}(Y:p∈mN):nK aA (.d p) (.az .iW (mN.map .d))=.f (.aQ ag):=by
 unfold mN at Y;simp only[dn,gJ,or_false]at Y;rcases Y with rfl |rfl |rfl<;>rfl
theorem aep {r:eB}(Y:il r):Ip.b4 [.aL (eb r)]=.f .a9:=by
 refine dK rfl rfl λaD c=>?_
 unfold Qw
 exists c,fV,ug,Rd
 refine pM (s:=mx r.c8) (enc:=λV=>[.c V.1,cb V.2]) (λt e=>∃S b A,e=[D (.aL (eb r)),S,b,A]) ⟨i,i,i,rfl⟩ (λt X E e h d=>?_) (λe d=>?_)
 ·obtain⟨k,dc,eK,rfl⟩:=d
  refine⟨_,by exists c;rfl,?_⟩
  have f:X∈mx r.c8:=by rw[h];simp
  have hw:X.2∈r.c8:=by obtain⟨O,_,_,aB⟩:=Yc f;exact qX aB
  have g:∀x,H.aW aI x (.hV "WORK_WORDS" mN)=.f (.az .iW (mN.map .d)):=λx=>PV _ _ (by decide)
  have aB:=aeo (Y.c8 X.2 hw).2.2.2;unfold mN at g aB;simp only[eW,sm]at aB
  exists c,qP,Q1,fV,aen Y,g,aB,oG
  refine vZ (S:=[_,_,_]) (b:=[]) rfl (c _) (λw j=>?_) (λA=>?_)
  ·exists c,qP,wd,eF,adY,Y.mZ X f w j,oG
   exact⟨_,_,rfl,rfl,rfl⟩
  ·exists c
   exact⟨_,_,rfl,.inl ⟨.inl rfl,_,_,_,rfl⟩⟩
 ·obtain⟨S,b,A,rfl⟩:=d
  exists c
  fail "q"
theorem aeq {r:eB}(Y:il r):Iq.b4 [.aL (eb r)]=.f .a9:=by
 refine dK rfl rfl λaD d=>?_
 unfold Qx
 exists d,fV,ad3 Y,ad2 Y.cB,ad9 Y,ad_ Y
 refine vZ (S:=[_]) (b:=[]) rfl (d _) (λw c=>?_) (λA=>?_)
 ·have f:fw w:=by
   obtain⟨dj,_,h⟩:=Y.c3;have e:=Y.cB;rcases hu.mp c with c |c
   ·rcases hu.mp c with c |c
    ·rcases hu.mp c with c |c
     ·rcases hu.mp c with c |c
      ·obtain⟨N,d,rfl⟩:=fk.mp c;exact(h N d).1
      ·revert e c
       cases r.cB with
       |aU=>intro _ c;cases c
       |hK g=>intro e c;rw[fy.mp c];exact e
       |gv p y w g=>
        intro e c;rcases dn.mp c with rfl |c
        ·exact e.2.2.2.1
        ·rw[fy.mp c];exact e.2.2.2.2.1
     ·exact Y.b5 w c
    ·exact Y.cj w c
   ·obtain⟨p,hw,c⟩:=DF.mp c
    obtain⟨S,b,R,_⟩:=Y.c8 p hw;simp only[dn,gJ,or_false]at c;rcases c with rfl |rfl |rfl
    ·exact S
    ·exact b
    ·exact R
  exists d,eF,iN,h5,Q2 f,oG
  exact⟨_,_,rfl,rfl,rfl⟩
 ·exists d,fV,aeh Y,aei Y,aem Y,aep Y
  fail "q"
theorem IW {g:aP->aq}[k2 g](s:List aP):H2.b4 [.aL (ao g s)]=.f (ao g s):=by
 refine dK rfl rfl λaD a=>?_
 unfold Qf;have e:m7 aA (ao g s) .a9=.f _:=rfl
 exists e
 fail "q"
theorem Rf (m:k3):(c9 m).e8=ag:=by cases m<;>rfl
theorem oI (m:k3):(c9 m).bM=c9 m:=by unfold aq.bM;rw[Rf];rfl
theorem yY (m:k3):(c9 m).el=ag:=HI _ (Rf m)
theorem aer {r:eB}(Y:il r):∃ab,yM [.az (.dV "Asking" []) [],.d r.dP,.aL (ao cU r.c3),c9 r.cB,.aL (ao av r.b5),.aL (ao cb r.c8),.c r.cP,.aL (ao av r.cj),.c r.dC,.aL (ao av r.b6)]=.f .a9 (eb r::ab):=by
 have b:(c9 r.cB).el=ag:=yY _;have c:∀aD:Nat->Bool,∃e,aN.a_ aI aD yL [D (.az (.dV "Asking" []) []),D (.d r.dP),D (.aL (ao cU r.c3)),D (c9 r.cB),D (.aL (ao av r.b5)),D (.aL (ao cb r.c8)),D (.c r.cP),D (.aL (ao av r.cj)),D (.c r.dC),D (.aL (ao av r.b6))]=.f .dx (D (eb r)::e):=λaD=>by
  unfold yL;rw[aN.a_,aN.f7,pN (t:=.d r.dP) rfl rfl rfl (by decide) (by decide) (by decide),mL]
  rw[aN.a_,aN.f7,pN (t:=ao cU r.c3) (by exists P4) jf rfl (by decide) (by decide) (by decide),mL]
  rw[aN.a_,aN.f7,pN (t:=c9 r.cB) (by exists(oI _)) b rfl (by decide) (by decide) (by decide),mL]
  rw[aN.a_,aN.f7,pN (t:=ao av r.b5) (by exists P4) jf rfl (by decide) (by decide) (by decide),mL]
  rw[aN.a_,aN.f7,pN (t:=ao cb r.c8) (by exists IW) jf rfl (by decide) (by decide) (by decide),mL]
  rw[aN.a_,aN.f7,pN (t:=.c r.cP) rfl rfl rfl (by decide) (by decide) (by decide),mL]
  rw[aN.a_,aN.f7,pN (t:=ao av r.cj) (by exists IW) jf rfl (by decide) (by decide) (by decide),mL]
  rw[aN.a_,aN.f7,pN (t:=.c r.dC) rfl rfl rfl (by decide) (by decide) (by decide),mL]
  rw[aN.a_,aN.f7,pN (t:=ao av r.b6) (by exists IW) jf rfl (by decide) (by decide) (by decide),mL]
  have a:∀s,fo (D (aq.az (.dV "Asking" _) (CS r))::s) 0=.f (.aL (eb r)):=λs=>rfl
  unfold CS at a
  exists a,fV,aeq Y
  exact⟨_,rfl⟩
 obtain⟨e,f⟩:=c (aj [.az (.dV "Asking" []) [],.d r.dP,.aL _,c9 r.cB,.aL _,.aL _,.c r.cP,.aL (ao av r.cj),.c r.dC,.aL (ao av r.b6)]);exact⟨_,P1 (ak:=aI) (y:=10) (m:=0) (body:=yL)  rfl f⟩
section
variable {aD:md}{e:VI.aZ}{o:fN->VI.aZ->Prop}
theorem Of (t:aq):t.bM.bM=t.bM:=by
 by_cases Y:t.e8=ag
 ·have:t.bM=t:=by unfold aq.bM;rw[if_pos Y]
  rw[this,this]
 ·cases t<;>first |rfl  |skip
  ·rename_i C ab
   have:(aq.az C ab).bM=.aL (.az C ab):=by unfold aq.bM;rw[if_neg Y]
   rw[this];exact Hz (by simpa using Y)
  ·rename_i t
   have e:(aq.aL t).e8=t.e8:=rfl;rw[e]at Y;have  := Hz (by simpa using Y)
   rw[this,this]
end
section
variable {x aR:VI.aZ}{V dq:jV}{N fh:ee}{R cS t S E eh qk:aq}{ab dJ:bO}{X C:H}{aG:pB}{y:Str}
theorem ht (a:fb (X.aW aI x) x X.eD=.f t x):eE aI x [.X X]=.f (nV [t]) x:=by
 show((mF aI x X).aC λt e=>(eE aI e []).aC λc b=>.f _ b)=_
 rw[nT,a];rfl
theorem yZ (a:fb (X.aW aI x) x X.eD=.f t x)(b:fb (q.aW aI x) x q.eD=.f S x):eE aI x [.X X,.X q]=.f (nV [t,S]) x:=by
 have e:=ht b;show((mF aI x X).aC λt e=>(eE aI e _).aC λd c=>.f _ c)=_
 rw[nT,a,kq,e];rfl
theorem Rg {a:aq->Bool}{F:jV->bY}(d:ee.aW aI x N=.f V)(c:en x V=D R)(f:a R=ag)(g:eE aI x aG=.f (nV ab) x)(h:F V (R::ab)=.f E (cS::dJ)):ni aI x N aG a (λV b e=>hk (F V) (.s V::b) e)=.f E (fe x V cS):=by
 unfold ni;rw[d];show(match en x V with |some R=>if a R=ag then(eE aI x aG).aC λb e=>hk _ _ e else .aU |none=>.aU)=_
 rw[c];show(if a R=ag then(eE aI x aG).aC λb e=>hk _ _ e else .aU)=_
 rw[if_pos f,g,kq];unfold hk;have aB:iL x (.s V::nV ab)=D (R::ab):=by
  show(en x V).bind _=_
  rw[c,HC];rfl
 rw[aB];show(if(pE V _ && pF _)=ag then(match F V _ with |.f E dJ=>b8.f E _ |.aT X dJ=>.aT X _ |.aU=>.aU)else _)=_
 rw[HD,HE,h];show b8.f E (fe _ V cS)=_
 rw[Ce]
theorem i3 {A:nj}(a:ee.aW aI x N=.f V)(b:en x V=D R)(c:kW A.gd R=ag)(d:eE aI x aG=.f (nV ab) x)(e:A.w (R::ab)=.f E (cS::dJ)):dp.aW aI (.eS A N aG) x=.f E (fe x V cS):=Rg  a b c d e
theorem ui {a:rD}{aO:Str}{b:c_}{j:bO}{w:Str×bY}(e:ee.aW aI x N=.f V)(d:en x V=D (.az (.dV aO b) j))(c:a.find? (λV=>V.1 == aO)=D w)(f:y∉b)(g:eE aI x aG=.f (nV ab) x)(h:w.2 (.az (.dV aO b) j::ab)=.f E (cS::dJ)):dp.aW aI (.eL a N y aG) x=.f E (fe x V cS):=by
 rw[dp.aW];unfold BS;rw[(show a.isEmpty=aA by cases a with |nil=>cases c |cons=>rfl)]
 refine Rg (dJ:=dJ)   e d ?_ g ?_
 ·unfold VI.BQ;simp only[c,decide_eq_false f];rfl
 unfold BR;simp only[d,c];exact h
theorem Rh {w:Str×bY}(b:q.aW aI x=.f t)(c:t.aK=.az (.dV aO ns) j)(a:γ.find? (λV=>V.1 == aO)=D w)(d:y∉ns)(f:H.gZ aI x aV=.f ab)(g:w.2.b4 (t.bM::ab.map .bM)=.f E):H.aW aI x (.eL γ q y aV)=.f E:=by
 have e:H.aW aI x (.eL γ q y aV)=(q.aW aI x).aC λt=>rE γ y t (H.gZ aI x aV):=by cases γ with |nil=>cases a |cons=>rfl
 rw[e,b,pL];unfold rE;rw[c];simp only[a,if_neg d,f];exact g
theorem aes (a:fb (X.aW aI x) x X.eD=.f t x)(b:ee.aW aI x N=.f V)(c:fb (C.aW aI x) x C.eD=.f S x)(d:en x V=D R)(e:nP [t,R,S]=.f E [eh,cS,qk]):rP aI N C X x=.f .dx (fe x V cS):=by
 unfold rP;have aR:eE aI x [.X X,.s N,.X C]=.f [.t t,.s V,.t S] x:=by
  unfold eE;rw[nT,a,kq];unfold eE;rw[b,ht c];rfl
 rw[aR,kq];unfold hk;have aB:iL x [.t t,.s V,.t S]=D [t,R,S]:=by
  show((en x V).bind λR=>D [R,S]).map _=_
  rw[d];rfl
 rw[aB];show qA (if _ then(match nP _ with |.f E dJ=>b8.f E _ |.aT X dJ=>_ |.aU=>_)else _)=_
 rw[e];rfl
theorem Ri (Y:aN.f7 aI aD z x=.f .dx aR):aN.a_ aI aD (z::c1) x=aN.a_ aI aD c1 aR:=by rw[aN.a_,Y,mL]
theorem ji (Y:dp.aW aI q x=.f t aR):aN.a_ aI aD (.aT q::c1) x=aN.a_ aI aD c1 aR:=by rw[aN.a_,aN.f7,Y,adt,mL]
end
abbrev hL:=HR
theorem IX {x:VI.aZ}(A:ou)(S:H):H.aW aI x (.m_ A S)=(S.aW aI x).aC λt=>(lu t).aC A.w:=B7
theorem h1 {x:VI.aZ}(A:kj)(S:H)(aG:hF):H.aW aI x (.eA A S aG)=(S.aW aI x).aC λt=>(lu t).aC λs=>(H.gZ aI x aG).aC λR=>A.w s R:=B7
theorem lD (s:gi)(ab:bO):kj.w .iJ s ab=km s ab:=rfl
theorem uj (s:gi)(ab:bO):kj.w .split s ab=oq s ab:=rfl
theorem CZ (R:Nat):∀aJ:hL,gO [R] aJ=oc R aJ
 |[]=>rfl|[N]=>rfl|N::V::E=>by show N++[R]++gO _ _=N++R::oc R _;rw[CZ R _];simp
theorem aet (R:Nat)(s:gi):ry [R] s=fc R s:=L4 _ R
theorem aeu {R:Nat}(d:zE (⟨#[R,32]⟩:Str)=1){X:Str}(c:∀C,X.cps.toList[C]?=D R->X.cps.toList[C+1]?=D 32):∀N∈Txt.split X ⟨#[R,32]⟩,R∉N.cps.toList:=by
 obtain⟨w,e,f⟩:=StrLaws.occ_tight X ⟨#[R,32]⟩ (show 0<2 by lia)
 have a:=MV c _ 0 w e f;unfold Txt.split;split
 ·rename_i Y
  intro N b;rw[fy.mp b];intro g;obtain⟨h,j⟩:=uz g;have:=(ia.mp (c h j)).1;rw[pY,decide_eq_true_eq,decide_eq_true_eq]at Y;rcases Y with Y |Y
  ·simp[ny]at Y this
   lia
  ·rw[d]at Y
   exact absurd Y (by unfold zE;split<;>(try split)<;>lia)
 ·split
  ·rename_i Y
   rw[j_]at Y;rw[Y]at a;intro N b;rw[fy.mp b];have:=a (sA X 0 X.length) (fy.mpr rfl);rwa[StrLaws.sub_whole]at this
  ·rw[StrLaws.partsBetween_eq]
   exact a
theorem aev {R:Nat}(b:zE (⟨#[R,32]⟩:Str)=1)(a:32≠R)(Y:aJ≠[])(w:∀N∈aJ,R∉N):ry [R,32] (gO [R,32] aJ)=aJ:=by
 have af:=FE ⟨#[R,32]⟩ (Txt.split ⟨(gO [R,32] aJ).toArray⟩ ⟨#[R,32]⟩);rw[(Kb _ _)]at af;have ai:=J5 ⟨(gO [R,32] aJ).toArray⟩ ⟨#[R,32]⟩;refine YZ   a (λG=>?_) Y (λV c=>?_) w af.symm
 ·have:=congrArg mb G
  unfold ry at this;rw[cE]at this;rw[this]at ai;simp at ai
 ·obtain⟨G,d,rfl⟩:=fk.mp c
  exact aeu b  (MX a w) G d
theorem C0 {n:bt}{R:Nat}(Y:n.length<=100000):oq n [.d [R]]=.f (ao .d (fc R n)):=by
 show Mo.ea _ _=_
 rw[Mo.mu ⟨Y,by simp⟩,v3,aet];rfl
theorem IY {R:Nat}(a:zE (⟨#[R,32]⟩:Str)=1)(b:32≠R)(c:aJ≠[])(w:∀N∈aJ,R∉N)(Y:(gO [R,32] aJ).length<=100000):oq (gO [R,32] aJ) [.d [R,32]]=.f (ao .d aJ):=by
 show Mo.ea _ _=_
 rw[Mo.mu ⟨Y,by simp⟩,v3,aev a b c w];rfl
theorem Rj:∀(s:hL),tJ (s.map aq.d)=D s
 |[]=>rfl|R::s=>by rw[eW];unfold tJ;rw[Rj s];rfl
theorem aew {a:bt}{aJ:hL}(b:a.length<=100)(c:aJ.length<=1000)(Y:∀N∈aJ,N.length<=1000):JoinOk ⟨a.toArray⟩ (pg aJ)=ag:=by
 have:=StrLaws.joinFits (sep:=⟨a.toArray⟩) (texts:=pg aJ)  (λG d=>by
  obtain⟨n,e,rfl⟩:=fk.mp d;exact Y n e) (by
  rw[(show(pg aJ).length=aJ.length by unfold pg;rw[cE])];show aJ.length*1000+aJ.length*a.toArray.size<=_
  rw[fa];have:=Nat.mul_le_mul c b;lia)
 unfold JoinOk;rw[this];rfl
theorem qQ {a:bt}{aJ:hL}(b:a.length<=100)(c:aJ.length<=1000)(Y:∀N∈aJ,N.length<=1000):km a [ao .d aJ]=.f (.d (gO a aJ)):=by
 show(Mo.fj _).aC _=_
 rw[Rj];show Mo.ea _ _=_
 rw[Mo.mu (aew b c Y),Y0]
theorem oJ (Y:S.length+b.length<=100000):iY (.d S) (.d b)=.f (.d (S++b)):=by
 show Mo.ei _ _=_;rw[Mo.mr Y]
def g5 (R:Nat)(n:gi):List Nat:=n.takeWhile (· != R)
theorem IZ {R:Nat}(Y:R∉S):g5 R (S++R::b)=S:=by
 unfold g5;rw[List.takeWhile_append_of_pos (λX a=>by simp;rintro rfl;exact Y a)]
 simp
theorem I0 {R:Nat}(Y:R∉S):g5 R S=S:=by
 unfold g5;induction S with
 |nil=>rfl|cons t S a=>
  rw[List.takeWhile_cons,if_pos (by simp;rintro rfl;exact Y eI),a λG=>Y (f5 _ G)]
theorem aex (n:gi)(R:Nat):(Txt.partition ⟨n.toArray⟩ ⟨#[R]⟩).1.cps.toList=g5 R n:=by
 have a:∀O,sG ⟨n.toArray⟩ ⟨#[R]⟩ (⟨n.toArray⟩:Str).length O↔n[O]?=D R:=λO=>zO ⟨n.toArray⟩ R O
 unfold Txt.partition;rcases StrLaws.occ_head ⟨n.toArray⟩ ⟨#[R]⟩ 1 (cZ 1)with⟨e,Y⟩|⟨O,E,e,af,ai⟩
 ·rw[e]
  exact(I0 λb=>by obtain⟨O,aE⟩:=uz b;exact Y O ((a O).mpr aE)).symm
 ·rw[e]
  have af:=(a O).mp af;obtain⟨g,aE⟩:=ia.mp af;have f:n=n.take O++R::n.drop (O+1):=by
   rw[<- aE,List.getElem_cons_drop,List.take_append_drop]
  show(sA ⟨n.toArray⟩ 0 O).cps.toList=_
  rw[zN];show(n.drop 0).take (O-0)=_
  conv=>rhs;rw[f]
  rw[IZ,oQ,DL];intro b;obtain⟨C,c⟩:=uz b;have d:C<O:=by
   have:=(ia.mp c).1;rw[l9]at this;lia
  rw[ze d]at c;exact ai C d ((a C).mpr c)
noncomputable def eo:bt:=[32,105,110,32]
theorem rI (c:∀R∈b,48<=R/\R<=57):Txt.rpartition ⟨(S++(eo++b)).toArray⟩ ⟨eo.toArray⟩=(⟨S.toArray⟩,⟨eo.toArray⟩,⟨b.toArray⟩):=by
 have d:∀O,sG ⟨(S++(eo++b)).toArray⟩ ⟨eo.toArray⟩ (⟨(S++(eo++b)).toArray⟩:Str).length O↔O+4<=(S++(eo++b)).length/\((S++(eo++b)).drop O).take 4=eo:=λO=>by
  unfold sG;rw[StrLaws.subAt_eq,beq_iff_eq];show O+eo.toArray.size<=(S++(eo++b)).toArray.size/\_↔_
  rw[fa,fa];exact Iff.rfl
 have f:sG ⟨(S++(eo++b)).toArray⟩ ⟨eo.toArray⟩ (⟨(S++(eo++b)).toArray⟩:Str).length S.length:=(d _).mpr ⟨by rw[dm,dm];show S.length+4<=S.length+(4+b.length);lia,by rw[DH];rfl⟩
 have k:∀C,S.length<C->¬sG ⟨(S++(eo++b)).toArray⟩ ⟨eo.toArray⟩ (⟨(S++(eo++b)).toArray⟩:Str).length C:=λC n Y=>by
  obtain⟨af,ai⟩:=(d C).mp Y;have g:∀h,h<4->(eo++b)[C-S.length+h]?=eo[h]?:=λh l=>by
   have e:=congrArg (λs:bt=>s[h]?) ai
   rw[ze l,Jt,pV (by lia),show C+h-S.length=C-S.length+h by lia]at e
   exact e
  have a:(eo++b)[C-S.length]?=D 32:=g 0 (by lia)
  have j:(eo++b)[C-S.length+1]?=D 105:=g 1 (by lia)
  rcases(show C-S.length=1\/C-S.length=2\/C-S.length=3\/∃m,C-S.length=m+4 from by
   rcases DM (C-S.length) 4 with G |G
   ·lia
   ·exact .inr (.inr (.inr ⟨_,(Nat.sub_add_cancel G).symm⟩)))with G |G |G |⟨m,G⟩<;>rw[G]at a j
  ·cases a
  ·cases a
  ·have:b[0]?=D 105:=j
   have:=c 105 (qX this);lia
  ·have:b[m]?=D 32:=a
   have:=c 32 (qX this);lia
 unfold Txt.rpartition;rcases StrLaws.last_spec ⟨(S++(eo++b)).toArray⟩ ⟨eo.toArray⟩with⟨e,Y⟩|⟨O,e,af,ai⟩
 ·exact absurd f (Y _)
 ·have:O=S.length:=by
   rcases Nat.lt_trichotomy O S.length with G |G |G
   ·exact absurd f (ai _ G)
   ·exact G
   ·exact absurd af (k _ G)
  subst this;rw[e];have bf:sA ⟨(S++(eo++b)).toArray⟩ 0 S.length=⟨S.toArray⟩:=by
   refine Str.ext' (zQ.mp ?_);rw[zN];show((S++(eo++b)).drop 0).take (S.length-0)=S
   rw[oQ,DL,List.take_left]
  have bo:sA ⟨(S++(eo++b)).toArray⟩ (S.length+(⟨eo.toArray⟩:Str).length) (⟨(S++(eo++b)).toArray⟩:Str).length=⟨b.toArray⟩:=by
   refine Str.ext' (zQ.mp ?_);rw[zN];show((S++(eo++b)).drop (S.length+4)).take ((S++(eo++b)).toArray.size-(S.length+4))=b
   rw[fa,<- JF,DH,dm,dm];show(b.take (S.length+(4+b.length)-(S.length+4)))=b
   rw[show S.length+(4+b.length)-(S.length+4)=b.length by lia,zm]
  show(sA _ 0 S.length,_,sA _ (S.length+_) _)=_
  rw[bf,bo]
def Rk (y:Nat):Bool:=decide ((cH (y:Int)).length<=2) && decide (cH (y:Int)≠[]) && (cH (y:Int)).all (λR=>decide (48<=R/\R<=57)) && decide ((y:Int).natAbs.log2<1920)
theorem aey:(fW 41).all Rk=ag:=by decide +kernel
theorem aez:(fW 41).map (λy:Nat=>yN.b4 [.d (cH y)])=(fW 41).map λy:Nat=>.f (.c y):=by kernel_rfl
theorem j6 {y:Int}(b:0<=y)(Y:y<=40):((cH y).length<=2/\cH y≠[]/\∀R∈cH y,48<=R/\R<=57)/\Gg [.c y]=.f (.d (cH y))/\yN.b4 [.d (cH y)]=.f (.c y):=by
 obtain⟨m,rfl⟩:∃m:Nat,y=m:=⟨y.toNat,by lia⟩
 have a:m<41:=by lia
 have S:=nx.mp aey m (ma.mpr a);unfold Rk at S;simp only[cJ,decide_eq_true_eq,nx]at S;refine⟨⟨S.1.1.1,S.1.1.2,S.1.2⟩,?_,?_⟩
 ·show Mo.ea _ _=_
  rw[Mo.mu S.2]
 ·have e:=congrArg (λs=>s[m]?) aez
  simp only[gS,DB a,JX]at e;exact kb e
def bH (w:cF):List Nat:=if w.1=w.2 then cH w.1 else cH w.1++45::cH w.2
def nY (m:Int)(w:cF):Prop:=1<=w.1/\w.1<=w.2/\w.2<=m
theorem y0 {y:Int}(a:0<=y)(Y:y<=40){R:Nat}(b:R<48\/57<R):R∉cH y:=λG=>by have:=(j6 a Y).1.2.2 R G;lia
theorem aeA {w:cF}(Y:nY 40 w):fc 45 (bH w)=if w.1=w.2 then[cH w.1]else[cH w.1,cH w.2]:=by
 obtain⟨af,ai,bw⟩:=Y;unfold bH;split
 ·exact ve 45 _ (y0 (by lia) (by lia) (by lia))
 rw[xp 45 _ _ (y0 (by lia) (by lia) (by lia)),ve 45 _ (y0 (by lia) (by lia) (by lia))]
theorem fJ {w:cF}(Y:nY 40 w):(bH w).length<=5/\bH w≠[]:=by
 obtain⟨af,ai,bw⟩:=Y;have S:=(j6 (y:=w.1) (by lia) (by lia)).1
 have b:=(j6 (y:=w.2) (by lia) (by lia)).1
 unfold bH;split
 ·exact⟨by lia,S.2.1⟩
 exact⟨by rw[dm,ew];lia,by simp⟩
theorem aeB {w:cF}(Y:nY 40 w){R:Nat}(a:R∈bH w):R=45\/48<=R/\R<=57:=by
 obtain⟨af,ai,bw⟩:=Y;have S:=(j6 (y:=w.1) (by lia) (by lia)).1.2.2
 unfold bH at a;split at a
 ·exact .inr (S R a)
 ·rcases hu.mp a with a |a
  ·exact .inr (S R a)
  ·rcases dn.mp a with rfl |a
   ·exact .inl rfl
   exact .inr ((j6  (by lia) (by lia)).1.2.2 R a)
theorem eu {w:cF}(Y:fw w):nY 40 w:=⟨Y.1,Y.2.1,by have:=Y.2.2;lia⟩
def oK (w:cF):List Int:=if w.1=w.2 then[w.1]else[w.1,w.2]
theorem Rl {w:cF}{O:Nat}{j:hF}(Y:nY 40 w)(b:fo x O=.f (.d (bH w)))(b2:Str):H.aW aI x (.ek [b2] [] .dw [.eA .split (.v O) [.C (.d [45])]] ⟨aA,[0]⟩ i (.b0 yN "read_whole" [.v 0]))=.f (ao .c (oK w)):=by
 have d:=(fJ Y).1;have c:(H.gZ aI x [.eA .split (.v O) [.C (.d [45])]]).aC iZ.dw.w=.f ((if w.1=w.2 then[w.1]else[w.1,w.2]).map λy=>aq.d (cH y)):=by
  exists h1,b,uj,C0 (show(bH w).length<=100000 by lia),aeA Y
  split<;>rfl
 rw[iM (w:=λy:Int=>y) (A:=.c)  _ rfl c (by rw[h2]) (λy a=>?_) (by split<;>simp),uC]
 ·rfl
 ·obtain⟨af,ai,bw⟩:=Y
  have:0<=y/\y<=40:=by
   split at a
   ·rw[fy.mp a];lia
   ·rcases dn.mp a with rfl |a
    ·lia
    ·rw[fy.mp a];lia
  exact(j6 this.1 this.2).2.2
theorem C1 (w:cF):dW (oK w) 0=D w.1:=by unfold oK;split<;>rfl
theorem C2 (w:cF):dW (oK w) (-1)=D w.2:=by
 unfold oK;split
 ·rename_i Y;rw[<- Y];rfl
 rfl
theorem Rm:¬(1:Int)=2:=by lia
theorem Rn {w:cF}(Y:fw w):IE.b4 [.c w.1,.c w.2]=.f (av w):=by
 refine dK rfl rfl λaD a=>?_
 unfold QN
 exists Q2 Y
 fail "q"
theorem C3 (w:cF):m8 [ao .c (oK w)]=.f (.c (if w.1=w.2 then 1 else 2)):=by unfold oK;split<;>rfl
theorem qR {w:cF}(Y:fw w):wc.b4 [.d (bH w)]=.f (av w):=by
 refine dK rfl rfl λaD a=>?_
 unfold QO;rw[eZ (Rl (j:=[]) (eu Y) rfl _ |> λe=>by rw[k0,e];exact hp _ jf) (a _)]
 by_cases R:w.1=w.2
 ·have s:=C3 w
  rw[if_pos R]at s
  exists a,s,C1,C2,jg,decide_false,Rm,zu,Rn Y
  fail "q"
 ·have s:=C3 w
  rw[if_neg R]at s;have aR:dW (oK w) 1=D w.2:=by unfold oK;rw[if_neg R];rfl
  exists a,s,C1,C2,aR,jg,decide_true,decide_false,decide_eq_false R,DJ,zu,Rn Y
  fail "q"
theorem Ro (s:eM):nK aA .a9 (ao .c s)=.f (.aQ aA):=by
 have e:∀s:eM,mX .a9 (s.map .c)=aA:=λs=>by
  induction s with
  |nil=>rfl|cons S s a=>assumption
 show(Mo.fj _).aC _=_
 rw[HK];show g4 (aq.aQ (if aA=ag then !mX _ _ else mX _ _))=_
 rw[e];rfl
theorem Rp {w:cF}(Y:nY m w)(f:m<=40):CL.b4 [.d (bH w),.c m]=.f (av w):=by
 obtain⟨af,ai,bw⟩:=id Y;refine dK rfl rfl λaD a=>?_
 unfold QT;rw[eZ (Rl (j:=[]) ⟨af,ai,by lia⟩ rfl _ |> λe=>by rw[k0,e];exact hp _ jf) (a _)]
 have b:¬w.1<1:=by lia
 have c:¬m<w.2:=by lia
 by_cases R:w.1=w.2
 ·have s:=C3 w
  rw[if_pos R]at s
  exists a,s,C1,C2,jg,Ro,decide_false,zu,DJ,uD,Rm,decide_eq_false b,decide_eq_false c
  fail "q"
 ·have s:=C3 w
  rw[if_neg R]at s;have aR:dW (oK w) 1=D w.2:=by unfold oK;rw[if_neg R];rfl
  have d:¬w.2<=w.1:=by lia
  exists a,s,C1,C2,aR,jg,decide_true,Ro,decide_false,zu,DJ,uD,decide_eq_false b,decide_eq_false c,decide_eq_false d
  fail "q"
theorem r7 {w:cF}(Y:nY 40 w):wb.b4 [av w]=.f (.d (bH w)):=by
 obtain⟨af,ai,bw⟩:=id Y;have S:=j6 (y:=w.1) (by lia) (by lia)
 have b:=j6 (y:=w.2) (by lia) (by lia)
 have aR:iY (.d (cH w.1)) (.d [45])=.f _:=oJ (by have:=S.1.1;simp;lia)
 have aB:iY (.d (cH w.1++[45])) (.d (cH w.2))=.f _:=oJ (by have:=S.1.1;have:=b.1.1;simp;lia)
 refine dK rfl rfl λaD a=>?_
 unfold QJ;by_cases R:w.1=w.2
 ·exists a,iN,h5,jg,decide_eq_true R,S.2.1,show bH w=cH w.1 from if_pos R
  fail "q"
 ·exists a,iN,h5,jg,decide_eq_false R,S.2.1,b.2.1,aR,aB,show bH w=cH w.1++[45]++cH w.2 from(if_neg R).trans (by simp)
  fail "q"
abbrev gj:=cF×Nat
abbrev kr:=List gj
def we (E:gj)(O:Nat):cF:=(E.1.1+O,E.1.2+O)
def fx (E:gj):List cF:=(fW (E.2+1)).map (we E)
def ku (E:gj):cF:=(E.1.1,E.1.1+E.2)
def k5 (E:gj):cF:=(E.1.2,E.1.2+E.2)
def h7 (E:gj):List Nat:=bH (ku E)++62::bH (k5 E)
def l6 (E:gj):Prop:=1<=E.1.1/\E.1.1+E.2<=40/\1<=E.1.2/\E.1.2+E.2<=36
theorem l6.Y {E:gj}(A:l6 E):nY 40 (ku E):=⟨A.1,by show E.1.1<=E.1.1+E.2;lia,A.2.1⟩
theorem l6.n {E:gj}(A:l6 E):nY 36 (k5 E):=⟨A.2.2.1,by show E.1.2<=E.1.2+E.2;lia,A.2.2.2⟩
theorem l6.uk {E:gj}(A:l6 E):nY 40 (k5 E):=⟨A.n.1,A.n.2.1,by have:=A.n.2.2;lia⟩
theorem nt {w:cF}(Y:nY 40 w){R:Nat}(af:R≠45)(ai:R<48\/57<R):R∉bH w:=λG=>by have:=aeB Y G;lia
theorem C4 {E:gj}(A:l6 E):(h7 E).length<=11:=by
 unfold h7;have:=(fJ A.Y).1;have:=(fJ A.uk).1;grind
theorem Rq {E:gj}(A:l6 E){R:Nat}(af:R≠45)(ai:R<48\/57<R)(bw:R≠62):R∉h7 E:=λG=>by
 rcases hu.mp G with G |G
 ·exact nt A.Y af ai G
 ·rcases dn.mp G with G |G
  ·exact bw G
  exact nt A.uk af ai G
theorem aeC {E:gj}(A:l6 E):CM.b4 [.d (h7 E)]=.f (ao av (fx E)):=by
 have d:fc 62 (h7 E)=[bH (ku E),bH (k5 E)]:=by
  unfold h7;rw[xp 62 _ _ (nt A.Y (by lia) (by lia)),ve 62 _ (nt A.uk (by lia) (by lia))]
 have bf:oq (h7 E) [.d [62]]=.f (ao .d [bH (ku E),bH (k5 E)]):=by rw[C0 (by have:=C4 A;lia),d]
 have e:dW [bH (ku E),bH (k5 E)] 0=D (bH (ku E)):=rfl;have h:dW [bH (ku E),bH (k5 E)] 1=D (bH (k5 E)):=rfl;have j:m8 [ao .d [bH (ku E),bH (k5 E)]]=.f (.c 2):=rfl;have a:(ku E).2-(ku E).1=E.2:=by show E.1.1+(E.2:Int)-E.1.1=E.2;lia
 have k:(k5 E).2-(k5 E).1=E.2:=by show E.1.2+(E.2:Int)-E.1.2=E.2;lia
 refine dK rfl rfl λaD c=>?_
 unfold QU
 exists c,h1,uj,bf,j,jg,decide_true,e,h,Rp A.Y (wR 40),Rp A.n (show(36:Int)<=40 by lia),eF,hq,iN,h5,a,k
 have n:=A.2.1;have af:=A.1;have l:tH [.c ((E.2:Int)+1)]=.f ((fW (E.2+1)).map λO:Nat=>aq.c (O:Int)):=by
  unfold tH;dsimp only;rw[VI.PS,pL,Mo.mu ⟨by lia,by lia⟩]
  unfold gF;simp_all
 rw[iM (w:=λO:Nat=>we E O) (A:=av) (T:=λO:Nat=>[.c (O:Int)]) (items:=(fW (E.2+1)).map λO:Nat=>aq.c (O:Int)) (fW (E.2+1)) rfl (by
  have m:∀(S b:aq) (w g:cF),H.gZ aI [D S,D b,D (av w),D (av g)] [.aY .dA (.aY .kT (.O (.v 2) 1) (.O (.v 2) 0)) (.y 1)]=.f [.c (w.2-w.1+1)]:=λS b w g=>by exists iN,h5
  rw[m,a,pL];exact l) (by rw[h2]) (λO aE=>by exists iN,eF;rfl) (by rw[qY];lia)]
 exists c
 fail "q"
structure pQ (a:fs):Prop where
 s:a.length<=36
 E:∀p∈a,1<=p.1/\p.1<=40/\1<=p.2/\p.2<=36
 z:a.Pairwise λS b=>S.2<b.2
theorem aeD (a:(aH.map (·.2)).Nodup){p:cF}(Y:p∈aH):h3 (h6 aH) p.2=D p:=by
 induction aH with
 |nil=>cases Y|cons X aH b=>
  rw[eW,q2]at a;unfold h6 at b ⊢;rw[eW,h3];rcases dn.mp Y with rfl |Y
  ·rw[if_pos rfl]
  rw[if_neg (λe=>a.1 (by rw[show X.2=p.2 from e];exact Jq Y))];exact b a.2 Y
theorem aeE (A:pQ b6)(h:aH.Perm b6):yK.b4 [.aL (ao av aH)]=.f (ao av b6):=by
 have s:=A.s;have ai:=A.z;have u:aH.length<=36:=by rw[h.length_eq];exact s
 have j:(aH.map (·.2)).Nodup:=(h.map _).nodup_iff.mpr (uA.mpr (ai.imp λ{S b} Y e=>by lia))
 refine dK rfl rfl λaD c=>?_
 unfold Ij
 exists c
 refine vZ (S:=[_]) (b:=[_]) rfl (c _) (λp hw=>?_) (λA=>?_)
 ·obtain⟨w,x,y,z⟩:=A.E p (h.mem_iff.mp hw)
  exists c,eF,iN,h5,CY ⟨w,x⟩,CY ⟨y,z⟩
  exact⟨_,_,rfl,rfl,rfl⟩
 ·exists c
  refine pM (s:=aH) (enc:=λp=>[av p]) (λt e=>∃A,e=[D (.aL (ao av aH)),A,D (jF av (h6 t))]) ⟨_,rfl⟩ (λt X E e n k=>?_) (λe k=>?_)
  ·obtain⟨A,rfl⟩:=k
   refine⟨_,by exists c;rfl,?_⟩
   have q:h3 (h6 t) X.2=i:=Rc λp hw e=>by
    rw[n,iQ,eW,zk]at j;exact j.2.2 p.2 (Jq hw) X.2 eI e
   rw[n,dm]at u
   exists c,eF,h5,q,JV
   rw[P0 (t:=av X) (S:=.c X.2) rfl (hq X) rfl rfl rfl (P9 (g:=av) (m:=h6 t) (O:=X.2) (v:=X) (by unfold h6;rw[cE];lia))]
   exists c
   refine⟨_,_,rfl,.inl ⟨.inl rfl,D (av X),?_⟩⟩;rw[(yF (g:=av) (h6 t)).1 q];unfold h6;rw[iQ];rfl
  ·obtain⟨A,rfl⟩:=k
   exists c
   have ax:rG ((h6 aH).map (·.1))=.f (.az .aM (b6.map λp=>.c p.2)):=by
    have B:(h6 aH).map (·.1)=aH.map (·.2):=by unfold h6;rw[gT];rfl
    unfold rG;rw[B,Mo.mu (by rw[cE];lia),<- AZ rx (aH:=b6.map (·.2)) (h.symm.map _) ?_,gT]
    ·rfl
    ·rw[uA]
     exact ai.imp λ{S b} Y=>by show decide _=aA;exact decide_eq_false (by lia)
   rw[iM (w:=λp:cF=>p) (A:=av) (T:=λp=>[.c p.2]) (items:=b6.map λp=>.c p.2) b6 rfl (by exists ax;rfl) (h2 _ _) (λR C=>?_) (by lia)]
   ·exists c,uC
    fail "q"
   ·show df (.aL (jF av (h6 aH))) (.c R.2)=_
    rw[PU,P8,aeD j (h.mem_iff.mpr C)];rfl
def ip (aJ:kr):List Nat:=gO [44,32] (aJ.map h7)
theorem wg (a:gi):∀(aJ:hL),(∀N∈aJ,N.length<=B)->(gO a aJ).length<=aJ.length*(B+a.length)
 |[],_=>mc _|[N],Y=>by
  have:=Y N eI;show N.length<=1*_
  lia
 |N::V::E,Y=>by
  have c:=wg a _ λG b=>Y G (f5 _ b)
  have:=Y N eI;show(N++a++gO a _).length<=_
  rw[dm,dm,ew,Nat.add_mul,Nat.one_mul];lia
theorem Rr (Y:∀E∈aJ,l6 E):(ip aJ).length<=aJ.length*13:=by
 have:=wg [44,32]  _ λn a=>by obtain⟨E,b,rfl⟩:=fk.mp a;exact C4 (Y E b)
 rwa[cE]at this
theorem Rt:∀{aJ:hL},aJ≠[]->(∀N∈aJ,N≠[])->gO sep aJ≠[]
 |[],Y,_=>absurd rfl Y|[N],_,Y=>Y N eI|N::V::E,_,Y=>by show N++sep++_≠[];simp[Y N eI]
theorem aeF {E:gj}:h7 E≠[]:=by unfold h7;simp
theorem Ru (a:aJ≠[]):ip aJ≠[]:=Rt (by simpa using a) λn b=>by obtain⟨E,_,rfl⟩:=fk.mp b;exact aeF
def hR (E:gj):aq:=.d (h7 E)
instance:k2 hR:=⟨λ_=>rfl⟩
theorem aeG (d:aJ≠[])(Y:∀E∈aJ,l6 E)(A:pQ b6)(f:(aJ.flatMap fx).Perm b6):ue.b4 [.d (ip aJ)]=.f (ao av b6):=by
 have m:=A.s;have j:(aJ.flatMap fx).length<=36:=by rw[f.length_eq];exact m
 have x:aJ.length<=(aJ.flatMap fx).length:=by
  clear j f d;induction aJ with
  |nil=>exact cZ _|cons E aJ o=>
   have:=o λG p=>Y G (f5 _ p)
   rw[sh,dm,ew];unfold fx at *;rw[cE,qY];lia
 have y:=Rr Y;have bo:oq (ip aJ) [.d [44,32]]=.f (ao hR aJ):=(show ao hR aJ=ao .d (aJ.map h7) by unfold ao hR;rw[gT];rfl) ▸ IY (by decide +kernel) (by lia) (by simpa using d) (λn q=>by obtain⟨E,s,rfl⟩:=fk.mp q;exact Rq (Y E s) (by lia) (by lia) (by lia)) (by show(ip aJ).length<=_;lia)
 have u:gq aA (.d (ip aJ)) (.d [])=.f (.aQ aA):=by rw[l4];simp[Ru d]
 refine dK rfl rfl λaD c=>?_
 unfold QV
 exists c,u,h1,uj,bo
 refine pM (s:=aJ) (enc:=λE=>[hR E]) (λt e=>∃A,e=[D (.d (ip aJ)),D (ao av (t.flatMap fx)),A]) ⟨_,rfl⟩ (λt X E e k h=>?_) (λe h=>?_)
 ·obtain⟨A,rfl⟩:=h
  refine⟨_,by exists c;rfl,?_⟩
  have v:l6 X:=Y X (by rw[k];simp)
  have z:(t.flatMap fx).length+(fx X).length<=36:=by
   rw[k,pW,sh,dm,dm]at j;lia
  have w:CM.b4 [hR X]=.f (ao av (fx X)):=aeC v
  exists c,w,yD (g:=av) (S:=t.flatMap fx) (b:=fx X) (by lia)
  exact⟨_,_,rfl,.inl ⟨.inl rfl,D (hR X),by rw[pW,sh,zp,l_]⟩⟩
 ·obtain⟨b3,rfl⟩:=h
  exists c,aeE A f
  fail "q"
def cI (p:hL):aq:=.az (.dV "Clauses" ["waiting"]) [ao .d p]
theorem Rv (p:hL):(aq.aL (cI p)).bM=.aL (cI p):=rfl
theorem Rw (p:hL):jT aI.dg "waiting" (cI p)=.f (.aL (ao .d p)):=rfl
def Rx (R:gi):aq:=.az .bb ((Gv (Txt.partition ⟨R.toArray⟩ ⟨[32].toArray⟩)).map .bM)
theorem aeH {R:bt}(Y:R.length<=100000):kj.w .vN R [.d [32]]=.f (Rx R):=by
 show Mo.ea _ _=_
 rw[Mo.mu ⟨by simp,Y⟩];rfl
theorem aeI (R:gi):df (Rx R) (.c 0)=.f (.d (g5 32 R)):=by
 show g4 (aq.d _)=_
 rw[aex]
theorem wh {y m:Nat} {e:VI.aZ}(a:ab.length=y)(Y:aN.a_ aI (aj ab) body (ab.map D++gy m i)=.f (.eT t) e):cy aI y m body ab=.f t (mG ab e):=by
 unfold cy;rw[if_pos a,Y]
theorem aeJ {R:bt}{p:hL}{X:bt}(Y:R.length<=100000):pP.b4 [.aL (cI (R::p)),.d X]=.f (.aQ (decide (g5 32 R=X))):=by
 refine dK rfl rfl λaD a=>?_
 unfold IB
 exists Rv,Rw,(show dW (R::p) 0=D R from B8 (wR 0) rfl),h1,aeH Y,aeI
 fail "q"
section
variable {x:VI.aZ}{R X:bt}{p:hL}
theorem um {O:Nat}(a:fo x O=.f (.aL (cI (R::p))))(b:q.aW aI x=.f (.d X))(Y:R.length<=100000):H.aW aI x (.eL [("Clauses",pP)] (.v O) "is_next" [q])=.f (.aQ (decide (g5 32 R=X))):=
 Rh      (ab:=[.d X]) a rfl rfl (by decide) (by exists b) (aeJ Y)
theorem aeK (R:gi)(Y:hL):BM [ao .d (R::Y),.c 0]=.f (.d R) [ao .d Y,.c 0]:=by
 show(if -(2 ^ 63)<=0/\(0:Int)<2 ^ 63 then(match ic _ 0 with |some h=>(match((R::Y).map aq.d)[h]? with |some t=>b8.f t _ |none=>.aU)|none=>.aU)else .aU)=_
 have:ic ((R::Y).map aq.d).length 0=D 0:=by unfold ic;simp_all
 rw[this];rfl
theorem Ry (Y:R.length<=100000)(a:g5 32 R=X):qN [cI (R::p),.d X]=.f (.d R) [cI p,.d X]:=by
 refine wh    (e:=[D (cI p),D (.d X)]) rfl ?_;unfold IC;rw[jD (by rw[adC,um    rfl rfl Y,decide_eq_true a];rfl)]
 exact PO (i3 (V:=(0,[0]))    (cS:=ao _ p)  rfl rfl rfl (ht rfl) (aeK R p))
theorem y1 {y:Int}(Y:R.length<=100000)(a:g5 32 R=X)(b:fc 32 R=aH)(c:(aH.length:Int)=y):lB [cI (R::p),.d X,.c y]=.f (ao .d aH) [cI p,.d X,.c y]:=by
 have aR:dp.aW aI (.kX (.eA .split [(.C (.d [32]))]) (.eL [("Clauses",qN)] (.v 0) "take" [(.X (.v 1))])) [D (cI (R::p)),D (.d X),D (.c y),i]=.f (ao .d aH) [D (cI p),D (.d X),D (.c y),i]:=by
  rw[HF,ui (V:=(0,[])) (aO:="Clauses") (b:=["waiting"])  (w:=("Clauses",qN)) (ab:=[.d X]) (E:=.d R) (cS:=cI p) (dJ:=[.d X]) rfl rfl rfl (by decide) (ht rfl) (Ry Y a),kq,HG]
  show fb (H.aW aI _ (.eA .split (.C (.d R)) [(.C (.d [32]))])) _ _=_
  have aB:∀x:VI.aZ,H.aW aI x (.eA .split (.C (.d R)) [(.C (.d [32]))])=.f (ao .d aH):=λx=>by
   exists h1,uj,C0 Y,b
  rw[aB];exact hp _ jf
 have d:lB=cy aI 3 1 CG:=rfl;rw[d];refine wh  (y:=3) (m:=1) (e:=[D (cI p),D (.d X),D (.c y),i]) rfl ?_;unfold CG;show aN.a_ aI _ (.cp 3 _::_) [D (cI (R::p)),D (.d X),D (.c y),i]=_
 rw[kZ aR rfl (by show 3<4;lia)]
 exists jg,decide_eq_true c
end
noncomputable def k6:bt:=[116,97,107,101]
noncomputable def k7:bt:=[112,105,99,107]
noncomputable def gw:bt:=[111,114,100,101,114]
noncomputable def lE:bt:=[119,111,114,107]
noncomputable def jj:bt:=[98,114,101,97,107]
noncomputable def ff:bt:=[115,117,109]
noncomputable def oL:bt:=[112,114,105,110,116]
def jG (n:gi):List Nat:=n.map λR=>if R=32 then 95 else R
abbrev eG (aH:hL):List Nat:=oc 32 aH
def h8 (N:hI):List Nat:=eG [k7,bH N.1,jG N.2]
def hM:k3->hL
 |.aU=>[]|.hK w=>[eG [lC,bH w]]|.gv p y w g=>[eG [p,y,bH w,bH g]]
def eO (au:fs):List Nat:=gO [44,32] (au.map bH)
def cX (p:gi)(au:fs):List Nat:=if au=[]then p else p++32::eO au
def gI (p:hJ):List Nat:=eG [lE,bH p.1,[61],bH p.2.1,p.2.2.1,bH p.2.2.2]
def iO (n:gi):List Nat:=if n=[]then oL else oL++32::n
def dg (r:eB)(n:gi):hL:=eG [k6,r.dP]::(r.c3.map h8++(hM r.cB++(cX gw r.b5::(r.c8.map gI++[eG [jj,cH r.cP],cX ff r.cj++eo++cH r.dC,iO n]))))
theorem wj (Y:aH≠[])(w:∀p∈aH,(32:Nat)∉p):fc 32 (eG aH)=aH:=E8 32 aH Y w
theorem r8 {p:bt}(Y:(32:Nat)∉p):g5 32 (eG (p::aH))=p:=by
 cases aH with
 |nil=>exact I0 Y|cons S aH=>exact IZ Y
theorem aeL (n:gi):(32:Nat)∉jG n:=λY=>by
 obtain⟨R,_,e⟩:=fk.mp Y;grind
theorem y2 (n:gi):(jG n).length=n.length:=cE ..
theorem I1 (s m:Nat):∀n:bt,oc m (fc s n)=n.map λR=>if R=s then m else R
 |[]=>rfl|t::E=>by
  rw[fc,eW,<- (I1 s m E)];by_cases e:t=s
  ·rw[if_pos e,if_pos e]
   cases G:fc s E with
   |nil=>exact absurd G (E7 s E)|cons N aJ=>rfl
  ·rw[if_neg e,if_neg e]
   cases G:fc s E with
   |nil=>rfl|cons N aJ=>cases aJ<;>rfl
theorem Rz {s m:Nat}{n:bt}(Y:n.length<=1000):ou.w (.m1 s m) n=.f (.d (n.map λR=>if R=s then m else R)):=by
 show Mo.ea _ _=_
 rw[Mo.mu (by lia),StrLaws.replace_one,E9,L4]
 exact congrArg (λn=>g4 _) (I1 s m n)
theorem RA {R:Nat}(Y:R∈ju):R=32\/48<=R/\R<=57\/65<=R/\R<=90:=by revert R;decide
theorem I2 {R:Nat}(Y:R∈j5):97<=R/\R<=122:=by revert R;decide
theorem aeM {n:bt}(b:n.length<=1000)(Y:∀R∈n,R∈ju):IF.b4 [.d (jG n)]=.f (.d n):=by
 have e:((jG n).map λR=>if R=95 then 32 else R)=n:=by
  unfold jG;rw[gT];refine(sf λR a=>?_).trans (wG n)
  have:=RA (Y R a);grind
 refine dK rfl rfl λaD c=>?_
 unfold QP
 exists IX,Rz  (by rwa[y2]),e
 fail "q"
structure C5 (N:hI):Prop where
 w:fw N.1
 s:N.2.length<=36
 z:∀R∈N.2,R∈ju
theorem RB {R:H} {e:VI.aZ}:aN.a_ aI aD (.qF R b::c1) e=jY (nO (λe=>(R.aW aI e).aC fO) (λe=>aN.a_ aI aD b e) tg e) λe=>aN.a_ aI aD c1 e:=by rw[aN.a_,aN.f7]
theorem aeN (A:C5 N):fc 32 (h8 N)=[k7,bH N.1,jG N.2]/\g5 32 (h8 N)=k7/\(h8 N).length<=50:=by
 refine⟨wj (by simp) λp hw=>?_,r8 (by decide),?_⟩
 ·simp only[dn,gJ,or_false]at hw
  rcases hw with rfl |rfl |rfl
  ·decide
  ·exact nt (eu A.w) (by lia) (by lia)
  exact aeL _
 ·show(k7++32::(bH _++32::jG _)).length<=50
  have:=(fJ (eu A.w)).1;have:=A.s;rw[dm,ew,dm,ew,y2];show 4+_<=50
  lia
def qS (d2:hL)(X:gi):Prop:=∃R p,d2=R::p/\R.length<=100000/\g5 32 R≠X
theorem aeO (K:aJ.length<=8)(Y:∀N∈aJ,C5 N)(j:qS d2 k7):CH [cI (aJ.map h8++d2)]=.f (ao cU aJ) [cI d2]:=by
 have k:CH=cy aI 1 2 yO:=rfl;have l:∀aD:Nat->Bool,aD 1=aA->aD 2=aA->∃aR aB,aN.a_ aI aD yO [D (cI (aJ.map h8++d2)),i,i]=.f (.eT (ao cU aJ)) [D (cI d2),aR,aB]:=λaD b o=>by
  suffices G:bX (aN.a_ aI aD yO [D (cI (aJ.map h8++d2)),i,i]) λA e=>A=.eT (ao cU aJ)/\∃aR aB,e=[D (cI d2),aR,aB] by
   obtain⟨A,e,G,rfl,aR,aB,rfl⟩:=G;exact⟨aR,aB,G⟩
  unfold yO;rw[eZ (t:=ao cU []) (by exists Ck;rfl) b,RB]
  refine PW (P:=λO e=>∃A,e=[D (cI ((aJ.drop O).map h8++d2)),D (ao cU (aJ.take O)),A]) aJ.length (by lia) ⟨_,rfl⟩ λO e aE s=>?_
  obtain⟨A,rfl⟩:=s;rcases DM O aJ.length with a |L
  ·right
   have u:aJ.drop O=aJ[O]::aJ.drop (O+1):=se a;have v:aJ.take (O+1)=aJ.take O++[aJ[O]]:=Ji a;rw[u,v,eW,zo]
   generalize (aJ.drop (O+1)).map h8++d2=p
   have A:=Y _ (si a)
   generalize aJ[O]=N at A
   have y:(aJ.take O).length<=8:=by rw[l9];lia
   generalize aJ.take O=t at y
   obtain⟨z,h,M⟩:=aeN A;refine⟨a,by rw[um (R:=h8 N) (p:=p) (X:=k7) rfl rfl (by lia),decide_eq_true h];rfl,?_⟩
   rw[kZ (ui (V:=(0,[])) (aO:="Clauses") (b:=["waiting"]) (j:=[ao .d (h8 N::p)]) (w:=("Clauses",lB)) (ab:=[.d k7,.c 3]) (cS:=cI p) (dJ:=[.d k7,.c 3]) rfl rfl rfl (by decide) (yZ rfl rfl) (y1 (by lia) h z rfl)) o (by show 2<3;lia)]
   show bX (aN.a_ aI aD _ [D (cI p),D (ao cU t),D (ao .d [k7,bH N.1,jG N.2])]) _
   have B:dW [k7,bH N.1,jG N.2] 1=D (bH N.1):=rfl;have E:dW [k7,bH N.1,jG N.2] 2=D (jG N.2):=rfl;have F:qC [ao cU t,.az .bb [av N.1,.d N.2]]=.f .a9 [ao cU (t++[N]),.e4]:=jE (X:=N) (by lia)
   have d_:(aq.az .bb [av N.1,.d N.2]).el=ag:=Cj (g:=cU) N
   exists b,B,E,qR A.w,aeM (show N.2.length<=1000 by have:=A.s;lia) A.z,hq,F,d_
   exact⟨_,_,rfl,rfl,_,rfl⟩
  ·left
   have:O=aJ.length:=by lia
   subst this;obtain⟨R,p,rfl,I,J⟩:=j;rw[wB,zm,sm,wC];refine⟨by rw[um (R:=R) (p:=p) (X:=k7) rfl rfl I,decide_eq_false J];rfl,?_⟩
   exists b
   exact⟨_,_,rfl,rfl,_,_,rfl⟩
 obtain⟨aR,aB,G⟩:=l (aj [cI (aJ.map h8++d2)]) rfl rfl;rw[k];exact wh (ab:=[cI (aJ.map h8++d2)]) (y:=1) (m:=2) rfl G
theorem I3 {p:bt}(Y:p∈mN):(32:Nat)∉p/\p.length<=5:=by
 unfold mN at Y;simp only[dn,gJ,or_false]at Y;rcases Y with rfl |rfl |rfl<;>decide
theorem RC {p:hJ}(A:CW p):fc 32 (gI p)=[lE,bH p.1,[61],bH p.2.1,p.2.2.1,bH p.2.2.2]/\g5 32 (gI p)=lE/\(gI p).length<=40:=by
 obtain⟨a,dc,eK,b⟩:=A;refine⟨wj (by simp) λX c=>?_,r8 (by decide),?_⟩
 ·simp only[dn,gJ,or_false]at c
  rcases c with rfl |rfl |rfl |rfl |rfl |rfl
  ·decide
  ·exact nt (eu a) (by lia) (by lia)
  ·decide
  ·exact nt (eu dc) (by lia) (by lia)
  ·exact(I3 b).1
  ·exact nt (eu eK) (by lia) (by lia)
 ·show(lE++32::(bH p.1++32::([61]++32::(bH p.2.1++32::(p.2.2.1++32::bH p.2.2.2))))).length<=40
  have:=(fJ (eu a)).1;have:=(fJ (eu dc)).1;have:=(fJ (eu eK)).1;have:=(I3 b).2;simp only[dm,ew,wD];show 4+_<=40
  lia
theorem aeP (T:aJ.length<=4)(Y:∀N∈aJ,CW N)(k:qS d2 lE):CJ [cI (aJ.map gI++d2)]=.f (ao cb aJ) [cI d2]:=by
 have l:CJ=cy aI 1 2 yR:=rfl;have o:∀aD:Nat->Bool,aD 1=aA->aD 2=aA->∃aR aB,aN.a_ aI aD yR [D (cI (aJ.map gI++d2)),i,i]=.f (.eT (ao cb aJ)) [D (cI d2),aR,aB]:=λaD h s=>by
  suffices G:bX (aN.a_ aI aD yR [D (cI (aJ.map gI++d2)),i,i]) λA e=>A=.eT (ao cb aJ)/\∃aR aB,e=[D (cI d2),aR,aB] by
   obtain⟨A,e,G,rfl,aR,aB,rfl⟩:=G;exact⟨aR,aB,G⟩
  unfold yR;rw[eZ (t:=ao cb []) (by exists Ck;rfl) h,RB]
  refine PW (P:=λO e=>∃A,e=[D (cI ((aJ.drop O).map gI++d2)),D (ao cb (aJ.take O)),A]) aJ.length (by lia) ⟨_,rfl⟩ λO e aE u=>?_
  obtain⟨A,rfl⟩:=u;rcases DM O aJ.length with b |U
  ·right
   have v:aJ.drop O=aJ[O]::aJ.drop (O+1):=se b;have y:aJ.take (O+1)=aJ.take O++[aJ[O]]:=Ji b;rw[v,y,eW,zo]
   generalize (aJ.drop (O+1)).map gI++d2=p
   have A:=Y _ (si b)
   generalize aJ[O]=N at A
   have z:(aJ.take O).length<=8:=by rw[l9];lia
   generalize aJ.take O=t at z
   obtain⟨B,j,V⟩:=RC A;obtain⟨E,dc,eK,X⟩:=A;refine⟨b,by rw[um (R:=gI N) (p:=p) (X:=lE) rfl rfl (by lia),decide_eq_true j];rfl,?_⟩
   rw[kZ (ui (V:=(0,[])) (aO:="Clauses") (b:=["waiting"]) (j:=[ao .d (gI N::p)]) (w:=("Clauses",lB)) (ab:=[.d lE,.c 6]) (cS:=cI p) (dJ:=[.d lE,.c 6]) rfl rfl rfl (by decide) (yZ rfl rfl) (y1 (by lia) j B rfl)) s (by show 2<3;lia)]
   generalize a:[lE,bH N.1,[61],bH N.2.1,N.2.2.1,bH N.2.2.2]=W
   show bX (aN.a_ aI aD _ [D (cI p),D (ao cb t),D (ao .d W)]) _
   have F:dW W 1=D (bH N.1):=by rw[<- a];rfl
   have I:dW W 2=D [61]:=by rw[<- a];rfl
   have J:dW W 3=D (bH N.2.1):=by rw[<- a];rfl
   have K:dW W 4=D N.2.2.1:=by rw[<- a];rfl
   have L:dW W 5=D (bH N.2.2.2):=by rw[<- a];rfl
   have aB:gq ag (.d [61]) (.d [61])=.f (.aQ aA):=by rw[l4];simp
   have M:qC [ao cb t,.az .bb [av N.1,av N.2.1,.d N.2.2.1,av N.2.2.2]]=.f .a9 [ao cb (t++[N]),.e4]:=jE (X:=N) (by lia)
   have d_:(aq.az .bb [av N.1,av N.2.1,.d N.2.2.1,av N.2.2.2]).el=ag:=Cj (g:=cb) N
   exists h,F,I,J,K,L,aB,qR E,qR dc,qR eK,hq,M,d_
   exact⟨_,_,rfl,rfl,_,rfl⟩
  ·left
   have:O=aJ.length:=by lia
   subst this;obtain⟨R,p,rfl,Q,S⟩:=k;rw[wB,zm,sm,wC];refine⟨by rw[um (R:=R) (p:=p) (X:=lE) rfl rfl Q,decide_eq_false S];rfl,?_⟩
   exists h
   exact⟨_,_,rfl,rfl,_,_,rfl⟩
 obtain⟨aR,aB,G⟩:=o (aj [cI (aJ.map gI++d2)]) rfl rfl;rw[l];exact wh (ab:=[cI (aJ.map gI++d2)]) (y:=1) (m:=2) rfl G
theorem RD {y:Int}(a:0<=y)(Y:y<=40):CK.b4 [.d (cH y)]=.f (.c y):=by
 refine dK rfl rfl λaD b=>?_
 unfold QS
 exists b,(j6 a Y).2.2
 fail "q"
def wk (w:cF):aq:=.d (bH w)
instance:k2 wk:=⟨λ_=>rfl⟩
theorem RE {au:fs}(Y:∀w∈au,fw w):(eO au).length<=au.length*7:=by
 have:=wg [44,32]  _ λn a=>by obtain⟨E,b,rfl⟩:=fk.mp a;exact(fJ (eu (Y E b))).1
 rwa[cE]at this
theorem I4 {p:bt}{au:fs}(hw:p.length<=10)(k:au.length<=40)(Y:∀w∈au,fw w):yQ.b4 [.d (cX p au),.d p]=.f (ao av au):=by
 refine dK rfl rfl λaD a=>?_
 unfold QR;have c:m8 [.d p]=.f (.c p.length):=yX (by lia)
 by_cases b:au=[]
 ·subst b
  exists a,l4,show cX p []=p from if_pos rfl,decide_true,Ck
  fail "q"
 ·have d:cX p au=p++32::eO au:=if_neg b
  have e:¬p++32::eO au=p:=λG=>by simp_all
  have l:=RE Y;have ax:lx (.d (p++32::eO au)) (D ((p.length:Int)+1)) i=.f (.d (eO au)):=by
   show(Mo.ei _ _)=_
   rw[Mo.mr (by rw[dm,ew];lia),Fo (by lia),show((p.length:Int)+1).toNat=p.length+1 by lia,<- JF,DH]
   rfl
  have bo:oq (eO au) [.d [44,32]]=.f (ao wk au):=(show ao wk au=ao .d (au.map bH) by unfold ao wk;rw[gT];rfl) ▸ IY (by decide +kernel) (by lia) (by simpa using b) (λn g=>by obtain⟨E,h,rfl⟩:=fk.mp g;exact nt (eu (Y E h)) (by lia) (by lia)) (by show(eO au).length<=_;lia)
  exists a,d,l4,decide_eq_false e
  rw[iM (w:=λw:cF=>w) (A:=av) (T:=λw=>[wk w]) (items:=au.map wk) au rfl (by exists c,ax,h1,uj,bo) (by rw[h2]) (λw j=>by exists qR;exact qR (Y w j)) (by lia),uC]
  exists a
  fail "q"
theorem aeQ {n:bt}(h:n.length<=1000)(d:n=[]->b6=[])(f:n≠[]->ue.b4 [.d n]=.f (ao av b6)):IG.b4 [.d (iO n)]=.f (ao av b6):=by
 refine dK rfl rfl λaD b=>?_
 unfold QW;by_cases a:n=[]
 ·subst a
  rw[d rfl]
  exists b,e,Ck
  fail "q"
 ·have c:iO n=oL++32::n:=if_neg a
  have aR:gq aA (.d (iO n)) (.d [112,114,105,110,116])=.f (.aQ aA):=by
   rw[l4,c];rfl
  have aB:m8 [.d [112,114,105,110,116,32]]=.f (.c 6):=rfl;have ax:lx (.d (iO n)) (D 6) i=.f (.d n):=by
   rw[c];show(Mo.ei _ _)=_
   rw[Mo.mr (by rw[dm,ew];show 5+(n.length+1)<=_;lia),Fo (by lia)]
   rfl
  have g:gq aA (.d n) (.d [])=.f (.aQ aA):=by rw[l4];simp[a]
  exists b,aR,aB,ax,g,f a
  fail "q"
theorem aeR (k:oF dP m)(bI:qS d2 oD)(bW:qS d2 oE)(O:qS d2 lC):CI [cI (hM m++d2)]=.f (c9 m) [cI d2]:=by
 have P:CI=cy aI 1 2 yP:=rfl;have L:∀y:bt,nX y->(32:Nat)∉y/\y.length<=8:=λy Y=>⟨λG=>by have:=I2 (Y.2.2 _ G);lia,Y.2.1⟩
 obtain⟨R,p,ec,o,z,M,B⟩:∃R p,hM m++d2=R::p/\R.length<=100000/\(∀X y w g,m=.gv X y w g->g5 32 R=X/\fc 32 R=[X,y,bH w,bH g]/\p=d2)/\(∀w,m=.hK w->g5 32 R=lC/\fc 32 R=[lC,bH w]/\p=d2)/\(m=.aU->g5 32 R≠oD/\g5 32 R≠oE/\g5 32 R≠lC/\R::p=d2):=by
  cases m with
  |aU=>
   obtain⟨R,p,rfl,Q,S⟩:=bI;obtain⟨cS,T,e,_,U⟩:=bW;cases e;obtain⟨cS,T,e,_,V⟩:=O;cases e;exact⟨R,p,rfl,Q,λ_ _ _ _ G=>(nomatch G),λ_ G=>(nomatch G),λ_=>⟨S,U,V,rfl⟩⟩
  |hK w=>
   refine⟨eG [lC,bH w],d2,rfl,?_,λ_ _ _ _ G=>(nomatch G),λal G=>?_,λG=>(nomatch G)⟩
   ·show(lC++32::bH w).length<=_
    have:=(fJ (eu k)).1;rw[dm,ew];show 5+_<=_;lia
   ·cases G
    refine⟨r8 (by decide),wj (by simp) λX a=>?_,rfl⟩
    simp only[dn,gJ,or_false]at a;rcases a with rfl |rfl
    ·decide
    ·exact nt (eu k) (by lia) (by lia)
  |gv X y w g=>
   obtain⟨af,ai,_,s,u,_⟩:=k;have a:(32:Nat)∉X/\X.length<=7:=by rcases af with rfl |rfl<;>decide
   refine⟨eG [X,y,bH w,bH g],d2,rfl,?_,λ_ _ _ _ G=>?_,λ_ G=>(nomatch G),λG=>(nomatch G)⟩
   ·show(X++32::(y++32::(bH w++32::bH g))).length<=_
    have:=(fJ (eu s)).1;have:=(fJ (eu u)).1;have:=(L y ai).2;simp only[dm,ew];lia
   ·cases G
    refine⟨r8 a.1,wj (by simp) λq h=>?_,rfl⟩
    simp only[dn,gJ,or_false]at h;rcases h with rfl |rfl |rfl |rfl
    ·exact a.1
    ·exact(L _ ai).1
    ·exact nt (eu s) (by lia) (by lia)
    ·exact nt (eu u) (by lia) (by lia)
 have W:∀aD:Nat->Bool,aD 1=aA->aD 2=aA->∃aR aB,aN.a_ aI aD yP [D (cI (hM m++d2)),i,i]=.f (.eT (c9 m)) [D (cI d2),aR,aB]:=λaD N Z=>by
  suffices G:bX (aN.a_ aI aD yP [D (cI (hM m++d2)),i,i]) λA e=>A=.eT (c9 m)/\∃aR aB,e=[D (cI d2),aR,aB] by
   obtain⟨A,e,G,rfl,aR,aB,rfl⟩:=G;exact⟨aR,aB,G⟩
  rw[ec];unfold yP;have aa:∀x,H.aW aI x (.hV "MATING_WORDS" [oD,oE])=.f (.az .iW ([oD,oE].map .d)):=λx=>PV _ _ (by decide)
  refine HB (t:=.az .iW ([oD,oE].map .d)) (s:=[oD,oE]) (enc:=λX=>[.d X]) (γ:=[oD,oE].map .d) (aR:=[D (cI (R::p)),i,i]) (λt e=>(∃A,e=[D (cI (R::p)),A,i])/\∀X∈t,g5 32 R≠X) (by rw[show H.aW aI [D (cI (R::p)),i,i] (.hV "MATING_WORDS" [[109,97,116,101,115],[119,105,116,104,111,117,116]])=_ from aa _];exact hp _ (by rfl)) rfl (by rw[h2]) ⟨⟨_,rfl⟩,λX a=>(nomatch a)⟩ (λt X E e ab F=>?_) (λe F=>?_)
  ·obtain⟨⟨A,rfl⟩,I⟩:=F
   refine⟨[D (cI (R::p)),D (.d X),i],by show(if aD 1=aA/\_ then _ else _)=_;rw[if_pos ⟨N,by show 1<3;lia⟩];rfl,?_⟩
   have a:X=oD\/X=oE:=by
    have:X∈[oD,oE]:=by rw[ab];simp
    simpa using this
   have b:=um (x:=[D (cI (R::p)),D (.d X),i]) (R:=R) (p:=p) (X:=X) (O:=0) (q:=.v 1) rfl rfl o;by_cases j:g5 32 R=X
   ·rw[decide_eq_true j]at b
    rw[nS (by rw[b];rfl)]
    obtain⟨y,w,g,rfl⟩:∃y w g,m=.gv X y w g:=by
     cases m with
     |aU=>exact absurd j (by rcases a with rfl |rfl;exact(B rfl).1;exact(B rfl).2.1)|hK w=>rw[(M w rfl).1]at j;rcases a with rfl |rfl<;>cases j
     |gv q y w g=>rw[(z _ _ _ _ rfl).1]at j;subst j;exact⟨y,w,g,rfl⟩
    obtain⟨v,J,rfl⟩:=z _ _ _ _ rfl;obtain⟨_,ai,_,s,u,_⟩:=k;show bX (aN.a_ aI aD (.cp 2 _::_) _) _
    rw[kZ (ui (V:=(0,[])) (aO:="Clauses") (b:=["waiting"]) (j:=[ao .d (R::p)]) (w:=("Clauses",lB)) (ab:=[.d X,.c 4]) (cS:=cI p) (dJ:=[.d X,.c 4]) rfl rfl rfl (by decide) (yZ rfl rfl) (y1 o v J rfl)) Z (by show 2<3;lia)]
    show bX (aN.a_ aI aD [.cG _] [D (cI p),D (.d X),D (ao .d [X,y,bH w,bH g])]) _
    have K:dW [X,y,bH w,bH g] 1=D y:=rfl;have ac:dW [X,y,bH w,bH g] 2=D (bH w):=rfl;have ae:dW [X,y,bH w,bH g] 3=D (bH g):=rfl
    exists K,ac,ae,qR s,qR u,hq
    exact⟨_,_,rfl,.inr ⟨⟨_,rfl⟩,rfl,_,_,rfl⟩⟩
   ·rw[decide_eq_false j]at b
    rw[jD (by rw[b];rfl)]
    exact⟨_,_,rfl,.inl ⟨.inl rfl,⟨_,rfl⟩,λq h=>by
     rcases hu.mp h with h |h
     ·exact I q h
     ·rw[fy.mp h];exact j⟩⟩
  ·obtain⟨⟨A,rfl⟩,I⟩:=F
   have b:=um (x:=[D (cI (R::p)),A,i]) (R:=R) (p:=p) (X:=lC) (O:=0) (q:=.C (.d lC)) rfl rfl o;cases m with
   |gv X y w g=>exact absurd (z _ _ _ _ rfl).1 (I X (by rcases k.1 with rfl |rfl<;>simp))|aU=>
    obtain⟨_,_,ah,rfl⟩:=B rfl;rw[decide_eq_false ah]at b;rw[jD (by rw[show H.aW aI [D (cI (R::p)),A,i] (.eL [("Clauses",pP)] (.v 0) "is_next" [(.C (.d [102,105,114,115,116]))])=_ from b];rfl)]
    exists N
    exact⟨_,_,rfl,rfl,_,_,rfl⟩
   |hK w=>
    obtain⟨v,J,rfl⟩:=M w rfl;rw[decide_eq_true v]at b;rw[nS (by rw[show H.aW aI [D (cI (R::p)),A,i] (.eL [("Clauses",pP)] (.v 0) "is_next" [(.C (.d [102,105,114,115,116]))])=_ from b];rfl)]
    have K:dW [lC,bH w] 1=D (bH w):=rfl;have aR:dp.aW aI (.aY .fq (.eL [("Clauses",lB)] (.v 0) "take_words" [(.X (.C (.d [102,105,114,115,116]))),(.X (.y 2))]) (.bh (.y 1))) [D (cI (R::p)),A,i]=.f (.d (bH w)) [D (cI p),A,i]:=by
     rw[PZ,ui (V:=(0,[])) (aO:="Clauses") (b:=["waiting"]) (j:=[ao .d (R::p)]) (w:=("Clauses",lB)) (ab:=[.d lC,.c 2]) (cS:=cI p) (dJ:=[.d lC,.c 2]) rfl rfl rfl (by decide) (yZ rfl rfl) (y1 o v J rfl),kq]
     exists K
     rfl
    have aB:dp.aW aI (.kX (.b0 wc "read_field" []) (.aY .fq (.eL [("Clauses",lB)] (.v 0) "take_words" [(.X (.C (.d [102,105,114,115,116]))),(.X (.y 2))]) (.bh (.y 1)))) [D (cI (R::p)),A,i]=.f (av w) [D (cI p),A,i]:=by
     rw[HF,aR,kq,HG];have ak:∀x:VI.aZ,H.aW aI x (jZ.X (.b0 wc "read_field" []) (.C (.d (bH w))))=.f (av w):=λx=>by
      unfold jZ.X
      exists qR k
     rw[ak];exact hp _ (hq w)
    show bX (aN.a_ aI aD (.cG (.tk _ _)::_) _) _
    rw[aN.a_,aN.f7,adF,aB,kq];exact⟨_,_,rfl,rfl,_,_,rfl⟩
 obtain⟨aR,aB,G⟩:=W (aj [cI (hM m++d2)]) rfl rfl;rw[P];exact wh (ab:=[cI (hM m++d2)]) (y:=1) (m:=2) rfl G
section
variable {x aR:VI.aZ}{w:bY}{cV:Str}{N:ee}{V:jV}{S qk E t:aq}{X:H}{R b q:bt}{p aH:hL}{y:Int}
theorem I5 (a:ee.aW aI x N=.f V)(b:en x V=D S)(c:w [S]=.f E [qk]):dp.aW aI (.b0 w cV [(.s N)]) x=.f E (fe x V qk):=by
 rw[dp.aW,(show eE aI x _=.f _ x by unfold eE;rw[a];rfl),kq]
 unfold hk;have aB:iL x [.s V]=D [S]:=by
  show(en x V).bind (λR=>D [R])=_
  rw[b];rfl
 rw[aB];show(if _ then(match w _ with |.f E dJ=>b8.f E _ |.aT X dJ=>_ |.aU=>_)else _)=_
 rw[c];rfl
theorem aeS (a:fb (X.aW aI x) x X.eD=.f t x)(b:w [t]=.f E [qk]):dp.aW aI (.b0 w cV [(.X X)]) x=.f E x:=by
 rw[dp.aW,ht a,kq];unfold hk;show(if _ then(match w [t]with |.f E dJ=>b8.f E _ |.aT X dJ=>_ |.aU=>_)else _)=_
 rw[b];trivial
theorem I6 (a:ee.aW aI x (.v 0)=.f (0,[]))(b:en x (0,[])=D (cI (R::p)))(c:R.length<=100000)(d:g5 32 R=q):dp.aW aI (.eL [("Clauses",qN)] (.v 0) "take" [(.X (.C (.d q)))]) x=.f (.d R) (fe x (0,[]) (cI p)):=
 ui         a b rfl (by decide) (ht rfl) (Ry c d)
theorem RF (a:ee.aW aI x (.v 0)=.f (0,[]))(c:en x (0,[])=D (cI (R::p)))(d:R.length<=100000)(e:g5 32 R=q)(f:fc 32 R=aH)(g:(aH.length:Int)=y)(h:dW aH 1=D b):dp.aW aI (.aY .fq (.eL [("Clauses",lB)] (.v 0) "take_words" [(.X (.C (.d q))),(.X (.y y))]) (.bh (.y 1))) x=.f (.d b) (fe x (0,[]) (cI p)):=by
 rw[PZ,ui         a c rfl (by decide) (yZ rfl rfl) (y1 d e f g)]
 exists h
theorem C6 {r:jZ}{q:dp}(Y:dp.aW aI q x=.f (.d b) aR)(ai:H.aW aI aR (r.X (.C (.d b)))=.f t)(a:t.el=ag):dp.aW aI (.kX r q) x=.f t aR:=by
 rw[HF,Y,kq,HG,ai];exact hp _ a
end
theorem aeT:yS.b4 [.aL (cI [])]=.f .a9:=by
 have e:gq ag (ao .d []) (.az .aM [])=.f (.aQ aA):=rfl;refine dK rfl rfl λaD a=>?_
 unfold IH
 exists a,Rv,Rw,e
 fail "q"
theorem C7 (r:eB):(eb r).el=ag:=by
 show aq.lr _=ag
 unfold CS;simp only[Ca,Cb,yC,HA,jf,yY,uE]
theorem RG {r:eB}(Y:il r):qr yM "Asking" [.d r.dP,.aL (ao cU r.c3),c9 r.cB,.aL (ao av r.b5),.aL (ao cb r.c8),.c r.cP,.aL (ao av r.cj),.c r.dC,.aL (ao av r.b6)]=.f (eb r):=by
 obtain⟨ab,aE⟩:=aer Y;unfold qr;simp only[eW,sm,mM,PQ,adk,(oI _),aE]
theorem C8 {R:bt}{p:hL}{X q:bt}(a:R.length<=100000)(Y:g5 32 R=q)(b:q≠X):qS (R::p) X:=⟨R,p,rfl,a,by rwa[Y]⟩
theorem aeU {p:bt}{au:fs}(Y:(32:Nat)∉p):g5 32 (cX p au)=p:=by
 unfold cX;split
 ·exact I0 Y
 exact IZ Y
theorem y3 {p:bt}{au:fs}(hw:p.length<=5)(a:au.length<=40)(Y:∀w∈au,fw w):(cX p au).length<=300:=by
 unfold cX;have:=RE Y;grind
theorem C9 {r:eB}(Y:il r):∀N∈r.c3,C5 N:=λN c=>by
 obtain⟨dj,d,f⟩:=Y.c3;obtain⟨A,e⟩:=f N c;refine⟨A,?_,λR a=>?_⟩
 ·rw[e,cE,pf];obtain⟨S,b,R⟩:=A;lia
 rw[e]at a;obtain⟨X,_,rfl⟩:=fk.mp a;exact d X
def qT (r:eB):List Nat:=cX ff r.cj++(eo++cH r.dC)
def oM (r:eB)(n:gi):hL:=[eG [jj,cH r.cP],qT r,iO n]
theorem aeV (r:eB)(n:gi):dg r n=eG [k6,r.dP]::(r.c3.map h8++(hM r.cB++(cX gw r.b5::(r.c8.map gI++oM r n)))):=by
 unfold dg oM qT;rw[n1]
theorem aeW (r:eB):g5 32 (qT r)=ff:=by
 unfold qT cX;split
 ·rfl
 trivial
theorem aeX (n:gi):g5 32 (iO n)=oL:=by
 unfold iO;split
 ·rfl
 rfl
theorem aeY {r:eB}{n:bt}(Y:il r)(x:n.length<=1000)(z:n=[]->r.b6=[])(A:n≠[]->ue.b4 [.d n]=.f (ao av r.b6)):CO [cI (dg r n)]=.f (eb r) [cI []]:=by
 have B:CO=cy aI 1 10 CN:=rfl;have E:(32:Nat)∉r.dP:=λG=>by have:=I2 (Y.cV.2.2 _ G);lia
 have W:=Y.cV.2.1;have lP:=Y.cP;have ki:=Y.dC;have F:=j6 (y:=r.cP) (by lia) (by lia)
 have l:=j6 (y:=r.dC) (by lia) (by lia)
 have I:(eG [k6,r.dP]).length<=100000:=by show(k6++32::r.dP).length<=_;rw[dm,ew];show 4+_<=_;lia
 have Z:(cX gw r.b5).length<=300:=y3 (by decide) (by have:=Y.k4;lia) Y.b5
 have o:(eG [jj,cH r.cP]).length<=100000:=by show(jj++32::cH r.cP).length<=_;rw[dm,ew];have:=F.1.1;show 5+_<=_;lia
 have aa:(qT r).length<=310:=by
  have:=y3 (p:=ff) (by decide) (show r.cj.length<=40 by have:=Y.sl;lia) Y.cj
  have:=l.1.1;unfold qT;rw[dm,dm];show _+(4+_)<=_;lia
 have J:(iO n).length<=100000:=by
  unfold iO;split
  ·decide
  ·rw[dm,ew];show 5+_<=_;lia
 have p:g5 32 (cX gw r.b5)=gw:=aeU (by decide)
 have u:g5 32 (eG [jj,cH r.cP])=jj:=r8 (by decide)
 have K:∀X,jj≠X->qS (oM r n) X:=λX c=>C8 o u c
 have h:∀X,gw≠X->qS (cX gw r.b5::(r.c8.map gI++oM r n)) X:=λX c=>C8 (by lia) p c
 have L:qS (hM r.cB++(cX gw r.b5::(r.c8.map gI++oM r n))) k7:=by
  have j:=Y.cB
  revert j
  cases r.cB with
  |aU=>exact λ_=>h _ (by decide)|hK w=>
   intro j;refine C8 (q:=lC) ?_ (r8 (by decide)) (by decide)
   show(lC++32::bH w).length<=_
   have:=(fJ (eu j)).1;rw[dm,ew];show 5+_<=_;lia
  |gv X y w g=>
   rintro⟨af,ai,_,M,N,_⟩;refine C8 (q:=X) ?_ (r8 (by rcases af with rfl |rfl<;>decide)) (by rcases af with rfl |rfl<;>decide)
   show(X++32::(y++32::(bH w++32::bH g))).length<=_
   have:=(fJ (eu M)).1;have:=(fJ (eu N)).1;have:=ai.2.1;have:X.length<=7:=by rcases af with rfl |rfl<;>decide
   simp only[dm,ew];lia
 have P:∀aD:Nat->Bool,(∀O,O≠0->aD O=aA)->∃e,aN.a_ aI aD CN [D (cI (dg r n)),i,i,i,i,i,i,i,i,i,i]=.f (.eT (eb r)) (D (cI [])::e):=λaD a=>by
  rw[aeV];unfold CN;rw[kZ (RF (q:=[116,97,107,101]) (y:=2) rfl rfl I (r8 (by decide)) (wj (by simp) λX c=>by
   simp only[dn,gJ,or_false]at c;rcases c with rfl |rfl
   ·decide
   ·exact E) rfl rfl) (a 1 (by lia)) (by show 1<11;lia)]
  show∃e,aN.a_ aI aD _ [D (cI (r.c3.map h8++(hM r.cB++(cX gw r.b5::(r.c8.map gI++oM r n))))),D (.d r.dP),i,i,i,i,i,i,i,i,i]=_
  rw[kZ (I5 (V:=(0,[])) rfl rfl (aeO Y.g_ (C9 Y) L)) (a 2 (by lia)) (by show 2<11;lia)]
  show∃e,aN.a_ aI aD _ [D (cI (hM r.cB++(cX gw r.b5::(r.c8.map gI++oM r n)))),D (.d r.dP),D (ao cU r.c3),i,i,i,i,i,i,i,i]=_
  rw[kZ (I5 (V:=(0,[])) rfl rfl (aeR Y.cB (h _ (by decide)) (h _ (by decide)) (h _ (by decide)))) (a 3 (by lia)) (by show 3<11;lia)]
  show∃e,aN.a_ aI aD _ [D (cI (cX gw r.b5::(r.c8.map gI++oM r n))),D (.d r.dP),D (ao cU r.c3),D (c9 r.cB),i,i,i,i,i,i,i]=_
  rw[kZ (C6 (I6 (q:=[111,114,100,101,114]) rfl rfl (by lia) p) (t:=ao av r.b5) (by unfold jZ.X;exists I4 (p:=gw) (by decide) (show r.b5.length<=40 by have:=Y.k4;lia) Y.b5;exact I4 (p:=gw) (by decide) (show r.b5.length<=40 by have:=Y.k4;lia) Y.b5) jf) (a 4 (by lia)) (by show 4<11;lia)]
  show∃e,aN.a_ aI aD _ [D (cI (r.c8.map gI++oM r n)),D (.d r.dP),D (ao cU r.c3),D (c9 r.cB),D (ao av r.b5),i,i,i,i,i,i]=_
  rw[kZ (I5 (V:=(0,[])) rfl rfl (aeP Y.l5 Y.c8 (K _ (by decide)))) (a 5 (by lia)) (by show 5<11;lia)]
  show∃e,aN.a_ aI aD _ [D (cI (oM r n)),D (.d r.dP),D (ao cU r.c3),D (c9 r.cB),D (ao av r.b5),D (ao cb r.c8),i,i,i,i,i]=_
  unfold oM;rw[kZ (C6 (RF (q:=[98,114,101,97,107]) (y:=2) rfl rfl o u (wj (by simp) λX c=>by
   simp only[dn,gJ,or_false]at c;rcases c with rfl |rfl
   ·decide
   ·exact y0 (by lia) (by lia) (by lia)) rfl rfl) (t:=.c r.cP) (by unfold jZ.X;exists RD (y:=r.cP) (by lia) (by lia)) (HA _)) (a 6 (by lia)) (by show 6<11;lia)]
  show∃e,aN.a_ aI aD _ [D (cI [qT r,iO n]),D (.d r.dP),D (ao cU r.c3),D (c9 r.cB),D (ao av r.b5),D (ao cb r.c8),D (.c r.cP),i,i,i,i]=_
  have Q:kj.w .rI (qT r) [.d [32,105,110,32]]=.f (.az .bb [.d (cX ff r.cj),.d eo,.d (cH r.dC)]):=by
   show Mo.ea ([32,105,110,32]≠[]/\(qT r).length<=100000) (g4 (aq.az .bb ((Gv (Txt.rpartition ⟨(cX ff r.cj++(eo++cH r.dC)).toArray⟩ ⟨eo.toArray⟩)).map .bM)))=_
   rw[Mo.mu ⟨by simp,by lia⟩,rI l.1.2.2];rfl
  rw[kZ (C6 (I6 (q:=[115,117,109]) rfl rfl (by lia) (aeW r)) (t:=.az .bb [.d (cX ff r.cj),.d eo,.d (cH r.dC)]) (by unfold jZ.X;exists h1,Q) rfl) (a 7 (by lia)) (by show 7<11;lia)]
  show∃e,aN.a_ aI aD _ [D (cI [iO n]),D (.d r.dP),D (ao cU r.c3),D (c9 r.cB),D (ao av r.b5),D (ao cb r.c8),D (.c r.cP),D (.az .bb [.d (cX ff r.cj),.d eo,.d (cH r.dC)]),i,i,i]=_
  have v:df (.az .bb [.d (cX ff r.cj),.d eo,.d (cH r.dC)]) (.c 0)=.f (.d (cX ff r.cj)):=rfl;have cR:df (.az .bb [.d (cX ff r.cj),.d eo,.d (cH r.dC)]) (.c 2)=.f (.d (cH r.dC)):=rfl;have k:∀(S b R t e w g:m5) (s:VI.aZ),fo (S::b::R::t::e::w::g::D (.az .bb [.d (cX ff r.cj),.d eo,.d (cH r.dC)])::s) 7=.f (.az .bb [.d (cX ff r.cj),.d eo,.d (cH r.dC)]):=λ_ _ _ _ _ _ _ _=>rfl
  have ax:yQ.b4 [.d (cX ff r.cj),.d [115,117,109]]=.f (ao av r.cj):=I4 (p:=ff) (by decide) (show r.cj.length<=40 by have:=Y.sl;lia) Y.cj
  generalize aq.az .bb [.d (cX ff r.cj),.d eo,.d (cH r.dC)]=T at v cR k
  rw[eZ (t:=ao av r.cj) (by exists k,v,ax) (a 8 (by lia))]
  show∃e,aN.a_ aI aD _ [D (cI [iO n]),D (.d r.dP),D (ao cU r.c3),D (c9 r.cB),D (ao av r.b5),D (ao cb r.c8),D (.c r.cP),D T,D (ao av r.cj),i,i]=_
  rw[eZ (t:=.c r.dC) (by exists k,cR,RD (y:=r.dC) (by lia) (by lia)) (a 9 (by lia))]
  show∃e,aN.a_ aI aD _ [D (cI [iO n]),D (.d r.dP),D (ao cU r.c3),D (c9 r.cB),D (ao av r.b5),D (ao cb r.c8),D (.c r.cP),D T,D (ao av r.cj),D (.c r.dC),i]=_
  rw[kZ (C6 (I6 (q:=[112,114,105,110,116]) rfl rfl J (aeX n)) (t:=ao av r.b6) (by unfold jZ.X;exists aeQ x z A) jf) (a 10 (by lia)) (by show 10<11;lia)]
  show∃e,aN.a_ aI aD _ [D (cI []),D (.d r.dP),D (ao cU r.c3),D (c9 r.cB),D (ao av r.b5),D (ao cb r.c8),D (.c r.cP),D T,D (ao av r.cj),D (.c r.dC),D (ao av r.b6)]=_
  have U:H.aW aI [D (cI []),D (.d r.dP),D (ao cU r.c3),D (c9 r.cB),D (ao av r.b5),D (ao cb r.c8),D (.c r.cP),D T,D (ao av r.cj),D (.c r.dC),D (ao av r.b6)] (.eL [("Clauses",yS)] (.v 0) "check_end" [])=.f .a9:=Rh (t:=.aL (cI [])) (aO:="Clauses") (ns:=["waiting"]) (j:=[ao .d []]) (w:=("Clauses",yS)) (ab:=[]) rfl rfl rfl (by decide) rfl aeT
  rw[adh (by rw[k0,U];exact hp _ adA)]
  have V:=oI r.cB
  exists V,RG Y,C7
  exact⟨_,rfl⟩
 obtain⟨e,G⟩:=P (aj [cI (dg r n)]) (λO aE=>by cases O with |zero=>exact absurd rfl aE |succ O=>rfl)
 rw[B];exact wh (ab:=[cI (dg r n)]) (y:=1) (m:=10) rfl G
theorem RH {R:Nat}(Y:R≠32):∀{aH:hL},(∀p∈aH,R∉p)->R∉oc 32 aH
 |[],_=>λG=>nomatch G|[p],w=>w p eI|p::v::aH,w=>λG=>by
  rcases hu.mp (G)with G |G
  ·exact w p eI G
  ·rcases dn.mp G with G |G
   ·exact Y G
   exact RH Y (λX a=>w X (f5 _ a)) G
theorem I7 {R:Nat}(Y:R∉sep):∀{aH:hL},(∀p∈aH,R∉p)->R∉gO sep aH
 |[],_=>λG=>nomatch G|[p],w=>w p eI|p::v::aH,w=>λG=>by
  rcases hu.mp (G)with G |G
  ·rcases hu.mp G with G |G
   ·exact w p eI G
   exact Y G
  exact I7 Y (λX a=>w X (f5 _ a)) G
theorem RI {w:cF}(Y:fw w):(59:Nat)∉bH w:=nt (eu Y) (by lia) (by lia)
theorem RJ {y:Int}(a:0<=y)(Y:y<=40):(59:Nat)∉cH y:=y0 a Y (by lia)
theorem aeZ {y:bt}(Y:nX y):(59:Nat)∉y:=λG=>by have:=I2 (Y.2.2 _ G);lia
theorem RK {p:bt}{au:fs}(hw:(59:Nat)∉p)(Y:∀w∈au,fw w):(59:Nat)∉cX p au:=by
 unfold cX;split
 ·exact hw
 ·refine λG=>?_
  rcases hu.mp G with G |G
  ·exact hw G
  ·rcases dn.mp G with G |G
   ·cases G
   exact I7 (by decide) (λX a=>by obtain⟨w,b,rfl⟩:=fk.mp a;exact RI (Y w b)) G
theorem C_ {r:eB}{n:bt}(Y:il r)(x:n.length<=900)(m:(59:Nat)∉n):∀R∈dg r n,(59:Nat)∉R/\R.length<=1000:=by
 have lP:=Y.cP;have ki:=Y.dC;intro R a;unfold dg at a;simp only[dn,hu,fk,gJ,or_false]at a;have o:∀aH:hL,aH.length<=6->(∀p∈aH,p.length<=40)->(eG aH).length<=1000:=λaH af ai=>by
  have:=wg [32] (B:=40) aH ai;rw[CZ]at this;have bw:=JP (40+[32].length) af;show(oc 32 aH).length<=_
  have:[32].length=1:=rfl;lia
 have c:∀aH:hL,aH.length<=6->(∀p∈aH,(59:Nat)∉p/\p.length<=40)->(59:Nat)∉eG aH/\(eG aH).length<=1000:=λaH af ai=>⟨RH (by lia) λp hw=>(ai p hw).1,o aH af λp hw=>(ai p hw).2⟩
 have b:∀w,fw w->(59:Nat)∉bH w/\(bH w).length<=40:=λw h=>⟨RI h,by have:=(fJ (eu h)).1;lia⟩
 have j:∀y,nX y->(59:Nat)∉y/\y.length<=40:=λy k=>⟨aeZ k,by have:=k.2.1;lia⟩
 have q:∀y:Int,0<=y->y<=40->(59:Nat)∉cH y/\(cH y).length<=40:=λy l af=>⟨RJ l af,by have:=(j6 l af).1.1;lia⟩
 rcases a with rfl |⟨N,s,rfl⟩|a |rfl |⟨p,hw,rfl⟩|rfl |rfl |rfl
 ·refine c _ (by show 2<=6;lia) λp hw=>?_
  simp only[dn,gJ,or_false]at hw;rcases hw with rfl |rfl
  ·decide
  ·exact j _ Y.cV
 ·have A:=C9 Y N s
  refine c _ (by show 3<=6;lia) λp hw=>?_
  simp only[dn,gJ,or_false]at hw;rcases hw with rfl |rfl |rfl
  ·decide
  ·exact b _ A.w
  ·refine⟨λG=>?_,by rw[y2];have:=A.s;lia⟩
   obtain⟨R,a,e⟩:=fk.mp G;have:=RA (A.z R a);split at e<;>lia
 ·have d:=Y.cB
  revert d a
  cases r.cB with
  |aU=>exact λa=>nomatch a|hK w=>
   intro a d;rw[fy.mp a];refine c _ (by show 2<=6;lia) λp hw=>?_
   simp only[dn,gJ,or_false]at hw;rcases hw with rfl |rfl
   ·decide
   ·exact b _ d
  |gv X y w g=>
   rintro a ⟨af,ai,_,t,u,_⟩;rw[fy.mp a];refine c _ (by show 4<=6;lia) λp hw=>?_
   simp only[dn,gJ,or_false]at hw;rcases hw with rfl |rfl |rfl |rfl
   ·rcases af with rfl |rfl<;>decide
   ·exact j _ ai
   ·exact b _ t
   ·exact b _ u
 ·exact⟨RK (by decide) Y.b5,by have:=y3 (p:=gw) (by decide) (show r.b5.length<=40 by have:=Y.k4;lia) Y.b5;lia⟩
 ·obtain⟨v,dc,eK,f⟩:=Y.c8 p hw
  refine c _ (by show 6<=6;lia) λp hw=>?_
  simp only[dn,gJ,or_false]at hw;rcases hw with rfl |rfl |rfl |rfl |rfl |rfl
  ·decide
  ·exact b _ v
  ·decide
  ·exact b _ dc
  ·unfold mN at f
   simp only[dn,gJ,or_false]at f;rcases f with e |e |e<;>rw[e]<;>decide
  ·exact b _ eK
 ·refine c _ (by show 2<=6;lia) λp hw=>?_
  simp only[dn,gJ,or_false]at hw;rcases hw with rfl |rfl
  ·decide
  ·exact q _ (by lia) (by lia)
 ·refine⟨λG=>?_,?_⟩
  ·rcases hu.mp G with G |G
   ·rcases hu.mp G with G |G
    ·exact RK (by decide) Y.cj G
    ·revert G;decide
   ·exact RJ (by lia) (by lia) G
  ·have:=y3 (p:=ff) (by decide) (show r.cj.length<=40 by have:=Y.sl;lia) Y.cj
   have:=(j6 (y:=r.dC) (by lia) (by lia)).1.1
   rw[dm,dm];show _+4+_<=_;lia
 ·unfold iO
  split
  ·decide
  ·refine⟨λG=>?_,by rw[dm,ew];show 5+_<=_;lia⟩
   rcases hu.mp G with G |G
   ·revert G;decide
   ·rcases dn.mp G with G |G
    ·cases G
    ·exact m G
theorem I8 {r:eB}{n:bt}(Y:il r):(dg r n).length<=18:=by
 have af:=Y.g_;have ai:=Y.l5;have bw:(hM r.cB).length<=1:=by cases r.cB<;>simp[hM]
 unfold dg;simp only[ew,dm,cE,wD];lia
def jk (r:eB)(n:gi):List Nat:=gO [59,32] (dg r n)
theorem ae0 (r:eB)(n:gi):dg r n≠[]:=by unfold dg;simp
theorem ae1 {r:eB}{n:bt}(Y:il r)(a:n.length<=900)(c:(59:Nat)∉n):(jk r n).length<=100000:=by
 have S:=wg [59,32]  _ λR d=>(C_ Y a c R d).2
 have b:=JP (1000+[59,32].length) (I8 (n:=n) Y);have:[59,32].length=2:=rfl;unfold jk;lia
theorem ae2 {r:eB}{n:bt}(Y:il r)(a:n.length<=900)(b:(59:Nat)∉n)(c:n=[]->r.b6=[])(f:n≠[]->ue.b4 [.d n]=.f (ao av r.b6)):II.b4 [.d (jk r n)]=.f (eb r):=by
 have bo:oq (jk r n) [.d [59,32]]=.f (ao .d (dg r n)):=IY (by decide +kernel) (by lia) (ae0 r n) (λR g=>(C_ Y a b R g).1) (ae1 Y a b)
 have h:yT [.az (.dV "Clauses" []) [],.d (jk r n)]=.f .a9 [cI (dg r n),.d (jk r n)]:=by
  refine P1 (ak:=aI) (y:=2) (m:=0) (body:=CP)  (e:=[D (cI (dg r n)),D (.d (jk r n))]) rfl ?_;unfold CP;show aN.a_ aI _ (.kY _ _ _::[]) [D (.az (.dV "Clauses" []) []),D (.d (jk r n))]=_
  rw[aN.a_,aN.f7,pN (t:=ao .d (dg r n)) (by exists h1,uj,bo) jf rfl (by decide) (by decide) (by decide),mL]
  rfl
 have j:qr yT "Clauses" [.d (jk r n)]=.f (cI (dg r n)):=by
  unfold qr;simp only[eW,sm,PQ,h]
 have k:(cI (dg r n)).el=ag:=by show aq.lr [ao .d (dg r n)]=ag;rw[Ca,jf,Cb];rfl
 refine dK rfl rfl λaD l=>?_
 unfold QX;show bX (aN.a_ aI aD (.pI [.cG _] []::[]) [D (.d (jk r n)),i]) _
 rw[adi,PO (aeS (t:=cI (dg r n)) (by
  have:H.aW aI [D (.d (jk r n)),i] (.jn yT "Clauses" [(.v 0)])=.f (cI (dg r n)):=by exists j
  rw[this];exact hp _ k) (aeY Y (ka a (by lia)) c f))]
 exact⟨_,_,rfl,.inl rfl⟩
theorem Dc (a:eM)(C:Nat):uc.b4 [dR a,.c (C:Int)]=.f (.c (a.getD C 0)):=by
 refine dK rfl rfl λaD c=>?_
 unfold Qa;by_cases b:C<(a.length:Int)
 ·exists PR,decide_eq_true b,VI.adn (wO C) b
  fail "q"
 ·exists PR,decide_eq_false b
  rw[nv,zg (by lia)]
  fail "q"
def l7 (a8 aE:Int)(w:cF):Prop:=a8<=w.1/\w.1<=w.2/\w.2<=aE
def cx (y Y p:Int):cF:=(1+y % Y,min Y (1+y % Y+y / 24 % p))
theorem wm (y:Int){Y p:Int}(af:0<Y)(a:0<p):HV.b4 [.c y,.c Y,.c p]=.f (av (cx y Y p)):=by
 refine dK rfl rfl λaD b=>?_
 unfold Qc
 exists b,VI.rZ af,VI.rZ a
 fail "q"
theorem wo (y:Int){Y p:Int}(af:0<Y)(a:0<p):l7 1 Y (cx y Y p)/\(cx y Y p).2-(cx y Y p).1<p:=by
 have b:0<=y % Y:=uJ _ (by lia)
 have c:y % Y<Y:=sD _ (by lia)
 have d:0<=y / 24 % p:=uJ _ (by lia)
 have lP:y / 24 % p<p:=sD _ (by lia)
 unfold l7 cx;simp only;lia
theorem RL {a8 aE:Int}{w:cF}(af:1<=a8)(ai:aE<=36)(Y:l7 a8 aE w):fw w:=⟨by have:=Y.1;lia,Y.2.1,by have:=Y.2.2;lia⟩
theorem RM {O:Int}(a:0<=O)(af:O<26):df (.d j5) (.c O)=.f (.d [97+O.toNat]):=by
 show Mo.ei j5.length (Mo.fj _)=_
 obtain⟨y,rfl⟩:=wN a;rw[(show∀y:Nat,y<26->dW j5 _=D (97+y) by decide) y (by lia)];rfl
theorem RN {y:Nat}(Y:y<26):97+y∈j5:=(show∀y:Nat,y<26->97+y∈j5 by decide) y Y
theorem ae3 (s:gi):gO [] (s.map λR=>[R])=s:=by
 induction s with
 |nil=>rfl|cons R s a=>cases s with
  |nil=>rfl|cons t s=>show[R]++[]++gO [] ((t::s).map λR=>[R])=_;rw[a];rfl
theorem RO {s:bt}(Y:s.length<=1000):km [] [ao .d (s.map λR=>[R])]=.f (.d s):=by
 rw[qQ (by decide) (by rwa[cE]) (λN a=>by obtain⟨R,_,rfl⟩:=fk.mp a;exact JO rfl),ae3]
theorem ae4 (a:0<=h)(Y:h<=100000):tH [aq.c h]=g4 ((fW h.toNat).map λO:Nat=>aq.c (O:Int)):=by
 unfold tH;dsimp only;rw[VI.PS,pL,Mo.mu ⟨by lia,by lia⟩]
 unfold gF;rw[gT];exact congrArg _ (sf λO _=>by show aq.c (0+O)=_;rw[Int.zero_add])
def RP (R:Int)(C:Nat):Nat:=97+((R / ((C:Int)+1)+(C:Int)*C) % 26).toNat
def cV (R:Int):List Nat:=(fW (1+R % 8).toNat).map (RP R)
theorem RQ (R:Int):nX (cV R):=by
 refine⟨by unfold cV;simp;lia,by unfold cV;simp;lia,λX a=>?_⟩
 obtain⟨C,_,rfl⟩:=fk.mp a;exact RN (by lia)
theorem ae5 (R:Int):HU.b4 [.c R]=.f (.d (cV R)):=by
 have g:R % 8<8:=sD _ (by lia)
 refine dK rfl rfl λaD a=>?_
 unfold Qb;rw[eZ (t:=.d j5) (by exists a;rfl) (a _)]
 have e:H.aW aI [D (.c R),D (.d j5)] (.ek ["_law_k"] [("_law_letters",1),("_law_cell",0)] .bI [(.aY .dA (.y 1) (.aY .es (.v 0) (.y 8)))] ⟨aA,[0]⟩ i (.aY .fq (.v 1) (.aY .es (.aY .dA (.aY .jc (.v 2) (.aY .dA (.v 0) (.y 1))) (.aY .mE (.v 0) (.v 0))) (.y 26))))=.f (ao .d ((cV R).map λX=>[X])):=by
  rw[iM (w:=λC:Nat=>[RP R C]) (A:=.d)   _ rfl (by exists adB;exact ae4 (by lia) (by lia)) (h2 _ _) (λC b=>?_) (by simp;lia)]
  ·unfold cV;rw[gT];rfl
  ·have b:=ma.mp b
   have aR:oj (.c (C:Int)) (.c (C:Int))=.f _:=B_ (by lia) (by lia)
   have aB:xQ (.c R) (.c ((C:Int)+1))=.f _:=ady (by lia) (by lia)
   have c:=RM (O:=(R / ((C:Int)+1)+(C:Int)*C) % 26) (by lia) (by lia)
   exists aR,aB,c
   rfl
 show bX (aN.a_ aI aD _ [D (.c R),D (.d j5)]) _
 exists a,h1,lD,e,RO (s:=cV R) (by have:=(RQ R).2.1;lia)
 fail "q"
theorem ae6:∀R∈j5,nE j5 [R]=(R:Int)-97/\97<=R/\R<=122:=by
 intro R;rw[WW]
 revert R
 decide
theorem ae7 (s R:gi):kj.w .find s [.d R]=.f (.c (nE s R)):=rfl
theorem ae8 {y:bt}(k:nX y)(R:Int):∃m,HW.b4 [.d y,.c R]=.f (.d m)/\nX m/\m≠y:=by
 obtain⟨z,A,e⟩:=k;have h:(0:Int)<(y.length:Int):=by lia
 have l:=uJ R (show(y.length:Int)≠0 by lia)
 have B:=sD R h;obtain⟨n,o⟩:=wN l;have p:n<y.length:=by lia
 obtain⟨X,f⟩:∃X,X=y[n]:=⟨_,rfl⟩;have s:X∈j5:=by rw[f];exact e _ (si _)
 obtain⟨t,C,E⟩:=ae6 X s;have aB:Bh (.c R) (.c (y.length:Int))=.f (.c (n:Int)):=by rw[VI.rZ h,o]
 have aR:df (.d y) (.c (n:Int))=.f (.d [X]):=by
  show Mo.ei y.length (Mo.fj ((dW y (n:Int)).map λR=>aq.d [R]))=_
  rw[Mo.mr (by lia),B8 (by lia) (gx (by lia)),f];rfl
 obtain⟨q,j⟩:∃q,q=97+(((X:Int)-97+1+R / 8 % 25) % 26).toNat:=⟨_,rfl⟩;have u:df (.d j5) (.c (((X:Int)-97+1+R / 8 % 25) % 26))=.f (.d [q]):=by rw[RM (by lia) (by lia),j]
 have v:q∈j5:=by rw[j];exact RN (by lia)
 have w:q≠X:=by lia
 have bo:lx (.d y) i (D (n:Int))=.f (.d (y.take n)):=by
  show Mo.ei y.length (g4 (aq.d (fU y _ _)))=_
  rw[Mo.mr (by lia),AS (by lia),Int.toNat_natCast]
 have x:lx (.d y) (D ((n:Int)+1)) i=.f (.d (y.drop (n+1))):=by
  show Mo.ei y.length (g4 (aq.d (fU y _ _)))=_
  rw[Mo.mr (by lia),Fo (by lia),show((n:Int)+1).toNat=n+1 by lia]
 refine⟨y.take n++[q]++y.drop (n+1),dK rfl rfl λaD g=>?_,⟨by simp;lia,by simp;lia,λR c=>?_⟩,λG=>?_⟩
 ·unfold Qd
  rw[eZ (t:=.d j5) (by exists g;rfl) (g _)]
  show bX (aN.a_ aI aD _ [D (.d y),D (.c R),D (.d j5),i,i]) _
  exists g,yX (show y.length<=100000 by lia),aB,h1,aR,ae7,t,u,bo,x,oJ (S:=y.take n) (b:=[q]) (by simp;lia),oJ (S:=y.take n++[q]) (b:=y.drop (n+1)) (by simp;lia)
  fail "q"
 ·rcases hu.mp c with c |c
  ·rcases hu.mp c with c |c
   ·exact e R (List.mem_of_mem_take c)
   ·rw[fy.mp c];exact v
  ·exact e R (List.mem_of_mem_drop c)
 ·have aR:(y.take n++[q]++y.drop (n+1))[n]?=D q:=by
   rw[n1,pV (by rw[l9];lia),l9,zv (by lia),zw];rfl
  rw[G,gx p,<- f]at aR;exact w (kb aR).symm
theorem ae9 (q:Int):∃p,(p=oD\/p=oE)/\df (.az .aM [.d [109,97,116,101,115],.d [119,105,116,104,111,117,116]]) (.c (q % 2))=.f (.d p):=by
 rcases(show q % 2=0\/q % 2=1 by lia)with e |e
 ·exact⟨_,.inl rfl,by rw[e];rfl⟩
 exact⟨_,.inr rfl,by rw[e];rfl⟩
theorem ae_ {y:bt}(k:nX y)(R:Int):∃m,HX.b4 [.d y,.c R]=.f (c9 m)/\oF y m/\∀w∈(jh m).take 1,l7 1 24 w:=by
 obtain⟨w,d⟩:∃w,w=cx (R / 4) 24 6:=⟨_,rfl⟩;obtain⟨a,l⟩:=wo (R / 4) (show(0:Int)<24 by lia) (show(0:Int)<6 by lia)
 have ax:=wm (R / 4) (show(0:Int)<24 by lia) (show(0:Int)<6 by lia)
 rw[<- d]at a l ax;have c:0<36-(w.2-w.1):=by lia
 have t:=a.1;have u:=a.2.1;have v:=a.2.2;have x:=uJ (R / 9) (show 36-(w.2-w.1)≠0 by lia)
 have z:=sD (R / 9) c;have f:=RL (wR 1) (show(24:Int)<=36 by lia) a
 obtain⟨A,n,o,dc⟩:=ae8 k (R / 4);obtain⟨p,hw,q⟩:=ae9 R;have h:∀{g:cF},l7 1 24 g->∀X∈[g],l7 1 24 X:=λY X s=>by rw[fy.mp s];exact Y
 by_cases e:R % 4=1
 ·refine⟨.hK w,dK rfl rfl λaD b=>?_,f,h a⟩
  unfold Cq
  exists b,ax,eF,hq,iN,h5,VI.rZ c,decide_eq_true e
  fail "q"
 ·by_cases j:R % 4 > 1
  ·refine⟨.gv p A w (1+R / 9 % (36-(w.2-w.1)),1+R / 9 % (36-(w.2-w.1))+(w.2-w.1)),dK rfl rfl λaD b=>?_,⟨hw,o,dc,f,⟨by simp only;lia,by simp only;lia,by simp only;lia⟩,by simp only;lia⟩,h a⟩
   unfold Cq
   exists b,ax,eF,hq,iN,h5,VI.rZ c,decide_eq_false e,decide_eq_true j,q,n
   fail "q"
  ·refine⟨.aU,dK rfl rfl λaD b=>?_,trivial,λw d=>by cases d⟩
   unfold Cq
   exists b,ax,eF,hq,iN,h5,VI.rZ c,decide_eq_false e,decide_eq_false j
   fail "q"
theorem afa (q:Int):∃p,p∈mN/\df (.az .aM [.d [112,108,117,115],.d [108,101,115,115],.d [116,105,109,101,115]]) (.c (q % 3))=.f (.d p):=by
 rcases(show q % 3=0\/q % 3=1\/q % 3=2 by lia)with e |e |e
 ·exact⟨[112,108,117,115],by decide,by rw[e];rfl⟩
 ·exact⟨[108,101,115,115],by decide,by rw[e];rfl⟩
 exact⟨[116,105,109,101,115],by decide,by rw[e];rfl⟩
def I9 (C:Int)(p:hJ):Prop:=l7 (25+3*C) (27+3*C) p.1/\(l7 1 24 p.2.1\/∃h:Int,0<=h/\h<C/\l7 (25+3*h) (27+3*h) p.2.1)/\p.2.2.1∈mN/\l7 1 24 p.2.2.2
theorem afb (y:Int){C:Int}(m:0<=C)(bw:C<=3):∃p:hJ,HZ.b4 [.c y,.c C]=.f (cb p)/\I9 C p:=by
 obtain⟨h,_⟩:=wo (y / 3) (show(0:Int)<24 by lia) (show(0:Int)<6 by lia)
 have ax:=wm (y / 3) (show(0:Int)<24 by lia) (show(0:Int)<6 by lia)
 obtain⟨c,_⟩:=wo (y / 5) (show(0:Int)<24 by lia) (show(0:Int)<3 by lia)
 have a:=wm (y / 5) (show(0:Int)<24 by lia) (show(0:Int)<3 by lia)
 generalize cx (y / 3) 24 6=w at h ax
 generalize cx (y / 5) 24 3=g at c a
 obtain⟨p,hw,d⟩:=afa (y / 4);have j:l7 (25+3*C) (27+3*C) (25+3*C,25+3*C+y % 3):=⟨by simp only;lia,by simp only;lia,by simp only;lia⟩
 have e:oj (.c 3) (.c C)=.f (.c (3*C)):=B_ (by lia) (by lia)
 by_cases G:C > 0/\y / 2 % 3=1
 ·have k:=uJ (y / 7) (show C≠0 by lia)
  have l:=sD (y / 7) G.1;refine⟨((25+3*C,25+3*C+y % 3),(25+3*(y / 7 % C),25+3*(y / 7 % C)+y / 11 % 3),p,g),dK rfl rfl λaD b=>?_,j,.inr ⟨y / 7 % C,k,l,by simp only;lia,by simp only;lia,by simp only;lia⟩,hw,c⟩
  unfold HY;have aR:oj (.c 3) (.c (y / 7 % C))=.f (.c (3*(y / 7 % C))):=B_ (by lia) (by lia)
  exists b,e,aR,ax,a,eF,hq,decide_eq_true G.1,decide_eq_true G.2,VI.rZ G.1,d
  fail "q"
 ·refine⟨((25+3*C,25+3*C+y % 3),w,p,g),dK rfl rfl λaD b=>?_,j,.inl h,hw,c⟩
  unfold HY;by_cases f:C > 0
  ·exists b,e,ax,a,eF,hq,decide_eq_true f,decide_eq_false (λq=>G ⟨f,q⟩:¬y / 2 % 3=1),uD,d
   fail "q"
  ·exists b,e,ax,a,eF,hq,decide_eq_false f,JJ,d
   fail "q"
theorem RR {y m:Nat} {e:VI.aZ}(a:ab.length=y)(b:aq.lZ ab=ag)(Y:aN.a_ aI (aj ab) body (ab.map D++gy m i)=.f (.eT t) e):cy aI y m body ab=.f t ab:=by
 unfold cy;rw[if_pos a,Y];show b8.f t _=_
 rw[yB b]
theorem afc (a:eM)(a8 aE:eR):lx (dR a) a8 aE=.f (ao .c (fU a a8 aE)):=by
 show g4 _=_
 unfold fU ao;rw[cE,<- List.map_drop,<- List.map_take,gT];rfl
theorem afd (s:List aP)(a8 aE:eR):(fU s a8 aE).length<=s.length:=by
 unfold fU;rw[l9,qZ];lia
def Dd (p:cF):Prop:=1<=p.1/\p.1<=40/\1<=p.2/\p.2<=36
structure De (dj:p3)(P:List hI)(br:fs)(a:qO)(o b:fs):Prop where
 g_:P.length<=8
 c3:∀N∈P,l7 1 24 N.1/\r4 dj N
 k4:br.length<=6
 b5:∀w∈br,l7 1 24 w
 l5:a.length<=4
 c8:∀(O:Nat) p,a[O]?=D p->I9 O p
 sl:o.length<=4
 cj:∀w∈o,fw w
 b6:(b.map (·.2)).Nodup
 uo:∀p∈b,Dd p
theorem Df {P:aP->Prop}{s:List aP}(Y:∀X∈s,P X)(b:P S):∀X∈s++[S],P X:=λX a=>by
 rcases hu.mp a with a |a
 ·exact Y X a
 rwa[fy.mp a]
theorem afe {P:Nat->aP->Prop}{s:List aP}(Y:∀(O:Nat) X,s[O]?=D X->P O X)(b:P s.length S):∀(O:Nat) X,(s++[S])[O]?=D X->P O X:=λO X a=>by
 by_cases aE:O<s.length
 ·rw[ux aE]at a;exact Y O X a
 ·have:O=s.length:=by have:=(ia.mp a).1;simp at this;lia
  simp_all
def g6 (P:List hI)(br:fs)(a:qO)(o b:fs):aq:=.az .aM [ao cU P,ao av br,ao cb a,ao av o,ao av b]
def qU (a:Int)(b:Int):Nat:=ju.getD ((a+b*b*(1+a % 7)) % 37).toNat 0
theorem RS {O:Int}(b:0<=O)(af:O<37):df (.d ju) (.c O)=.f (.d [ju.getD O.toNat 0])/\ju.getD O.toNat 0∈ju:=by
 obtain⟨y,rfl⟩:=wN b;have a  := by show y<37;lia
 rw[nv,gx a];refine⟨?_,si a⟩;show Mo.ei ju.length (Mo.fj _)=_
 rw[B8 (by lia) (gx _)];rfl
abbrev e_ (a:eM)(b:Int)(v:aq)(c d e f g:m5):VI.aZ:=[D (dR a),D (.d ju),D (.c b),D v,c,d,e,f,g]
local macro_rules|`(tactic|fail "sk")=>`(tactic|(rw[jD (by exists e_, jg, wQ, decide_false)];show bX (aN.a_ aI _ (_ :: _) _) _))
local macro_rules|`(tactic|fail "sl")=>`(tactic|(rw[jD (by exists e_, jg, wQ, decide_false)];show bX (aN.a_ aI _ [] _) _))
local macro_rules|`(tactic|fail "tk")=>`(tactic|(rw[nS (by exists e_, jg, wQ, decide_true)];show bX (aN.a_ aI _ (_ :: _) _) _))
theorem aff {E:b8 VI.aZ fN}(Y:∀a:fN->VI.aZ->Prop,(∀A e,o A e->a A e)->bX E a):bX E o:=Y o λ_ _ G=>G
theorem afg (m:eM)(au:m.length<=63):∃dj:Int->Nat,(∀R,dj R∈ju)/\∃P br h o a,yI.b4 [dR m]=.f (g6 P br h o a)/\De dj P br h o a:=by
 refine⟨qU (m.getD 3 0),λR=>(RS (by lia) (by lia)).2,?_⟩
 generalize ab:m.getD 3 0=j
 have ac:∀aD:Nat->Bool,(∀O,aD O=aA)->bX (aN.a_ aI aD Cr ([dR m].map D++gy 8 i)) λA _=>∃P br h o a,A=.eT (g6 P br h o a)/\De (qU j) P br h o a:=λaD s=>by
  unfold Cr;rw[eZ (t:=.d ju) (by exists s;rfl) (s _)]
  have L:=Dc m 3;rw[ab]at L;show bX (aN.a_ aI aD _ [D (dR m),D (.d ju),i,i,i,i,i,i,i]) _
  rw[eZ (t:=.c j) (by exists s,show uc.b4 [dR m,.c 3]=_ from L) (s _)]
  show bX (aN.a_ aI aD _ [D (dR m),D (.d ju),D (.c j),i,i,i,i,i,i]) _
  rw[eZ (t:=g6 [] [] [] [] []) (by rw[k0];exact hp (t:=g6 [] [] [] [] []) _ rfl) (s _)]
  show bX (aN.a_ aI aD _ (e_ m j (g6 [] [] [] [] []) i i i i i)) _
  have aw:=afd m (D 4) (D 67);refine ua (s:=fU m (D 4) (D 67)) (enc:=λR=>[.c R]) (t:=ao .c (fU m (D 4) (D 67))) (λt e=>∃P br h o a Q M J v u,e=e_ m j (g6 P br h o a) Q M J v u/\a.length<=t.length/\De (qU j) P br h o a) (by exists adj,afc) Cm (h2 _ _) ⟨[],[],[],[],[],i,i,i,i,i,rfl,cZ _,by decide,(λN s=>by cases s),by decide,(λN s=>by cases s),by decide,(λO p Y=>by simp at Y),by decide,(λN s=>by cases s),DG,λN s=>by cases s⟩ (λt R E e ae U=>?_) (λe U=>?_)
  ·obtain⟨P,br,h,o,a,Q,M,J,v,u,rfl,ah,Y⟩:=U
   have ay:t.length<63:=by have:=congrArg mb ae;simp at this;lia
   refine⟨e_ m j (g6 P br h o a) (D (.c R)) M J v u,(by exists s,e_),?_⟩
   rw[eZ (t:=.c (R % 5)) (by exists e_) (s _)]
   show bX (aN.a_ aI aD _ (e_ m j (g6 P br h o a) (D (.c R)) (D (.c (R % 5))) J v u)) _
   rw[eZ (t:=.c (R / 5)) (by exists e_) (s _)]
   show bX (aN.a_ aI aD _ (e_ m j (g6 P br h o a) (D (.c R)) (D (.c (R % 5))) (D (.c (R / 5))) v u)) _
   refine aff λV e3=>?_
   have F:∀{P br h o a} {v u:m5},a.length<=t.length+1->De (qU j) P br h o a->bX (aN.a_ aI aD [] (e_ m j (g6 P br h o a) (D (.c R)) (D (.c (R % 5))) (D (.c (R / 5))) v u)) V:=λaf ai=>by
    rw[nr];exact⟨_,_,rfl,e3 _ _ (.inl ⟨.inl rfl,_,_,_,_,_,_,_,_,_,_,rfl,by rw[dm];exact af,ai⟩)⟩
   have I:∀{b c1:cK}{X:H},(H.aW aI (e_ m j (g6 P br h o a) (D (.c R)) (D (.c (R % 5))) (D (.c (R / 5))) v u) X).aC fO=.f ag->bX (aN.a_ aI aD (.ef X [.cont] b::c1) (e_ m j (g6 P br h o a) (D (.c R)) (D (.c (R % 5))) (D (.c (R / 5))) v u)) V:=λak=>by
    rw[nS ak]
    exists s
    exact⟨_,_,rfl,e3 _ _ (.inl ⟨.inr rfl,_,_,_,_,_,_,_,_,_,_,rfl,by rw[dm];lia,Y⟩)⟩
   rcases(show R % 5=0\/R % 5=1\/R % 5=2\/R % 5=3\/R % 5=4 by lia)with z |z |z |z |z<;>rw[z]at F I ⊢
   ·have x:df (g6 P br h o a).bM (.c 0)=.f (.aL (ao cU P)):=rfl
    have y:df (.az .aM [.c 8,.c 6,.c 4,.c 4,.c 36]) (.c 0)=.f (.c 8):=rfl;by_cases G:(P.length:Int) ≥ 8
    ·exact I (by exists e_,x,y,decide_eq_true G)
    ·rw[jD (by exists e_,x,y,decide_eq_false G)]
     show bX (aN.a_ aI aD (_::_) _) _
     fail "tk"
     have ax:=wm (R / 5) (show(0:Int)<24 by lia) (show(0:Int)<5 by lia)
     obtain⟨B,K⟩:=wo (R / 5) (show(0:Int)<24 by lia) (show(0:Int)<5 by lia)
     generalize cx (R / 5) 24 5=w at ax B K
     obtain⟨W,Z,al⟩:=B;rw[eZ (t:=av w) (by exists e_,ax,hq) (s _)]
     show bX (aN.a_ aI aD (_::_) (e_ m j (g6 P br h o a) (D (.c R)) (D (.c 0)) (D (.c (R / 5))) (D (av w)) u)) _
     have am:Bq [.c w.1,.c (w.2+1)]=.f ((gF w.1 (w.2+1-w.1).toNat).map .c):=by
      show Mo.ea _ _=_
      rw[Mo.mu (by lia)]
     have ec:H.aW aI (e_ m j (g6 P br h o a) (D (.c R)) (D (.c 0)) (D (.c (R / 5))) (D (av w)) u) (.ek ["_law_at"] [("_law_signs",1),("_law_seed",2)] .bW [(.O (.v 7) 0),(.aY .dA (.O (.v 7) 1) (.y 1))] ⟨aA,[0]⟩ i (.aY .fq (.v 1) (.aY .es (.aY .dA (.v 2) (.aY .mE (.aY .mE (.v 0) (.v 0)) (.aY .dA (.y 1) (.aY .es (.v 2) (.y 7))))) (.y 37))))=.f (ao .d (((gF w.1 (w.2+1-w.1).toNat).map (qU j)).map λX=>[X])):=by
      rw[iM (w:=λC:Int=>[qU j C]) (A:=.d) (T:=λO:Int=>[.c O]) (items:=(gF w.1 (w.2+1-w.1).toNat).map .c) (gF w.1 (w.2+1-w.1).toNat) rfl (by exists e_,eF,iN,h5,am) (h2 _ _) (λC z=>?_) (by rw[pf];lia)]
      ·rw[gT];rfl
      ·have z:=Mn.mp z
       have aR:oj (.c C) (.c C)=.f (.c (C*C)):=B_ (by lia) (by lia)
       have aB:oj (.c (C*C)) (.c (1+j % 7))=.f (.c (C*C*(1+j % 7))):=adz (by lia) (by lia)
       have L:=(RS (O:=(j+C*C*(1+j % 7)) % 37) (by lia) (by lia)).1
       exists e_,aR,aB,L
       rfl
     have an:((gF w.1 (w.2+1-w.1).toNat).map (qU j)).length<=1000:=by rw[cE,pf];lia
     rw[eZ (t:=.d ((gF w.1 (w.2+1-w.1).toNat).map (qU j))) (by exists h1,ec,lD,RO an) (s _)]
     generalize ap:(gF w.1 (w.2+1-w.1).toNat).map (qU j)=n
     show bX (aN.a_ aI aD (_::_) (e_ m j (g6 P br h o a) (D (.c R)) (D (.c 0)) (D (.c (R / 5))) (D (av w)) (D (.d n)))) _
     rw[ji (i3 (A:=.dE) (V:=(3,[0])) (R:=ao cU P) (ab:=[cU (w,n)]) rfl rfl rfl (ht (by exists e_,eF,hq;rfl)) (jE (g:=cU) (by lia)))]
     show bX (aN.a_ aI aD (_::_) (e_ m j (g6 (P++[(w,n)]) br h o a) (D (.c R)) (D (.c 0)) (D (.c (R / 5))) (D (av w)) (D (.d n)))) _
     fail "sk"
     fail "sk"
     fail "sk"
     fail "sl"
     exact F (by lia) {Y with g_:=by rw[dm];show _+1<=8;lia,c3:=Df Y.c3 ⟨⟨W,Z,al⟩,⟨W,Z,by show w.2<=36;lia⟩,ap.symm⟩}
   ·have x:df (g6 P br h o a).bM (.c 1)=.f (.aL (ao av br)):=rfl
    have y:df (.az .aM [.c 8,.c 6,.c 4,.c 4,.c 36]) (.c 1)=.f (.c 6):=rfl;by_cases G:(br.length:Int) ≥ 6
    ·exact I (by exists e_,x,y,decide_eq_true G)
    ·rw[jD (by exists e_,x,y,decide_eq_false G)]
     show bX (aN.a_ aI aD (_::_) _) _
     fail "sk"
     fail "tk"
     have ax:=wm (R / 5) (show(0:Int)<24 by lia) (show(0:Int)<4 by lia)
     obtain⟨B,K⟩:=wo (R / 5) (show(0:Int)<24 by lia) (show(0:Int)<4 by lia)
     generalize cx (R / 5) 24 4=w at ax B K
     rw[ji (i3 (A:=.dE) (V:=(3,[1])) (R:=ao av br) (ab:=[av w]) rfl rfl rfl (ht (by exists e_,ax,eF,hq)) (jE (g:=av) (by lia)))]
     show bX (aN.a_ aI aD (_::_) (e_ m j (g6 P (br++[w]) h o a) (D (.c R)) (D (.c 1)) (D (.c (R / 5))) v u)) _
     fail "sk"
     fail "sk"
     fail "sl"
     exact F (by lia) {Y with k4:=by rw[dm];show _+1<=6;lia,b5:=Df Y.b5 B}
   ·have x:df (g6 P br h o a).bM (.c 2)=.f (.aL (ao cb h)):=rfl
    have y:df (.az .aM [.c 8,.c 6,.c 4,.c 4,.c 36]) (.c 2)=.f (.c 4):=rfl;by_cases G:(h.length:Int) ≥ 4
    ·exact I (by exists e_,x,y,decide_eq_true G)
    ·rw[jD (by exists e_,x,y,decide_eq_false G)]
     show bX (aN.a_ aI aD (_::_) _) _
     fail "sk"
     fail "sk"
     fail "tk"
     obtain⟨p,ax,hw⟩:=afb (R / 5) (C:=(h.length:Int)) (by lia) (by lia)
     have aB:df (g6 P br h o a).bM (.c 2)=.f (.aL (ao cb h)):=rfl;rw[ji (i3 (A:=.dE) (V:=(3,[2])) (R:=ao cb h) (ab:=[cb p]) rfl rfl rfl (ht (by exists e_,aB,ax,qP,Cj)) (jE (g:=cb) (by lia)))]
     show bX (aN.a_ aI aD (_::_) (e_ m j (g6 P br (h++[p]) o a) (D (.c R)) (D (.c 2)) (D (.c (R / 5))) v u)) _
     fail "sk"
     fail "sl"
     exact F (by lia) {Y with l5:=by rw[dm];show _+1<=4;lia,c8:=afe Y.c8 hw}
   ·have x:df (g6 P br h o a).bM (.c 3)=.f (.aL (ao av o)):=rfl
    have y:df (.az .aM [.c 8,.c 6,.c 4,.c 4,.c 36]) (.c 3)=.f (.c 4):=rfl;by_cases G:(o.length:Int) ≥ 4
    ·exact I (by exists e_,x,y,decide_eq_true G)
    ·rw[jD (by exists e_,x,y,decide_eq_false G)]
     show bX (aN.a_ aI aD (_::_) _) _
     fail "sk"
     fail "sk"
     fail "sk"
     fail "tk"
     have ax:=wm (R / 5) (show(0:Int)<36 by lia) (show(0:Int)<8 by lia)
     obtain⟨B,K⟩:=wo (R / 5) (show(0:Int)<36 by lia) (show(0:Int)<8 by lia)
     generalize cx (R / 5) 36 8=w at ax B K
     rw[ji (i3 (A:=.dE) (V:=(3,[3])) (R:=ao av o) (ab:=[av w]) rfl rfl rfl (ht (by exists e_,ax,eF,hq)) (jE (g:=av) (by lia)))]
     show bX (aN.a_ aI aD (_::_) (e_ m j (g6 P br h (o++[w]) a) (D (.c R)) (D (.c 3)) (D (.c (R / 5))) v u)) _
     fail "sl"
     exact F (by lia) {Y with sl:=by rw[dm];show _+1<=4;lia,cj:=Df Y.cj (RL (wR 1) (wR 36) B)}
   ·have x:df (g6 P br h o a).bM (.c 4)=.f (.aL (ao av a)):=rfl
    have y:df (.az .aM [.c 8,.c 6,.c 4,.c 4,.c 36]) (.c 4)=.f (.c 36):=rfl;by_cases G:(a.length:Int) ≥ 36
    ·exact I (by exists e_,x,y,decide_eq_true G)
    ·rw[jD (by exists e_,x,y,decide_eq_false G)]
     show bX (aN.a_ aI aD (_::_) _) _
     fail "sk"
     fail "sk"
     fail "sk"
     fail "sk"
     have az:a.length<63:=by lia
     have ec:H.aW aI (e_ m j (g6 P br h o a) (D (.c R)) (D (.c 4)) (D (.c (R / 5))) v u) (.ek ["_law_wire"] [] .dw [(.O (.v 3) 4)] ⟨aA,[0]⟩ i (.O (.v 0) 1))=.f (ao .c (a.map (·.2))):=by
      rw[iM (w:=λp:cF=>p.2) (A:=.c) (T:=λp:cF=>[av p]) (items:=a.map av) a rfl (by exists e_,x) (h2 _ _) (λp hw=>by exists eF,h5) (by lia)]
     by_cases q:1+R / 5 / 40 % 36∈a.map (·.2)
     ·rw[jD (by exists e_,jg,wQ,decide_true,ec,P6,decide_eq_true q,uD)]
      exact F (by lia) Y
     ·rw[nS (by exists e_,jg,wQ,decide_true,ec,P6,decide_eq_false q,uE)]
      show bX (aN.a_ aI aD (_::_) _) _
      rw[ji (i3 (A:=.dE) (V:=(3,[4])) (R:=ao av a) (ab:=[av (1+R / 5 % 40,1+R / 5 / 40 % 36)]) rfl rfl rfl (ht (by exists e_;rfl)) (jE (g:=av) (by lia)))]
      show bX (aN.a_ aI aD [] (e_ m j (g6 P br h o (a++[(1+R / 5 % 40,1+R / 5 / 40 % 36)])) (D (.c R)) (D (.c 4)) (D (.c (R / 5))) v u)) _
      refine F (by rw[dm];show _+1<=_;lia) {Y with b6:=?_,uo:=Df Y.uo ⟨by simp only;lia,by simp only;lia,by simp only;lia,by simp only;lia⟩}
      rw[iQ,zk];exact⟨Y.b6,q2.mpr ⟨gJ,DG⟩,λS aa b ar e=>q (by have:=fy.mp ar;rw[e,this]at aa;exact aa)⟩
  ·obtain⟨P,br,h,o,a,Q,M,J,v,u,rfl,ah,Y⟩:=U
   exists s
   exact⟨_,_,rfl,P,br,h,o,a,rfl,Y⟩
 have as:yI=cy aI 1 8 Cr:=rfl;obtain⟨A,e,af,P,br,h,o,a,rfl,ai⟩:=ac (aj [dR m]) (Hw rfl);exact⟨P,br,h,o,a,by rw[as];exact Hx (RR rfl rfl af),ai⟩
def nu (p:cF):cF:=(p.2,p.1)
def pR (a:fs):List cF:=(kR qt (a.map nu)).map nu
theorem RT:∀s:fs,vK (s.map av)=D s
 |[]=>rfl|p::s=>by
  rw[eW];unfold vK;rw[RT s];rfl
theorem afh {s:fs}(Y:s.length<=36):GB [ao av s]=.f (ao av (kR qt s)):=by
 show(match vK _ with |some a=>GA a |none=>.aU)=_
 rw[RT];show Mo.ea _ _=_
 rw[Mo.mu (by lia)];rfl
theorem afi (a:fs):(pR a).Perm a:=by
 have Y:=(AY qt (a.map nu)).map nu;rw[gT]at Y;exact Y.trans (by rw[show(nu∘nu)=id from rfl,wG])
theorem RU [DecidableEq aP]:∀{j aV:List aP},j.Nodup->(∀X∈j,X∈aV)->j.length<=aV.length
 |[],_,_,_=>mc _|X::j,aV,a,b=>by
  rw[q2]at a;have Y:=RU  (aV:=aV.erase X) a.2 λq d=>(List.mem_erase_of_ne λe=>a.1 (by simp_all)).mpr (b q (f5 _ d))
  have c:=b X eI;rw[List.length_erase_of_mem c]at Y;have:=List.length_pos_of_mem c;rw[ew];lia
theorem RV {a:fs}(b:(a.map (·.2)).Nodup)(Y:∀p∈a,Dd p):a.length<=36:=by
 have:=RU (aV:=gF 1 36) b λX c=>by
  obtain⟨p,hw,rfl⟩:=fk.mp c;have:=Y p hw;exact Mn.mpr ⟨this.2.2.1,by have:=this.2.2.2;lia⟩
 rwa[cE]at this
theorem afj {a:fs}(f:(a.map (·.2)).Nodup)(Y:∀p∈a,Dd p):pQ (pR a):=by
 have d:=afi a;refine⟨by rw[d.length_eq];exact RV f Y,λp hw=>Y p (d.mem_iff.mp hw),?_⟩
 unfold pR;rw[uA];have y:((kR qt (a.map nu)).map (·.1)).Nodup:=by
  rwa[((AY qt _).map _).nodup_iff,gT]
 refine((ME (MG rx rx) _).and (uA.mp y)).imp λ{S b} ⟨c,g⟩=>?_
 show S.1<b.1
 unfold tr at c;rw[if_neg λe=>g e.symm]at c
 have:=of_decide_eq_false (c);lia
def e7 (w:cF):cF:=(37-w.2,37-w.1)
def j7 (N:hI):hI:=(e7 N.1,N.2.reverse)
def jH (p:hJ):hJ:=(e7 p.1,e7 p.2.1,p.2.2.1,e7 p.2.2.2)
def uq:k3->k3
 |.aU=>.aU|.hK w=>.hK (e7 w)|.gv p y w g=>.gv p y (e7 w) g
theorem y4 (w:cF):H0.b4 [av w]=.f (av (e7 w)):=by
 refine dK rfl rfl λaD a=>?_
 unfold Qe
 exists a,iN,h5
 fail "q"
def lF (z:Bool)(w:cF):Prop:=w.1<=w.2/\(if z then 13<=w.1/\w.2<=36 else 1<=w.1/\w.2<=24)
def gU (z:Bool)(C:Int)(w:cF):Prop:=w.1<=w.2/\(if z then 10-3*C<=w.1/\w.2<=12-3*C else 25+3*C<=w.1/\w.2<=27+3*C)
def Dg (z:Bool)(C:Int)(p:hJ):Prop:=gU z C p.1/\(lF z p.2.1\/∃h:Int,0<=h/\h<C/\gU z h p.2.1)/\p.2.2.1∈mN/\lF z p.2.2.2
theorem wq {w:cF}(Y:l7 1 24 w):lF aA w:=⟨Y.2.1,Y.1,Y.2.2⟩
theorem RW {C:Int}{w:cF}(Y:l7 (25+3*C) (27+3*C) w):gU aA C w:=⟨Y.2.1,Y.1,Y.2.2⟩
theorem afk {C:Int}{p:hJ}(Y:I9 C p):Dg aA C p:=⟨RW Y.1,Y.2.1.imp wq λ⟨h,S,b,R⟩=>⟨h,S,b,RW R⟩,Y.2.2.1,wq Y.2.2.2⟩
theorem I_ {z:Bool}{w:cF}(Y:lF z w):fw w:=by
 obtain⟨af,ai⟩:=Y;cases z<;>simp at ai<;>exact⟨by lia,af,by lia⟩
theorem RX {z:Bool}{C:Int}{w:cF}(Y:gU z C w)(a:0<=C)(b:C<=3):fw w:=by
 obtain⟨af,ai⟩:=Y;cases z<;>simp at ai<;>exact⟨by lia,af,by lia⟩
theorem wt {w:cF}(Y:lF aA w):lF ag (e7 w):=by
 unfold lF at Y ⊢;unfold e7;lia
theorem RY {C:Int}{w:cF}(Y:gU aA C w):gU ag C (e7 w):=by
 unfold gU at Y ⊢;unfold e7;lia
theorem Dh {w:cF}(Y:fw w):fw (e7 w):=by
 unfold fw e7 at *;lia
theorem afl {C:Int}{p:hJ}(Y:Dg aA C p):Dg ag C (jH p):=⟨RY Y.1,Y.2.1.imp wt λ⟨h,S,b,R⟩=>⟨h,S,b,RY R⟩,Y.2.2.1,wt Y.2.2.2⟩
theorem afm (S:Int)(y:Nat)(g:p3):((gF S y).map g).reverse=(gF (37-(S+y-1)) y).map λR=>g (37-R):=by
 apply DD;intro O;by_cases Y:O<y
 ·rw[List.getElem?_reverse (by rwa[cE,pf]),cE,pf]
  unfold gF;rw[gT,gT,gS,gS,DB (by lia),DB Y]
  show D (g (S+(y-1-O:Nat)))=D (g (37-(37-(S+y-1)+O)))
  congr 2;lia
 rw[zg (by rw[Jp,cE,pf];lia),zg (by rw[cE,pf];lia)]
theorem afn (Y:r4 dj N):r4 (λR=>dj (37-R)) (j7 N):=by
 obtain⟨af,ai⟩:=Y;refine⟨Dh af,?_⟩;obtain⟨a,b,c⟩:=af;show N.2.reverse=(gF (37-N.1.2) (37-N.1.1+1-(37-N.1.2)).toNat).map _
 rw[ai,afm,show(37-N.1.1+1-(37-N.1.2)).toNat=(N.1.2+1-N.1.1).toNat by lia]
 congr 2;lia
theorem afo (Y:oF t m):oF t (uq m):=by
 cases m with
 |aU=>trivial|hK w=>exact Dh Y|gv p y w g=>
  obtain⟨af,ai,bw,a,b,c⟩:=Y;exact⟨af,ai,bw,Dh a,b,by show 37-w.1-(37-w.2)=g.2-g.1;lia⟩
theorem afp (Y:∀w∈(jh m).take 1,lF aA w):∀w∈(jh (uq m)).take 1,lF ag w:=by
 cases m with
 |aU=>exact λw b=>by cases b
 |hK w=>exact λX a=>by rw[fy.mp a];exact wt (Y w (fy.mpr rfl))
 |gv p y w g=>exact λX a=>by rw[fy.mp a];exact wt (Y w (fy.mpr rfl))
theorem afq {z:Bool}{C:Int}{S w:cF}(Y:gU z C S)(d:0<=C)(e:C<=3)(a:lF z w):uh S w=ag:=by
 obtain⟨f,b⟩:=Y;obtain⟨g,c⟩:=a;unfold uh;cases z<;>simp at b c ⊢<;>lia
theorem RZ {z:Bool}{C h:Int}{S w:cF}(Y:gU z C S)(a:gU z h w)(b:h≠C):uh S w=ag:=by
 obtain⟨c,d⟩:=Y;obtain⟨e,f⟩:=a;unfold uh;grind
theorem R0 {aP:Type}{j:List aP}{V:Int×aP}(Y:V∈mx j):∃O:Nat,V.1=(O:Int)/\j[O]?=D V.2:=by
 obtain⟨O,aE⟩:=uz Y;rw[Fi]at aE;cases a:j[O]? with
 |none=>simp_all|some X=>rw[a]at aE;cases aE;exact⟨O,rfl,a⟩
structure Di (z:Bool)(dj:p3)(P:List hI)(br:fs)(a:qO)(o b:fs):Prop where
 g_:P.length<=8
 c3:∀N∈P,lF z N.1/\r4 dj N
 k4:br.length<=6
 b5:∀w∈br,lF z w
 l5:a.length<=4
 c8:∀(O:Nat) p,a[O]?=D p->Dg z O p
 sl:o.length<=4
 cj:∀w∈o,fw w
 b6:(b.map (·.2)).Nodup
 uo:∀p∈b,Dd p
theorem afr {z:Bool}{dj:p3}{P:List hI}{br:fs}{f:qO}{o l:fs}{y:bt}{m:k3}{d g:Int}(s:∀R,dj R∈ju)(Y:Di z dj P br f o l)(t:nX y)(u:oF y m)(a:∀w∈(jh m).take 1,lF z w)(v:0<=d/\d<=3/\d<=br.length)(x:1<=g/\g<=12):il ⟨y,P,m,br,f,d,o,g,pR l⟩:=by
 have j:=afj Y.b6 Y.uo;have n:∀{O:Nat}{p:hJ},f[O]?=D p->(O:Int)<=3:=λ{O p} e=>by have:=(ia.mp e).1;have:=Y.l5;lia
 refine⟨t,Y.g_,⟨dj,s,λN k=>(Y.c3 N k).2⟩,u,Y.k4,λw a=>I_ (Y.b5 w a),Y.l5,λp hw=>?_,v,Y.sl,Y.cj,x,j.s,⟨j.E,j.z⟩,λV A w a=>?_⟩
 ·obtain⟨O,aE⟩:=uz hw
  obtain⟨c,dc,eK,B⟩:=Y.c8 O p aE;have:=n aE;exact⟨RX c (by lia) this,dc.elim I_ λ⟨h,S,b,R⟩=>RX R S (by lia),I_ B,eK⟩
 ·obtain⟨C,e,q⟩:=R0 A
  obtain⟨c,_⟩:=Y.c8 C _ q;have F:=n q;rw[e]at a;have E:∀{w},lF z w->uh V.2.1 w=ag:=λY=>afq c (by lia) F Y
  unfold mj at a;rcases hu.mp a with a |a
  ·rcases hu.mp a with a |a
   ·rcases hu.mp a with a |G
    ·obtain⟨N,k,rfl⟩:=fk.mp a;exact E (Y.c3 N k).1
    ·exact E (‹∀w∈(jh m).take 1,lF z w› w G)
   ·exact E (Y.b5 w a)
  ·obtain⟨dq,I,a⟩:=DF.mp a
   obtain⟨O,J,aE⟩:=R0 I;obtain⟨K,dI,_,L⟩:=Y.c8 O _ aE;unfold oh at a;rcases hu.mp a with a |a
   ·split at a
    ·cases a
    ·rename_i M
     rw[fy.mp a];exact RZ c K (by rw[<- J];exact M)
   ·split at a
    ·rename_i Q
     rcases dn.mp a with rfl |a
     ·rcases dI with dI |⟨h,T,U,dI⟩
      ·exact E dI
      ·exact RZ c dI (by lia)
     ·rw[fy.mp a];exact E L
    ·cases a
def eP (r:eB):aq:=.az .aM [.d r.dP,.aL (ao cU r.c3),c9 r.cB,.aL (ao av r.b5),.aL (ao cb r.c8),.c r.cP,.aL (ao av r.cj),.c r.dC,.aL (ao av r.b6)]
theorem Dj (r:eB):(eP r).el=aA:=by
 unfold eP;rw[aq.el];rfl
theorem R1:∀s:qO,ij ⟨ag,[11,12,13,14]⟩ (s.map cb)=D (s.map λp:hJ=>[av p.1,av p.2.1,.d p.2.2.1,av p.2.2.2])
 |[]=>rfl|p::s=>by rw[eW,ij,R1 s];rfl
abbrev bu (a:eM)(b:Int)(y:gi)(m:k3)(c:Int)(d e f g:aq)(h:fs)(n:VI.aZ):VI.aZ:=D (dR a)::D (.c b)::D (.d y)::D (c9 m)::D (.c c)::D d::D e::D f::D g::D (.aL (ao av h))::n
theorem R2 (a:∀O,aD O=aA) {y:bt} {P:List hI}(e:d5.bM=.aL (ao cU P))(b:d6.bM=.aL (ao av br))(j:d7.bM=.aL (ao cb ε))(k:d8.bM=.aL (ao av o))(s:br.length<=6)(n:γ.length<=36):bX (aN.a_ aI aD (nW.drop 6) (bu ns c0 y m δ d5 d6 d7 d8 γ [o10,o11,o12,o13,o14,o15,i,i])) λA _=>A=.eT (eP ⟨y,P,m,br,ε,δ % (min 3 (br.length:Int)+1),o,1+δ / 4 % 12,pR γ⟩)\/False:=by
 unfold nW;simp only[sg,oQ];have q:0<min 3 (br.length:Int)+1:=by lia
 have aR:H.aW aI (bu ns c0 y m δ d5 d6 d7 d8 γ [o10,o11,o12,o13,o14,o15,i,i]) (.ek ["_law_wire"] [] .dw [(.v 9)] ⟨aA,[0]⟩ i (.bb [(.O (.v 0) 1),(.O (.v 0) 0)]))=.f (ao av (γ.map nu)):=by
  rw[iM (w:=nu) (A:=av) (T:=λp:cF=>[av p]) (items:=γ.map av) γ rfl (by exists bu,mM) (h2 _ _) (λp hw=>by exists eF,h5,iN;rfl) (by lia)]
 have aB:H.aW aI (bu ns c0 y m δ d5 d6 d7 d8 γ [o10,o11,o12,o13,o14,o15,i,i]) (.ek ["_law_there", "_law_here"] [] .dw [(.dX .tN [(.ek ["_law_wire"] [] .dw [(.v 9)] ⟨aA,[0]⟩ i (.bb [(.O (.v 0) 1),(.O (.v 0) 0)]))])] ⟨ag,[0,1]⟩ i (.bb [(.v 1),(.v 0)]))=.f (ao av (pR γ)):=by
  rw[iM (w:=nu) (A:=av)  (items:=(kR qt (γ.map nu)).map av) (kR qt (γ.map nu)) rfl (by exists aR,afh (s:=γ.map nu) (by rw[cE];exact n)) (Cn (g:=λp:cF=>.c p.1) (Y:=λp:cF=>.c p.2) _ _ _) (λp hw=>by exists eF;rfl) (by rw[(AY _ _).length_eq,cE];lia)]
  rfl
 rw[eZ (t:=ao av (pR γ)) (by rw[k0,aB];exact hp _ jf) (a _)]
 rw[eZ (t:=.c (δ % (min 3 (br.length:Int)+1))) (by exists bu,b,VI.rZ q) (a _)]
 have c:=Dj ⟨y,P,m,br,ε,δ % (min 3 (br.length:Int)+1),o,1+δ / 4 % 12,pR γ⟩;unfold eP at c ⊢
 exists bu,(oI _),e,b,j,k,t_ _ c
 exact⟨_,_,rfl,.inl rfl⟩
theorem afs (b:eM)(L:b.length<=63):∃r,Cs.b4 [dR b]=.f (eP r)/\il r:=by
 obtain⟨dj,ac,P,br,a,o,k,au,Y⟩:=afg b L;have ae:=Dc b 0;have ah:=Dc b 1;have ak:=Dc b 2
 generalize b.getD 0 0=x0 at ae
 generalize b.getD 1 0=x1 at ah
 generalize b.getD 2 0=x2 at ak
 have I:=ae5 (x0 / 2);have M:=RQ (x0 / 2)
 generalize cV (x0 / 2)=y at I M
 obtain⟨m,al,am,u⟩:=ae_ M x1;have an:=RV Y.b6 Y.uo;have ap:(c9 m).bM=c9 m:=oI _;have aw:(c9 m).el=ag:=yY _;have J:Di aA dj P br a o k:=⟨Y.g_,λN j=>⟨wq (Y.c3 N j).1,(Y.c3 N j).2⟩,Y.k4,λw u=>wq (Y.b5 w u),Y.l5,λO p e=>afk (Y.c8 O p e),Y.sl,Y.cj,Y.b6,Y.uo⟩
 have S:∀{z:Bool}{dj:p3}{P:List hI}{br:fs}{a:qO}{o:fs}{m:k3},(∀R,dj R∈ju)->Di z dj P br a o k->oF y m->(∀w∈(jh m).take 1,lF z w)->il ⟨y,P,m,br,a,x2 % (min 3 (br.length:Int)+1),o,1+x2 / 4 % 12,pR k⟩:=λ{z dj P br a o m} af ai bw ax=>by
  have ay:0<=x2 % (min 3 (br.length:Int)+1):=uJ _ (by lia)
  have lP:x2 % (min 3 (br.length:Int)+1)<min 3 (br.length:Int)+1:=sD _ (by lia)
  exact afr af ai M bw ax ⟨ay,by lia,by lia⟩ ⟨by lia,by lia⟩
 have az:∃r,il r/\∀aD:Nat->Bool,(∀O,aD O=aA)->bX (aN.a_ aI aD nW ([dR b].map D++gy 17 i)) λA _=>A=.eT (eP r)\/False:=by
  have bI:∀aD:Nat->Bool,(∀O,aD O=aA)->aN.a_ aI aD nW ([dR b].map D++gy 17 i)=aN.a_ aI aD (nW.drop 5) (bu b x0 y m x2 (.aL (ao cU P)) (.aL (ao av br)) (.aL (ao cb a)) (.aL (ao av o)) k [i,i,i,i,i,i,i,i]):=λaD j=>by
   unfold nW;show aN.a_ aI aD _ [D (dR b),i,i,i,i,i,i,i,i,i,i,i,i,i,i,i,i,i]=_
   rw[eZ (t:=.c x0) (by exists j,show uc.b4 [dR b,.c 0]=_ from ae) (j _)]
   show aN.a_ aI aD _ [D (dR b),D (.c x0),i,i,i,i,i,i,i,i,i,i,i,i,i,i,i,i]=_
   rw[eZ (t:=.d y) (by exists j,I) (j _)]
   show aN.a_ aI aD _ [D (dR b),D (.c x0),D (.d y),i,i,i,i,i,i,i,i,i,i,i,i,i,i,i]=_
   rw[eZ (t:=c9 m) (by exists j,show uc.b4 [dR b,.c 1]=_ from ah,al,aw) (j _)]
   show aN.a_ aI aD _ [D (dR b),D (.c x0),D (.d y),D (c9 m),i,i,i,i,i,i,i,i,i,i,i,i,i,i]=_
   rw[eZ (t:=.c x2) (by exists j,show uc.b4 [dR b,.c 2]=_ from ak) (j _)]
   show aN.a_ aI aD _ [D (dR b),D (.c x0),D (.d y),D (c9 m),D (.c x2),i,i,i,i,i,i,i,i,i,i,i,i,i]=_
   rw[Ri (aR:=bu b x0 y m x2 (.aL (ao cU P)) (.aL (ao av br)) (.aL (ao cb a)) (.aL (ao av o)) k [i,i,i,i,i,i,i,i]) (by
    have aT:H.aW aI [D (dR b),D (.c x0),D (.d y),D (c9 m),D (.c x2),i,i,i,i,i,i,i,i,i,i,i,i,i] (.b0 yI "_law_drawn" [(.v 0)])=.f (g6 P br a o k):=by exists au
    rw[aN.f7];show BW aD _ (fb (H.aW aI _ _) _ [0])=_
    rw[aT,hp (t:=g6 P br a o k) _ (by show aq.lr [_,_,_,_,_]=ag;simp only[Ca,jf,Cb,uE])]
    show(match jt aD _ [5,6,7,8,9] [ao cU P,ao av br,ao cb a,ao av o,ao av k]with |some aC=>b8.f fN.dx aC |none=>.aU)=_
    rw[show jt aD [D (dR b),D (.c x0),D (.d y),D (c9 m),D (.c x2),i,i,i,i,i,i,i,i,i,i,i,i,i] [5,6,7,8,9] [ao cU P,ao av br,ao cb a,ao av o,ao av k]=D (bu b x0 y m x2 (.aL (ao cU P)) (.aL (ao av br)) (.aL (ao cb a)) (.aL (ao av o)) k [i,i,i,i,i,i,i,i]) by exists j,bu])]
   rfl
  by_cases ar:x0 % 2=1
  ·have aE:Di ag (λR=>dj (37-R)) (P.map j7) (br.map e7) (a.map jH) (o.map e7) k:=⟨by rw[cE];exact Y.g_,λN j=>by
     obtain⟨V,K,rfl⟩:=fk.mp j;exact⟨wt (J.c3 V K).1,afn (J.c3 V K).2⟩,by rw[cE];exact Y.k4,λw u=>by
     obtain⟨V,K,rfl⟩:=fk.mp u;exact wt (J.b5 V K),by rw[cE];exact Y.l5,λO p e=>by
     rw[gS]at e;cases U:a[O]? with
     |none=>rw[U]at e;cases e|some X=>rw[U]at e;cases e;exact afl (J.c8 O X U),by rw[cE];exact Y.sl,λw u=>by
     obtain⟨V,K,rfl⟩:=fk.mp u;exact Dh (Y.cj V K),Y.b6,Y.uo⟩
   refine⟨_,S (λR=>ac _) aE (afo am) (afp λw Z=>wq (u w Z)),λaD j=>?_⟩
   rw[bI aD j];unfold nW;simp only[sg,oQ];rw[nS (by exists bu,jg,decide_eq_true ar)]
   show bX (aN.a_ aI aD (_::_) _) _
   have as:H.aW aI (bu b x0 y m x2 (.aL (ao cU P)) (.aL (ao av br)) (.aL (ao cb a)) (.aL (ao av o)) k [i,i,i,i,i,i,i,i]) (.ek ["_law_field_here", "_law_text"] [] .dw [(.v 5)] ⟨ag,[0,1]⟩ i (.bb [(qL [(.v 0)]),(.m_ .qu (.v 1))]))=.f (ao cU (P.map j7)):=by
    rw[iM (w:=j7) (A:=cU) (T:=λN:hI=>[av N.1,.d N.2]) (items:=P.map cU) P rfl (by exists bu,mM) (Cn (g:=λN:hI=>av N.1) (Y:=λN:hI=>.d N.2) _ _ _) (λN j=>?_) (by have:=Y.g_;lia)]
    obtain⟨⟨aL,aM,aO⟩,aF⟩:=(J.c3 N j).2;have L:N.2.length<=36:=by rw[aF,cE,pf];lia
    have e:ou.w .qu N.2=.f (.d N.2.reverse):=by show Mo.ei _ _=_;rw[Mo.mr (by lia)]
    have aB:lu (.d N.2)=.f N.2:=rfl
    exists y4,eF,IX,aB,e
    rfl
   rw[eZ (t:=ao cU (P.map j7)) (by rw[k0,as];exact hp _ jf) (j _)]
   have aa:∀(x:VI.aZ) (O:Nat) (s:fs),fo x O=.f (.aL (ao av s))->s.length<=36->H.aW aI x (.ek ["_law_field_here"] [] .dw [(.v O)] ⟨aA,[0]⟩ i (qL [(.v 0)]))=.f (ao av (s.map e7)):=λx O s aG L=>by
    rw[iM (w:=e7) (A:=av) (T:=λp:cF=>[av p]) (items:=s.map av) s rfl (by exists aG) (h2 _ _) (λp hw=>by exists eF,y4) (by lia)]
   have aH:=Y.k4;have aP:=Y.sl;have aQ:=Y.l5;show bX (aN.a_ aI aD (_::_) (bu b x0 y m x2 (ao cU (P.map j7)) (.aL (ao av br)) (.aL (ao cb a)) (.aL (ao av o)) k [i,i,i,i,i,i,i,i])) _
   rw[eZ (t:=ao av (br.map e7)) (by rw[k0,aa _ 6 br rfl (by lia)];exact hp _ jf) (j _)]
   show bX (aN.a_ aI aD (_::_) (bu b x0 y m x2 (ao cU (P.map j7)) (ao av (br.map e7)) (.aL (ao cb a)) (.aL (ao av o)) k [i,i,i,i,i,i,i,i])) _
   rw[eZ (t:=ao av (o.map e7)) (by rw[k0,aa _ 8 o rfl (by lia)];exact hp _ jf) (j _)]
   show bX (aN.a_ aI aD (_::_) (bu b x0 y m x2 (ao cU (P.map j7)) (ao av (br.map e7)) (.aL (ao cb a)) (ao av (o.map e7)) k [i,i,i,i,i,i,i,i])) _
   rw[eZ (t:=ao cb []) (by rw[k0];exact hp (t:=ao cb []) _ jf) (j _)]
   show bX (aN.a_ aI aD (_::_) (bu b x0 y m x2 (ao cU (P.map j7)) (ao av (br.map e7)) (.aL (ao cb a)) (ao av (o.map e7)) k [D (ao cb []),i,i,i,i,i,i,i])) _
   refine ua (s:=a) (enc:=λp:hJ=>[av p.1,av p.2.1,.d p.2.2.1,av p.2.2.2]) (t:=.aL (ao cb a)) (λt e=>∃v B F G,e=bu b x0 y m x2 (ao cU (P.map j7)) (ao av (br.map e7)) (.aL (ao cb a)) (ao av (o.map e7)) k [D (ao cb (t.map jH)),v,B,F,G,i,i,i]) (by exists bu,mM) (by exists B9,Cm) (R1 a) ⟨_,_,_,_,rfl⟩ (λt p E e aJ ab=>?_) (λe ab=>?_)
   ·obtain⟨v,B,F,G,rfl⟩:=ab
    have aV:t.length<4:=by have:=congrArg mb aJ;simp at this;lia
    refine⟨bu b x0 y m x2 (ao cU (P.map j7)) (ao av (br.map e7)) (.aL (ao cb a)) (ao av (o.map e7)) k [D (ao cb (t.map jH)),D (av p.1),D (av p.2.1),D (.d p.2.2.1),D (av p.2.2.2),i,i,i],(by exists j,bu),?_⟩
    rw[ji (i3 (A:=.dE) (V:=(10,[])) (R:=ao cb (t.map jH)) (ab:=[cb (jH p)]) rfl rfl rfl (ht (by exists bu,y4,eF,hq;rfl)) (jE (g:=cb) (by rw[cE];lia))),nr]
    exact⟨_,_,rfl,.inl ⟨.inl rfl,_,_,_,_,by rw[iQ];rfl⟩⟩
   ·obtain⟨v,B,F,G,rfl⟩:=ab
    show bX (aN.a_ aI aD (_::_) _) _
    rw[kZ (t:=.aL (ao cb (a.map jH))) (e:=bu b x0 y m x2 (ao cU (P.map j7)) (ao av (br.map e7)) (.aL (ao cb a)) (ao av (o.map e7)) k [D (.aL (ao cb (a.map jH))),v,B,F,G,i,i,i]) (by exists bu) (j _) (by show 7<18;lia)]
    show bX (aN.a_ aI aD (_::_) (bu b x0 y m x2 (ao cU (P.map j7)) (ao av (br.map e7)) (.aL (ao cb (a.map jH))) (ao av (o.map e7)) k [D (.aL (ao cb (a.map jH))),v,B,F,G,i,i,i])) _
    have iU:=λo15=>R2 (ns:=b) j (c0:=x0) (δ:=x2) (y:=y) (m:=uq m) (P:=P.map j7) (br:=br.map e7) (ε:=a.map jH) (d5:=ao cU (P.map j7)) (d6:=ao av (br.map e7)) (d7:=.aL (ao cb (a.map jH))) (d8:=ao av (o.map e7)) (o:=o.map e7) (o10:=D (.aL (ao cb (a.map jH)))) (o11:=v) (o12:=B) (o13:=F) (o14:=G) (o15:=o15) rfl rfl rfl rfl (by rw[cE];exact aH) an
    have I:∀{E:b8 VI.aZ fN}{o15},E=aN.a_ aI aD (nW.drop 6) (bu b x0 y (uq m) x2 (ao cU (P.map j7)) (ao av (br.map e7)) (.aL (ao cb (a.map jH))) (ao av (o.map e7)) k [D (.aL (ao cb (a.map jH))),v,B,F,G,o15,i,i])->bX E λA _=>A=.eT (eP ⟨y,P.map j7,uq m,br.map e7,a.map jH,x2 % (min 3 ((br.map e7).length:Int)+1),o.map e7,1+x2 / 4 % 12,pR k⟩)\/False:=λ{E o15} e=>by rw[e];exact iU o15
    unfold nW at I;simp only[sg,oQ]at I;clear iU bI aa as al S;cases m with
    |aU=>
     rw[jD (by exists bu;rfl)]
     exact I (o15:=i) rfl
    |hK w=>
     rw[nS (by exists bu;rfl)]
     show bX (aN.a_ aI aD (_::_) _) _
     rw[eZ (t:=.c 1) (by exists bu;rfl) (j _)]
     show bX (aN.a_ aI aD (_::_) (bu b x0 y (.hK w) x2 (ao cU (P.map j7)) (ao av (br.map e7)) (.aL (ao cb (a.map jH))) (ao av (o.map e7)) k [D (.aL (ao cb (a.map jH))),v,B,F,G,D (.c 1),i,i])) _
     have aR:df (c9 (.hK w)) (.c 1)=.f (av w):=rfl;rw[eZ (t:=c9 (uq (.hK w))) (by exists bu,ap,aR,eF,y4;rfl) (j _)]
     exact I (o15:=D (.c 1)) rfl
    |gv p C w g=>
     rw[nS (by exists bu;rfl)]
     show bX (aN.a_ aI aD (_::_) _) _
     rw[eZ (t:=.c 2) (by exists bu;rfl) (j _)]
     show bX (aN.a_ aI aD (_::_) (bu b x0 y (.gv p C w g) x2 (ao cU (P.map j7)) (ao av (br.map e7)) (.aL (ao cb (a.map jH))) (ao av (o.map e7)) k [D (.aL (ao cb (a.map jH))),v,B,F,G,D (.c 2),i,i])) _
     have aR:df (c9 (.gv p C w g)) (.c 2)=.f (av w):=rfl;rw[eZ (t:=c9 (uq (.gv p C w g))) (by exists bu,ap,aR,eF,y4;rfl) (j _)]
     exact I (o15:=D (.c 2)) rfl
  ·refine⟨_,S ac J am λw Z=>wq (u w Z),λaD j=>?_⟩
   rw[bI aD j];have:=R2 (ns:=b) j (c0:=x0) (δ:=x2) (y:=y) (m:=m) (P:=P) (br:=br) (ε:=a) (d5:=.aL (ao cU P)) (d6:=.aL (ao av br)) (d7:=.aL (ao cb a)) (d8:=.aL (ao av o)) (o:=o) (o10:=i) (o11:=i) (o12:=i) (o13:=i) (o14:=i) (o15:=i) rfl rfl rfl rfl Y.k4 an;refine cast (congrArg (λE=>bX E _) ?_) this
   unfold nW;simp only[sg,oQ];rw[jD (by exists bu,jg,decide_eq_false ar)]
   rfl
 obtain⟨r,aK,C⟩:=az;refine⟨r,?_,aK⟩;have u:Cs=cy aI 1 17 nW:=rfl;obtain⟨A,e,af,rfl |ai⟩:=C (aj [dR b]) (Hw rfl)
 ·rw[u];exact Hx (RR rfl rfl af)
 ·exact ai.elim
def g7 (E:gj):cF:=(E.1.1+E.2,E.1.2+E.2)
def gR (E:gj):aq:=.az .aM [av E.1,av (g7 E)]
def h9 (a3:kr):aq:=.az .aM (a3.map gR)
theorem Dk (a3:kr):(h9 a3).bM=.aL (h9 a3):=rfl
theorem R3 (E:gj):(aq.aL (gR E)).bM=.aL (gR E):=rfl
theorem aft (X:cF):g7 (X,0)=X:=by unfold g7;simp_all
theorem R4 (X:cF):gR (X,0)=.az .aM [av X,av X]:=by unfold gR;rw[aft]
theorem R5 {a3:kr}(E:gj)(Y:a3.length<100000):qC [h9 a3,gR E]=.f .a9 [h9 (a3++[E]),.e4]:=by
 show(if(a3.map gR).length<cA then _ else _)=_
 rw[cE,if_pos (by have:=lR (y:=a3.length+1) (by lia);lia)];unfold h9;rw[iQ];rfl
theorem afu (a3:kr):pq [h9 a3]=.f (a3.map gR):=rfl
theorem R6:∀s:kr,ij ⟨ag,[4,5]⟩ (s.map gR)=D (s.map λE=>[av E.1,av (g7 E)])
 |[]=>rfl|p::s=>by rw[eW,ij,R6 s];rfl
theorem Ja (s:List aP)(X:aP):dW (s++[X]) (-1)=D X:=by
 have x1:ic (s++[X]).length (-1)=D s.length:=by
  unfold ic;rw[if_neg (by lia),if_pos (by simp;lia),dm,oP]
  congr 1;lia
 unfold dW;rw[x1];show(s++[X])[s.length]?=_
 rw[pV (cZ _),zw];rfl
theorem afv (o:kr)(V:gj):df (h9 (o++[V])) (.c (-1))=.f (.aL (gR V)):=by
 show Mo.fj ((dW ((o++[V]).map gR) (-1)).map aq.bM)=_
 rw[iQ];show Mo.fj ((dW (o.map gR++[gR V]) (-1)).map aq.bM)=_
 rw[Ja];rfl
theorem afw (o:kr)(V:gj):gq ag (h9 (o++[V])) (.az .aM [])=.f (.aQ ag):=by
 refine ub (R:=aA) ?_;show(if((o++[V]).map gR).length=0 then _ else D aA)=_
 rw[if_neg (by simp)]
theorem Dl (S:cF)(X q:Int):gq aA (av S) (.az .bb [.c X,.c q])=.f (.aQ (decide (S=(X,q)))):=by
 have:gq aA (av S) (.az .bb [.c X,.c q])=.f (.aQ (decide (S.1=X) && decide (S.2=q))):=by
  rw[ub (R:=decide (S.1=X) && decide (S.2=q)) ?_]
  ·rfl
  show(((gp 11 (.c _) (.c X)).bind λN=>((gp 11 (.c _) (.c q)).bind λV=>(D ag).map λG=>V && G).map λG=>N && G).map λb=>b && ag)=_
  rw[v7 11,v7 11];simp_all
 rw[this];congr 2;rw[<- Bool.decide_and];exact decide_eq_decide.mpr ⟨λY=>wW Y.1 Y.2,λY=>by rw[Y];trivial⟩
theorem R7 (p:cF)(y:Nat):fx (p,y+1)=fx (p,y)++[(p.1+y+1,p.2+y+1)]:=by
 unfold fx we;rw[JD];grind
theorem Jb (X:cF):fx (X,0)=[X]:=by
 show[(X.1+(0:Nat),X.2+(0:Nat))]=_;simp_all
theorem afx (E:gj):E.1∈fx E:=fk.mpr ⟨0,ma.mpr (by lia),by unfold we;simp_all⟩
theorem afy (E:gj):g7 E∈fx E:=fk.mpr ⟨E.2,ma.mpr (by lia),rfl⟩
theorem Dm {a3:kr}(A:pQ b6)(Y:a3.flatMap fx=b6):∀E∈a3,l6 E:=λE c=>by
 have a:∀p∈fx E,p∈b6:=λp hw=>by rw[<- Y];exact DF.mpr ⟨E,c,hw⟩
 have S:=A.E _ (a _ (afx E));have b:=A.E _ (a _ (afy E));exact⟨S.1,b.2.1,S.2.2.1,b.2.2.2⟩
theorem y5 (a3:kr):a3.length<=(a3.flatMap fx).length:=by
 induction a3 with
 |nil=>exact cZ 0|cons E a3 a=>rw[sh,dm,ew];unfold fx at a ⊢;grind
theorem R8 {R:aq} {n:VI.aZ}:ee.aW aI (D R::D (.az .aM (j++[S]))::n) (.z (.v 1) (.cM (.y 1)))=.f (1,[j.length]):=by
 have x1:ic (j++[S]).length (-1)=D j.length:=by
  unfold ic;rw[if_neg (by lia),if_pos (by simp;lia),dm,oP]
  congr 1;lia
 show(g4 _).aC _=_
 rw[pL,adD,adx];show(g4 _).aC _=_
 show Mo.fj ((tR _ _).map _)=_
 have:tR (.az .aM (j++[S])) (.c (-1))=D j.length:=by
  show(ic _ _).bind _=_
  rw[x1];show(if _ then _ else _)=_;rw[if_pos (by simp)]
 rw[this];rfl
theorem R9 {R:aq} {n:VI.aZ}:en (D R::D (.az .aM (j++[S]))::n) (1,[j.length])=D S:=by
 show(aq.az _ _).at [j.length]=_
 rw[aq.at,(show(j++[S])[j.length]?=D S by simp)];rfl
theorem R_ {R:aq} {n:VI.aZ}:fe (D R::D (.az .aM (j++[S]))::n) (1,[j.length]) b=D R::D (.az .aM (j++[b]))::n:=by
 show D R::D _::n=_
 rw[aq.gE,(show(j++[S])[j.length]?=D S by simp)]
 show D R::D (aq.az _ _)::n=_
 rw[aq.gE,Jo _ _ (cZ _),zw,wA]
theorem Sa (o:kr)(E:gj):h9 (o++[E])=.az .aM (o.map gR++[gR E]):=by unfold h9;rw[iQ];rfl
def y6 (a3:kr)(X:cF):List gj:=match a3.getLast? with
 |some V=>if X=((g7 V).1+1,(g7 V).2+1)then a3.dropLast++[(V.1,V.2+1)]else a3++[(X,0)]
 |none=>[(X,0)]
theorem y7 (o:kr)(V:gj)(X:cF):y6 (o++[V]) X=if X=((g7 V).1+1,(g7 V).2+1)then o++[(V.1,V.2+1)]else o++[V]++[(X,0)]:=by
 unfold y6;rw[List.getLast?_append,List.dropLast_concat];rfl
def h_ (t:fs):List gj:=t.foldl y6 []
theorem wu (t:fs)(X:cF):h_ (t++[X])=y6 (h_ t) X:=by unfold h_;rw[Jv];rfl
theorem pS (t:fs):(h_ t).flatMap fx=t:=by
 have:∀(t:fs) (a3:kr),(t.foldl y6 a3).flatMap fx=a3.flatMap fx++t:=by
  intro t;induction t with
  |nil=>intro a3;simp
  |cons X t a=>
   intro a3;rw[Jz,a,List.append_cons];congr 1;rcases Dx a3 with rfl |⟨o,V,rfl⟩
   ·show fx (X,0)++[]=_;rw[Jb];rfl
   ·rw[Dy,y7]
    split
    ·rename_i R
     rw[pW,pW,n1];congr 1;show fx (V.1,V.2+1)++[]=fx V++[]++[X]
     rw[R7,l_,l_,R];rfl
    ·rw[pW]
     congr 1;show fx (X,0)++[]=_;rw[Jb];rfl
 exact(this t []).trans rfl
theorem afz (A:pQ b6):IA.b4 [.aL (ao av b6)]=.f (.d (ip (h_ b6))):=by
  refine dK rfl rfl λaD b=>?_
  unfold QK;rw[eZ (t:=h9 []) (by rw[k0];exact hp (t:=h9 []) _ rfl) (b _)]
  show bX (aN.a_ aI aD _ [D (.aL (ao av b6)),D (h9 []),i,i,i,i]) _
  have I:=A.s;refine ua (s:=b6) (enc:=λp=>[av p]) (t:=.aL (ao av b6)) (λt e=>∃a3 dc,e=[D (.aL (ao av b6)),D (h9 a3),dc,i,i,i]/\a3=h_ t) (by exists b,mM) (by exists b) (h2 _ _) ⟨[],i,rfl,rfl⟩ (λt X E e j h=>?_) (λe h=>?_)
  ·obtain⟨a3,dc,rfl,f⟩:=h
   have y:t.length<36:=by have:=congrArg mb j;simp at this;lia
   have k:=y5 a3;rw[f,pS,<- f]at k;refine⟨[D (.aL (ao av b6)),D (h9 a3),D (av X),i,i,i],(by exists b),?_⟩
   rcases Dx a3 with rfl |⟨o,V,rfl⟩
   ·have aR:gq ag (h9 []) (.az .aM [])=.f (.aQ aA):=rfl
    rw[jD (by exists Dk,Hy,aR)]
    show bX (aN.a_ aI aD (_::_) _) _
    rw[ji (i3 (A:=.dE) (V:=(1,[])) (R:=h9 []) (ab:=[gR (X,0)]) rfl rfl rfl (ht (by rw[R4];exists eF,hq)) (R5 (a3:=[]) (X,0) (by decide)))]
    show bX (aN.a_ aI aD [] _) _
    rw[nr];exact⟨_,_,rfl,.inl ⟨.inl rfl,[(X,0)],_,rfl,by rw[wu,<- f];rfl⟩⟩
   ·rw[Dy]at *
    have J:o.length<100:=by rw[dm]at k;lia
    have aR:gq ag (h9 (o++[V])) (.az .aM [])=.f (.aQ ag):=afw o V;have aB:df (h9 (o++[V])) (.c (-1))=.f (.aL (gR V)):=afv o V;have m:df (gR V) (.c 1)=.f (av (g7 V)):=rfl;by_cases R:X=((g7 V).1+1,(g7 V).2+1)
    ·rw[nS (by exists Dk,R3,Hy,aR,aB,m,iN,h5,eF,Dl,decide_eq_true R,uE)]
     show bX (aN.a_ aI aD (_::_) _) _
     have z:gR (V.1,V.2+1)=.az .aM [av V.1,av X]:=by
      unfold gR g7;rw[R];unfold g7;simp only[Int.natCast_add,Int.add_assoc];rfl
     have s:rP aI (.z (.v 1) (.cM (.y 1))) (.y 1) (.v 2) [D (.aL (ao av b6)),D (.az .aM (o.map gR++[gR V])),D (av X),i,i,i]=.f .dx (fe [D (.aL (ao av b6)),D (.az .aM (o.map gR++[gR V])),D (av X),i,i,i] (1,[(o.map gR).length]) (gR (V.1,V.2+1))):=by
      rw[z];refine aes (E:=.a9) (eh:=.e4) (qk:=.c 1) (V:=(1,[(o.map gR).length])) (t:=av X) (S:=.c 1) (R:=gR V) (cS:=.az .aM [av V.1,av X]) (by exists eF,hq) R8 (by exists b) R9 ?_
      rfl
     rw[Sa,Ri (by rw[aN.f7];exact s),R_,<- Sa]
     show bX (aN.a_ aI aD [] _) _
     rw[nr];exact⟨_,_,rfl,.inl ⟨.inl rfl,o++[(V.1,V.2+1)],_,rfl,by rw[wu,<- f,y7,if_pos R]⟩⟩
    ·rw[jD (by exists Dk,R3,Hy,aR,aB,m,iN,h5,eF,Dl,decide_eq_false R,uD)]
     show bX (aN.a_ aI aD (_::_) _) _
     rw[ji (i3 (A:=.dE) (V:=(1,[])) (R:=h9 (o++[V])) (ab:=[gR (X,0)]) rfl rfl rfl (ht (by rw[R4];exists eF,hq)) (R5 (a3:=o++[V]) (X,0) (by lia)))]
     show bX (aN.a_ aI aD [] _) _
     rw[nr];exact⟨_,_,rfl,.inl ⟨.inl rfl,o++[V]++[(X,0)],_,rfl,by rw[wu,<- f,y7,if_neg R]⟩⟩
  ·obtain⟨a3,dc,rfl,f⟩:=h
   have w:a3.flatMap fx=b6:=by rw[f,pS]
   have x:=Dm A w;have k:=y5 a3;rw[w]at k;rw[eZ (t:=ao .d []) (by rw[k0];exact hp (t:=ao .d []) _ rfl) (b _)]
   show bX (aN.a_ aI aD _ [D (.aL (ao av b6)),D (h9 a3),dc,D (ao .d []),i,i]) _
   refine HB (aR:=[D (.aL (ao av b6)),D (.aL (h9 a3)),dc,D (ao .d []),i,i]) (s:=a3) (enc:=λE=>[av E.1,av (g7 E)]) (t:=.aL (h9 a3)) (λt e=>∃u v,e=[D (.aL (ao av b6)),D (.aL (h9 a3)),dc,D (ao .d (t.map h7)),u,v]) (by exists b,Dk;rw[t_ _ (show(aq.aL (h9 a3)).el=aA by rw[aq.el];rfl)];rfl) (by exists B9,afu) (R6 a3) ⟨i,i,rfl⟩ (λt X E e j h=>?_) (λe h=>?_)
   ·obtain⟨u,v,rfl⟩:=h
    have y:t.length<36:=by have:=congrArg mb j;simp at this;lia
    have n:=x X (by rw[j];simp)
    have aR:=r7 n.Y;have aB:=r7 n.uk;have K:=(fJ n.Y).1;have L:=(fJ n.uk).1;have m:wb.b4 [(aq.az .bb [.c X.1.1,.c (g7 X).1]).bM]=.f (.d (bH (ku X))):=aR;have s:wb.b4 [(aq.az .bb [.c X.1.2,.c (g7 X).2]).bM]=.f (.d (bH (k5 X))):=aB;have B:iY (.d (bH (ku X))) (.d [62])=.f (.d (bH (ku X)++[62])):=oJ (by simp;lia)
    have C:iY (.d (bH (ku X)++[62])) (.d (bH (k5 X)))=.f (.d (h7 X)):=by rw[oJ (by simp;lia)];unfold h7;simp
    refine⟨[D (.aL (ao av b6)),D (.aL (h9 a3)),dc,D (ao .d (t.map h7)),D (av X.1),D (av (g7 X))],(by exists b),?_⟩
    rw[ji (i3 (A:=.dE) (V:=(3,[])) (R:=ao .d (t.map h7)) (ab:=[.d (h7 X)]) rfl rfl rfl (ht (by exists eF,iN,h5,m,s,B,C)) (jE (g:=.d) (by rw[cE];lia))),nr]
    exact⟨_,_,rfl,.inl ⟨.inl rfl,_,_,by rw[iQ];rfl⟩⟩
   ·obtain⟨u,v,rfl⟩:=h
    have F:km [44,32] [.aL (ao .d (a3.map h7))]=.f (.d (ip a3)):=(show _=km [44,32] [ao .d (a3.map h7)]from rfl).trans <|qQ (by decide) (by rw[cE];lia) (λN b=>by obtain⟨E,G,rfl⟩:=fk.mp b;have:=C4 (x E G);lia)
    exists b,h1,lD,F
    rw[f];exact⟨_,_,rfl,.inl rfl⟩
section
variable {r:eB}
theorem afA:df (eP r) (.c 0)=.f (.d r.dP):=rfl
theorem afB:df (eP r) (.c 1)=.f (.aL (ao cU r.c3)):=rfl
theorem Jc:df (eP r) (.c 2)=.f (c9 r.cB):=by
 show g4 _=_
 rw[oI]
theorem afC:df (eP r) (.c 3)=.f (.aL (ao av r.b5)):=rfl
theorem afD:df (eP r) (.c 4)=.f (.aL (ao cb r.c8)):=rfl
theorem afE:df (eP r) (.c 5)=.f (.c r.cP):=rfl
theorem afF:df (eP r) (.c 6)=.f (.aL (ao av r.cj)):=rfl
theorem afG:df (eP r) (.c 7)=.f (.c r.dC):=rfl
theorem afH:df (eP r) (.c 8)=.f (.aL (ao av r.b6)):=rfl
theorem mP:(aq.aL (eP r)).bM=.aL (eP r):=rfl
end
theorem Sb (R:Nat):∀(s N:gi),N∈fc R s->N.length<=s.length
 |[],N,Y=>by rw[fy.mp Y];exact cZ _
 |t::E,N,Y=>by
  have a:=Sb R E;rw[fc]at Y;rw[ew];by_cases e:t=R
  ·rw[if_pos e]at Y
   grind
  ·rw[if_neg e]at Y
   cases G:fc R E with
   |nil=>exact absurd G (E7 R E)|cons V b=>
    rw[G]at Y a;grind
theorem Sd (R:Nat):∀s:bt,(fc R s).length<=s.length+1
 |[]=>cZ _|t::E=>by
  have a:=Sd R E;rw[fc,ew];by_cases e:t=R
  ·simp_all
  ·rw[if_neg e]
   cases G:fc R E with
   |nil=>exact absurd G (E7 R E)|cons V b=>rw[G]at a;grind
abbrev Dn:=bt ⊕ cF
def oN:Dn->aq
 |.inl p=>.d p|.inr w=>av w
def lG:Dn->bt
 |.inl p=>p|.inr w=>bH w
def jI:k3->List Dn
 |.aU=>[]|.hK w=>[.inl lC,.inr w]|.gv p y w g=>[.inl p,.inl y,.inr w,.inr g]
theorem ur (N:Dn):(oN N).bM=oN N:=by cases N<;>rfl
theorem uu (af:aH.length<=100)(Y:∀p∈aH,p.length<=1000):km [32] [ao .d aH]=.f (.d (eG aH)):=by
 rw[qQ (by decide) (by lia) Y,CZ]
theorem Dp (af:aH.length<=100)(Y:∀p∈aH,p.length<=1000):km [32] [.aL (ao .d aH)]=.f (.d (eG aH)):=uu af Y
abbrev fi (r:eB)(n:gi)(bA:hL)(s:VI.aZ):VI.aZ:=D (.aL (eP r))::D (.d n)::D (ao .d bA)::s
theorem Se:∀s:qO,ij ⟨ag,[8,9,10,11]⟩ (s.map cb)=D (s.map λp:hJ=>[av p.1,av p.2.1,.d p.2.2.1,av p.2.2.2])
 |[]=>rfl|p::s=>by rw[eW,ij,Se s];rfl
theorem Sf {e:VI.aZ}{C:Int}{r:eB}{au:fs}(Y:∀w∈au,fw w)(g:au.length<=100)(a:df (eP r) (.c C)=.f (.aL (ao av au)))(b:fo e 0=.f (.aL (eP r))):H.aW aI e (.eA .iJ (.C (.d [44,32])) [(.ek ["_law_field_here"] [] .dw [(.O (.v 0) C)] ⟨aA,[0]⟩ i (oC [(.v 0)]))])=.f (.d (eO au)):=by
 have ec:H.aW aI e (.ek ["_law_field_here"] [] .dw [(.O (.v 0) C)] ⟨aA,[0]⟩ i (oC [(.v 0)]))=.f (ao .d (au.map bH)):=by
  rw[iM (w:=bH) (A:=.d)  (items:=au.map av) au rfl (by exists b,a) (h2 _ _) (λp hw=>by exists r7 (eu (Y p hw))) (by lia)]
 exists h1,lD,ec,qQ (a:=[44,32]) (aJ:=au.map bH) (by decide) (by rw[cE];lia) (λN c=>by obtain⟨E,d,rfl⟩:=fk.mp c;have:=(fJ (eu (Y E d))).1;lia)
 rfl
theorem Dq {au:fs}(Y:∀w∈au,fw w)(c:au.length<=100):(eO au).length<=1000:=by
 have:=wg [44,32]  _ (λN a=>by obtain⟨E,b,rfl⟩:=fk.mp a;exact(fJ (eu (Y E b))).1)
 rw[cE,show 5+[44,32].length=7 from rfl]at this
 unfold eO;lia
theorem Jd (S b:gi)(y:Nat):fU [S,b] i (D (1+(y:Int)))=if y=0 then[S]else[S,b]:=by
 rw[AS (by lia)]
 cases y with
 |zero=>rfl|succ y=>rw[show(1+((y+1:Nat):Int)).toNat=y+2 by lia];simp
theorem afI {r:eB}{n:bt}(Y:il r)(aF:n.length<=1000):Iz.b4 [.aL (eP r),.d n]=.f (ao .d (dg r n)):=by
 have a5:=Y.g_;have a6:=Y.l5;have a7:=Y.k4;have a8:=Y.sl;have aG:=Y.cV;have a9:=Y.cP;have a_:=Y.dC;have ac:=j6 (y:=r.cP) (by lia) (by lia)
 have ae:=j6 (y:=r.dC) (by lia) (by lia)
 have ba:=ac.1.1;have bb:=ae.1.1;have aH:=Dq Y.b5 (by lia)
 have aJ:=Dq Y.cj (by lia)
 refine dK rfl rfl λaD f=>?_
 unfold r2;show bX (aN.a_ aI aD _ [D (.aL (eP r)),D (.d n),i,i,i,i,i,i,i,i,i,i,i]) _
 rw[eZ (t:=ao .d [eG [k6,r.dP]]) (by
  have aR:iY (.d [116,97,107,101,32]) (.d r.dP)=.f (.d (eG [k6,r.dP])):=by rw[oJ (by have:=aG.2.1;simp;lia)];rfl
  exists mP,afA,aR
  rfl) (f _)]
 show bX (aN.a_ aI aD _ (fi r n [eG [k6,r.dP]] [i,i,i,i,i,i,i,i,i,i])) _
 refine ua (s:=r.c3) (enc:=λN:hI=>[av N.1,.d N.2]) (t:=.aL (ao cU r.c3)) (λt e=>∃eK j,e=fi r n (eG [k6,r.dP]::t.map h8) [eK,j,i,i,i,i,i,i,i,i]) (by exists fi,mP,afB,mM) (by exists B9,Cm;rfl) (Cn (g:=λN:hI=>av N.1) (Y:=λN:hI=>.d N.2) _ _ _) ⟨i,i,rfl⟩ (λt N E e I x=>?_) (λe x=>?_)
 ·obtain⟨eK,j,rfl⟩:=x
  have ah:t.length<8:=by have:=congrArg mb I;simp at this;lia
  have A:=C9 Y N (by rw[I];simp)
  have aK:=(fJ (eu A.w)).1;have aL:=A.s;refine⟨fi r n (eG [k6,r.dP]::t.map h8) [D (av N.1),D (.d N.2),i,i,i,i,i,i,i,i],(by exists f,fi),?_⟩
  obtain⟨u,aR,U⟩:∃u,iY (.d [112,105,99,107,32]) (.d (bH N.1))=.f (.d u)/\u=[112,105,99,107,32]++bH N.1:=⟨_,oJ (by simp;lia),rfl⟩
  obtain⟨v,aB,aj⟩:∃v,iY (.d u) (.d [32])=.f (.d v)/\v=u++[32]:=⟨_,oJ (by rw[U];simp;lia),rfl⟩
  have aM:iY (.d v) (.d (jG N.2))=.f (.d (h8 N)):=by
   rw[oJ (by rw[y2,aj,U];simp;lia),aj,U]
   show _=g4 (aq.d (k7++32::(bH N.1++32::jG N.2)))
   simp[k7]
  have aO:oq N.2 [.d [32]]=.f (ao .d (fc 32 N.2)):=C0 (by lia)
  have aP:km [95] [ao .d (fc 32 N.2)]=.f (.d (jG N.2)):=by
   rw[qQ (by decide) (by have:=Sd 32 N.2;lia) (λV aQ=>by have:=Sb 32 N.2 V aQ;lia),CZ,I1];rfl
  rw[ji (i3 (A:=.dE) (V:=(2,[])) (R:=ao .d (eG [k6,r.dP]::t.map h8)) (ab:=[.d (h8 N)]) rfl rfl rfl (ht (by exists fi,eF,r7 (eu A.w),aR,aB,h1,uj,lD,aO,aP,aM)) (jE (g:=.d) (by rw[ew,cE];lia))),nr]
  exact⟨_,_,rfl,.inl ⟨.inl rfl,_,_,by rw[iQ];rfl⟩⟩
 obtain⟨eK,j,rfl⟩:=x;show bX (aN.a_ aI aD (_::_) _) _
 obtain⟨bA,W⟩:∃bA,bA=eG [k6,r.dP]::r.c3.map h8:=⟨_,rfl⟩;have bc:bA.length<=9:=by rw[W,ew,cE];lia
 rw[<- W]
 suffices d2:∀F s,bX (aN.a_ aI aD (r2.drop 3) (fi r n (bA++hM r.cB) [eK,j,F,s,i,i,i,i,i,i])) λA _=>A=.eT (ao .d (dg r n))\/A=.dx/\ao .d (dg r n)=.a9 by
  unfold r2 at d2;simp only[sg,oQ]at d2;have J:=Y.cB;have aT:∀{m:k3},r.cB=m->m≠.aU->(∀N∈jI m,(lG N).length<=20/\∀w,N=.inr w->fw w)->hM m=[eG ((jI m).map lG)]->(∃X,(c9 m)=.az .bb X)->bX (aN.a_ aI aD (r2.drop 2) (fi r n bA [eK,j,i,i,i,i,i,i,i,i])) λA _=>A=.eT (ao .d (dg r n))\/A=.dx/\ao .d (dg r n)=.a9:=λ{m} z aV ak aW P=>by
   unfold r2;simp only[sg,oQ];have aX:pq [c9 m]=.f ((jI m).map oN):=by cases m<;>first |exact absurd rfl aV |rfl
   have aY:(jI m).length<=4:=by cases m<;>simp[jI]
   rw[nS (by exists fi,mP,Jc,z;obtain⟨X,P⟩:=P;rw[P];rfl)]
   show bX (aN.a_ aI aD (_::_) _) _
   rw[eZ (t:=ao .d []) (by rw[k0];exact hp (t:=ao .d []) _ rfl) (f _)]
   show bX (aN.a_ aI aD (_::_) (fi r n bA [eK,j,D (ao .d []),i,i,i,i,i,i,i])) _
   refine ua (s:=jI m) (enc:=λN=>[oN N]) (t:=c9 m) (λt e=>∃s,e=fi r n bA [eK,j,D (ao .d (t.map lG)),s,i,i,i,i,i,i]) (by exists fi,mP,Jc,z,yY) (by exists aX) (h2 _ _) ⟨i,rfl⟩ (λt N E e I x=>?_) (λe x=>?_)
   ·obtain⟨s,rfl⟩:=x
    have ah:t.length<4:=by have:=congrArg mb I;simp at this;lia
    refine⟨fi r n bA [eK,j,D (ao .d (t.map lG)),D (oN N),i,i,i,i,i,i],(by exists f,fi;rw[ur]),?_⟩
    cases N with
    |inl p=>
     rw[jD (by exists fi,ur;rfl)]
     show bX (aN.a_ aI aD (_::_) _) _
     rw[ji (i3 (A:=.dE) (V:=(5,[])) (R:=ao .d (t.map lG)) (ab:=[.d p]) rfl rfl rfl (ht (by exists fi,ur;rfl)) (jE (g:=.d) (by rw[cE];lia)))]
     show bX (aN.a_ aI aD [] _) _
     rw[nr];exact⟨_,_,rfl,.inl ⟨.inl rfl,_,by rw[iQ];rfl⟩⟩
    |inr w=>
     have of:=(ak (.inr w) (by rw[I];simp)).2 w rfl
     have aZ:wb.b4 [oN (.inr w)]=.f (.d (bH w)):=r7 (eu of);rw[nS (by exists fi,ur;rfl)]
     show bX (aN.a_ aI aD (_::_) _) _
     rw[ji (i3 (A:=.dE) (V:=(5,[])) (R:=ao .d (t.map lG)) (ab:=[.d (bH w)]) rfl rfl rfl (ht (by exists fi,ur,aZ)) (jE (g:=.d) (by rw[cE];lia)))]
     show bX (aN.a_ aI aD [] _) _
     rw[nr];exact⟨_,_,rfl,.inl ⟨.inl rfl,_,by rw[iQ];rfl⟩⟩
   ·obtain⟨s,rfl⟩:=x
    show bX (aN.a_ aI aD (_::_) _) _
    have Z:=Dp (aH:=(jI m).map lG) (by rw[cE];lia) (λp hw=>by obtain⟨N,f,rfl⟩:=fk.mp hw;have:=(ak N f).1;lia)
    rw[ji (i3 (A:=.dE) (V:=(2,[])) (R:=ao .d bA) (ab:=[.d (eG ((jI m).map lG))]) rfl rfl rfl (ht (by exists fi,h1,lD,Z)) (jE (g:=.d) (by lia)))]
    have:=d2 (D (ao .d ((jI m).map lG))) s;rw[z,aW]at this;exact this
  cases z:r.cB with
  |aU=>
   rw[jD (by exists fi,mP,Jc,z;rfl)]
   rw[z]at d2;show bX (aN.a_ aI aD (_::_) _) _
   exact(by simpa [hM]using d2 i i)
  |hK w=>
   rw[z]at J;have J:fw w:=J;refine aT z (by simp) (λN f=>?_) rfl ⟨_,rfl⟩
   rcases dn.mp f with rfl |f
   ·exact⟨by decide,λw e=>by cases e⟩
   ·rw[fy.mp f]
    exact⟨by have:=(fJ (eu J)).1;show(bH w).length<=20;lia,λw e=>by cases e;exact J⟩
  |gv p y w g=>
   rw[z]at J;obtain⟨af,ai,bw,al,am,bd⟩:=J;refine aT z (by simp) (λN f=>?_) rfl ⟨_,rfl⟩
   rcases dn.mp f with rfl |f
   ·exact⟨by rcases af with rfl |rfl<;>decide,λw e=>by cases e⟩
   ·rcases dn.mp f with rfl |f
    ·exact⟨by have:=ai.2.1;show y.length<=20;lia,λw e=>by cases e⟩
    ·rcases dn.mp f with rfl |f
     ·exact⟨by have:=(fJ (eu al)).1;show(bH w).length<=20;lia,λw e=>by cases e;exact al⟩
     ·rw[fy.mp f]
      exact⟨by have:=(fJ (eu am)).1;show(bH g).length<=20;lia,λw e=>by cases e;exact am⟩
 intro F s;unfold r2;simp only[sg,oQ];have aY:(hM r.cB).length<=1:=by cases r.cB<;>simp[hM]
 obtain⟨B,aa⟩:∃S,S=bA++hM r.cB:=⟨_,rfl⟩;have be:B.length<=10:=by rw[aa,dm];lia
 rw[<- aa];have a0:=Sf (e:=fi r n B [eK,j,F,s,i,i,i,i,i,i]) (C:=3) (r:=r) (au:=r.b5) Y.b5 (by lia) rfl rfl
 rw[eZ (t:=.d (eO r.b5)) (by rw[k0,a0];exact hp _ (yC _)) (f _)]
 show bX (aN.a_ aI aD (_::_) (fi r n B [eK,j,F,s,D (.d (eO r.b5)),i,i,i,i,i])) _
 have an:km [32] [ao .d (fU [gw,eO r.b5] i (D (1+(r.b5.length:Int))))]=.f (.d (cX gw r.b5)):=by
  rw[Jd];unfold cX;by_cases G:r.b5=[]
  ·rw[if_pos (show r.b5.length=0 by rw[G];rfl),if_pos G,uu (by decide) (λp hw=>by rw[fy.mp hw];decide)];rfl
  ·rw[if_neg (show¬r.b5.length=0 from λq=>G (Jj q)),if_neg G,uu (by show 2<=100;lia) (λp hw=>by
    rcases dn.mp hw with rfl |hw
    ·decide
    ·rw[fy.mp hw];exact aH)];rfl
 have ap:lx (.az .aM [.d gw,.d (eO r.b5)]) i (D (1+(r.b5.length:Int)))=.f (ao .d (fU [gw,eO r.b5] i (D (1+(r.b5.length:Int))))):=HJ (g:=.d) (s:=[gw,eO r.b5]) _ _;rw[ji (i3 (A:=.dE) (V:=(2,[])) (R:=ao .d B) (ab:=[.d (cX gw r.b5)]) rfl rfl rfl (ht (by unfold gw at an ap ⊢;exists fi,mP,afC,h1,lD,ap,an)) (jE (g:=.d) (by lia)))]
 show bX (aN.a_ aI aD (_::_) (fi r n (B++[cX gw r.b5]) [eK,j,F,s,D (.d (eO r.b5)),i,i,i,i,i])) _
 refine ua (s:=r.c8) (enc:=λp:hJ=>[av p.1,av p.2.1,.d p.2.2.1,av p.2.2.2]) (t:=.aL (ao cb r.c8)) (λt e=>∃F K L M O,e=fi r n (B++[cX gw r.b5]++t.map gI) [eK,j,F,s,D (.d (eO r.b5)),K,L,M,O,i]) (by exists fi,mP,afD,mM) (by exists B9,Cm) (Se r.c8) ⟨_,i,i,i,i,by rw[sm,l_]⟩ (λt p E e I x=>?_) (λe x=>?_)
 ·obtain⟨F,K,L,M,O,rfl⟩:=x
  have ah:t.length<4:=by have:=congrArg mb I;simp at this;lia
  obtain⟨ar,as,au,Q⟩:=Y.c8 p (by rw[I];simp)
  have aK:=(fJ (eu ar)).1;have aL:=(fJ (eu as)).1;have bf:=(fJ (eu au)).1;have bg:p.2.2.1.length<=5:=by
   revert Q
   generalize p.2.2.1=u
   intro Q;unfold mN at Q;simp only[dn,gJ,or_false]at Q;rcases Q with e |e |e<;>rw[e]<;>decide
  refine⟨fi r n (B++[cX gw r.b5]++t.map gI) [eK,j,F,s,D (.d (eO r.b5)),D (av p.1),D (av p.2.1),D (.d p.2.2.1),D (av p.2.2.2),i],(by exists f,fi),?_⟩
  have Z:=Dp (aH:=[lE,bH p.1,[61],bH p.2.1,p.2.2.1,bH p.2.2.2]) (by show 6<=100;lia) (λX P=>by
   simp only[dn,gJ,or_false]at P;rcases P with rfl |rfl |rfl |rfl |rfl |rfl
   ·decide
   ·lia
   ·decide
   ·lia
   ·lia
   ·lia)
  rw[eZ (t:=ao .d [lE,bH p.1,[61],bH p.2.1,p.2.2.1,bH p.2.2.2]) (by exists fi,eF,r7 (eu ar),r7 (eu as),r7 (eu au);rfl) (f _)]
  show bX (aN.a_ aI aD (_::_) (fi r n (B++[cX gw r.b5]++t.map gI) [eK,j,D (ao .d [lE,bH p.1,[61],bH p.2.1,p.2.2.1,bH p.2.2.2]),s,D (.d (eO r.b5)),D (av p.1),D (av p.2.1),D (.d p.2.2.1),D (av p.2.2.2),i])) _
  rw[ji (i3 (A:=.dE) (V:=(2,[])) (R:=ao .d (B++[cX gw r.b5]++t.map gI)) (ab:=[.d (gI p)]) rfl rfl rfl (ht (by exists fi,h1,lD,Z;rfl)) (jE (g:=.d) (by simp;lia))),nr]
  exact⟨_,_,rfl,.inl ⟨.inl rfl,_,_,_,_,_,by rw[iQ,<- n1];rfl⟩⟩
 obtain⟨T,K,L,M,O,rfl⟩:=x;show bX (aN.a_ aI aD (_::_) _) _
 obtain⟨C,ab⟩:∃S,S=B++[cX gw r.b5]++r.c8.map gI:=⟨_,rfl⟩;have bh:C.length<=15:=by rw[ab];simp;lia
 rw[<- ab];have a1:iY (.d [98,114,101,97,107,32]) (.d (cH r.cP))=.f (.d (eG [jj,cH r.cP])):=by rw[oJ (by simp;lia)];rfl
 rw[ji (i3 (A:=.dE) (V:=(2,[])) (R:=ao .d C) (ab:=[.d (eG [jj,cH r.cP])]) rfl rfl rfl (ht (by exists fi,mP,afE,ac.2.1,a1)) (jE (g:=.d) (by lia)))]
 show bX (aN.a_ aI aD (_::_) (fi r n (C++[eG [jj,cH r.cP]]) [eK,j,T,s,D (.d (eO r.b5)),K,L,M,O,i])) _
 have a2:=Sf (e:=fi r n (C++[eG [jj,cH r.cP]]) [eK,j,T,s,D (.d (eO r.b5)),K,L,M,O,i]) (C:=6) (r:=r) (au:=r.cj) Y.cj (by lia) rfl rfl
 rw[eZ (t:=.d (eO r.cj)) (by rw[k0,a2];exact hp _ (yC _)) (f _)]
 show bX (aN.a_ aI aD (_::_) (fi r n (C++[eG [jj,cH r.cP]]) [eK,j,T,s,D (.d (eO r.b5)),K,L,M,O,D (.d (eO r.cj))])) _
 have aw:lx (.az .aM [.d ff,.d (eO r.cj)]) i (D (1+(r.cj.length:Int)))=.f (ao .d (fU [ff,eO r.cj] i (D (1+(r.cj.length:Int))))):=HJ (g:=.d) (s:=[ff,eO r.cj]) _ _;have bi:(fU [ff,eO r.cj] i (D (1+(r.cj.length:Int)))).length<=2:=by rw[Jd];split<;>simp
 have ax:iY (ao .d (fU [ff,eO r.cj] i (D (1+(r.cj.length:Int))))) (.az .aM [.d [105,110],.d (cH r.dC)])=.f (ao .d (fU [ff,eO r.cj] i (D (1+(r.cj.length:Int)))++[[105,110],cH r.dC])):=r1 (g:=.d) (b:=[[105,110],cH r.dC]) (by show _+2<=_;lia)
 have ay:km [32] [ao .d (fU [ff,eO r.cj] i (D (1+(r.cj.length:Int)))++[[105,110],cH r.dC])]=.f (.d (cX ff r.cj++eo++cH r.dC)):=by
  rw[Jd];unfold cX;by_cases G:r.cj=[]
  ·rw[if_pos (show r.cj.length=0 by rw[G];rfl),if_pos G,uu (by show 3<=100;lia) (λp hw=>by
    simp only[dn,hu,gJ,or_false]at hw;rcases hw with rfl |rfl |rfl
    ·decide
    ·decide
    ·lia)];rfl
  ·rw[if_neg (show¬r.cj.length=0 from λq=>G (Jj q)),if_neg G,uu (by show 4<=100;lia) (λp hw=>by
    simp only[dn,hu,gJ,or_false]at hw;rcases hw with(rfl |rfl)|rfl |rfl
    ·decide
    ·exact aJ
    ·decide
    ·lia)]
   show g4 (aq.d (ff++32::(eO r.cj++32::([105,110]++32::cH r.dC))))=_
   simp[eo]
 rw[ji (i3 (A:=.dE) (V:=(2,[])) (R:=ao .d (C++[eG [jj,cH r.cP]])) (ab:=[.d (cX ff r.cj++eo++cH r.dC)]) rfl rfl rfl (ht (by unfold ff at ay aw ax ⊢;exists fi,mP,afF,afG,ae.2.1,h1,lD,aw,ax,ay)) (jE (g:=.d) (by simp;lia)))]
 show bX (aN.a_ aI aD (_::_) (fi r n (C++[eG [jj,cH r.cP]]++[cX ff r.cj++eo++cH r.dC]) [eK,j,T,s,D (.d (eO r.b5)),K,L,M,O,D (.d (eO r.cj))])) _
 have ec:fU [n] i (D (n.length:Int))=if n=[]then[]else[n]:=by
  rw[AS (by lia)]
  cases n with
  |nil=>rfl|cons R n=>rw[if_neg (by simp)];simp
 have a3:lx (.az .aM [.d n]) i (D (n.length:Int))=.f (ao .d (fU [n] i (D (n.length:Int)))):=HJ (g:=.d) (s:=[n]) _ _;have az:iY (.az .aM [.d oL]) (ao .d (fU [n] i (D (n.length:Int))))=.f (ao .d (oL::fU [n] i (D (n.length:Int)))):=r1 (g:=.d) (S:=[oL]) (by rw[ec];split<;>simp)
 have aC:km [32] [ao .d (oL::fU [n] i (D (n.length:Int)))]=.f (.d (iO n)):=by
  rw[ec];unfold iO;split
  ·rw[uu (by decide) (λp hw=>by rw[fy.mp hw];decide)];rfl
  ·rw[uu (by show 2<=100;lia) (λp hw=>by
    rcases dn.mp hw with rfl |hw
    ·decide
    ·rw[fy.mp hw];exact aF)];rfl
 have aE:iY (ao .d (C++[eG [jj,cH r.cP]]++[cX ff r.cj++eo++cH r.dC])) (.az .aM [.d (iO n)])=.f (ao .d (C++[eG [jj,cH r.cP]]++[cX ff r.cj++eo++cH r.dC]++[iO n])):=r1 (g:=.d) (b:=[iO n]) (by simp;lia)
 have a4:C++[eG [jj,cH r.cP]]++[cX ff r.cj++eo++cH r.dC]++[iO n]=dg r n:=by
  rw[ab,aa,W];unfold dg;simp
 rw[a4]at aE;unfold oL at az aC
 exists fi,h1,lD,yX (show n.length<=100000 by lia),a3,az,aC,mM,adu,aE
 fail "q"
theorem afJ (aJ:hF):H.aW aI x (.au aJ)=(H.kV aI x aJ []).aC λs=>.ei s.length (.f (.d s)):=B7
theorem y8 (S:H):H.aW aI x (.hD S)=(S.aW aI x).aC tK:=B7
theorem r9 {s:bt}(Y:s.length<=100000):tK (.d s)=.f (.d s):=by
 show Mo.ei _ _=_;rw[Mo.mr (by lia)]
theorem Sg:∀{aJ:hF}{j:hL}{bA:bt},aJ.map (H.aW aI x)=j.map (λX=>g4 (aq.d X))->(bA++j.flatten).length<=100000->H.kV aI x aJ bA=.f (bA++j.flatten)
 |[],[],bA,_,_=>by rw[H.kV];simp
 |[],_::_,_,Y,_=>by cases Y
 |_::_,[],_,Y,_=>by cases Y
 |N::aJ,X::j,bA,Y,a=>by
  rw[eW,eW]at Y;obtain⟨af,ai⟩:=wU Y;rw[Ju,<- n1]at a ⊢;rw[H.kV,af,pL,VI.adl,pL,Mo.mr (by simp only[dm]at a;lia),Sg ai a]
theorem y9 {x:VI.aZ}{aJ:hF}{j:hL}(Y:aJ.map (H.aW aI x)=j.map λX=>g4 (aq.d X))(a:j.flatten.length<=100000):H.aW aI x (.au aJ)=.f (.d j.flatten):=by
 rw[afJ,Sg Y a,pL,wC,Mo.mr (by lia)]
theorem r_ {w:cF}(Y:nY 40 w):v_.b4 [av w]=.f (.d (bH w)):=by
 obtain⟨af,ai,bw⟩:=id Y;have S:=j6 (y:=w.1) (by lia) (by lia)
 have b:=j6 (y:=w.2) (by lia) (by lia)
 have c:tK (.c w.1)=.f (.d (cH w.1)):=S.2.1;have ki:tK (.c w.2)=.f (.d (cH w.2)):=b.2.1;have d:=S.1.1;have f:=b.1.1;have e:H.aW aI [D (av w),D (.c w.1),D (.c w.2)] (.au [(.hD (.v 1)),(.C (.d [45])),(.hD (.v 2))])=.f (.d (cH w.1++45::cH w.2)):=by
  rw[y9 (j:=[cH w.1,[45],cH w.2]) (by exists y8,c,ki) (by simp;lia)];simp
 refine dK rfl rfl λaD a=>?_
 unfold QA;by_cases R:w.1=w.2
 ·exists a,iN,h5,eF,jg,decide_eq_true R,S.2.1,show bH w=cH w.1 from if_pos R
  fail "q"
 ·exists a,iN,h5,eF,jg,decide_eq_false R
  rw[show bH w=cH w.1++45::cH w.2 from if_neg R]
  exists e
  fail "q"
theorem Sh {au:fs}(Y:∀w∈au,fw w)(c:au.length<=100):CB.b4 [.aL (ao av au)]=.f (.d (eO au)):=by
 refine dK rfl rfl λaD a=>?_
 unfold QD;have ec:H.aW aI [D (.aL (ao av au))] (.ek ["field"] [] .dw [(.v 0)] ⟨aA,[0]⟩ i (pO [(.v 0)]))=.f (ao .d (au.map bH)):=by
  rw[iM (w:=bH) (A:=.d) (T:=λp:cF=>[av p]) (items:=au.map av) au rfl (by exists mM) (h2 _ _) (λp hw=>by exists eF,r_ (eu (Y p hw))) (by lia)]
 exists h1,lD,ec,qQ (a:=[44,32]) (aJ:=au.map bH) (by decide) (by rw[cE];lia) (λN a=>by obtain⟨E,b,rfl⟩:=fk.mp a;have:=(fJ (eu (Y E b))).1;lia)
 exact⟨_,_,rfl,.inl rfl⟩
theorem wx {p n:bt}(Y:p.length+n.length<=10000):qM.b4 [.d p,.d n]=.f (.d (if n=[]then p else p++32::n)):=by
 have e:H.aW aI [D (.d p),D (.d n)] (.au [(.hD (.v 0)),(.C (.d [32])),(.hD (.v 1))])=.f (.d (p++32::n)):=by
  rw[y9 (j:=[p,[32],n]) (by exists y8,r9 (s:=p) (by lia),r9 (s:=n) (by lia)) (by simp;lia)];simp
 refine dK rfl rfl λaD a=>?_
 unfold Qz;by_cases R:n=[]
 ·exists a,l4,decide_eq_true R,if_pos R
  fail "q"
 ·exists a,l4,decide_eq_false R,if_neg R,e
  fail "q"
theorem afK {n:bt}(Y:n.length<=1000):It.b4 [.d n]=.f (.d (jG n)):=by
 refine dK rfl rfl λaD a=>?_
 unfold QB
 exists a,IX,Rz Y
 exact⟨_,_,rfl,.inl rfl⟩
theorem afL {N:hI}(A:C5 N):Iu.b4 [cU N]=.f (.d (h8 N)):=by
 have b:=(fJ (eu A.w)).1;have c:=A.s;have d:=y2 N.2;have e:H.aW aI [D (cU N),D (.d (bH N.1)),D (.d (jG N.2))] (.au [(.C (.d [112,105,99,107,32])),(.hD (.v 1)),(.C (.d [32])),(.hD (.v 2))])=.f (.d (h8 N)):=by
  rw[y9 (j:=[[112,105,99,107,32],bH N.1,[32],jG N.2]) (by exists y8,r9 (s:=bH N.1) (by lia),r9 (s:=jG N.2) (by lia)) (by simp;lia)]
  show _=g4 (aq.d (k7++32::(bH N.1++32::jG N.2)))
  simp[k7]
 refine dK rfl rfl λaD a=>?_
 unfold QC
 exists a,IL,IM,CR,eF,r_ (eu A.w),afK (n:=N.2) (by lia),e
 fail "q"
theorem afM {p:hJ}(A:CW p):Iw.b4 [cb p]=.f (.d (eG [bH p.1,[61],bH p.2.1,p.2.2.1,bH p.2.2.2])):=by
 obtain⟨a,b,c,g⟩:=A;have k:=(fJ (eu a)).1;have l:=(fJ (eu b)).1;have m:=(fJ (eu c)).1;have n:=(I3 g).2;refine dK rfl rfl λaD h=>?_
 unfold QE;rw[eZ (t:=ao .d [bH p.1,[61],bH p.2.1,p.2.2.1,bH p.2.2.2]) (by exists wd,yU,Q1,yV,qP,eF,r_ (eu a),r_ (eu b),r_ (eu c);rfl) (h _)]
 show bX (aN.a_ aI aD (_::_) [D (cb p),D (ao .d [bH p.1,[61],bH p.2.1,p.2.2.1,bH p.2.2.2])]) _
 have j:km [32] [.aL (ao .d [bH p.1,[61],bH p.2.1,p.2.2.1,bH p.2.2.2])]=_:=Dp (by show 5<=100;decide) (λX f=>by
  simp only[dn,gJ,or_false]at f;rcases f with e |e |e |e |e<;>rw[e]<;>first |lia |decide)
 exists h1,lD,j
 fail "q"
theorem afN (b:oF dP m):Iv.b4 [c9 m]=.f (ao .d (hM m)):=by
 refine dK rfl (by cases m<;>rfl) λaD a=>?_
 unfold wa;have aT:∀{m:k3},m≠.aU->(∀N∈jI m,(lG N).length<=20/\∀w,N=.inr w->fw w)->hM m=[eG ((jI m).map lG)]->m7 aA (c9 m) .a9=.f (.aQ aA)->pq [c9 m]=.f ((jI m).map oN)->bX (aN.a_ aI aD wa [D (c9 m),i]) λA _=>A=.eT (ao .d (hM m))\/A=.dx/\ao .d (hM m)=.a9:=λ{m} u c l aE n=>by
  have h:(c9 m).bM=c9 m:=oI _;have v:(jI m).length<=4:=by cases m<;>simp[jI]
  unfold wa;rw[jD (by exists h,aE)]
  show bX (aN.a_ aI aD (_::_) _) _
  have ec:H.aW aI [D (c9 m),i] (.ek ["thing"] [] .dw [(.v 0)] ⟨aA,[0]⟩ i (.jU (.kn (.v 0) "tuple") (pO [(.v 0)]) (.v 0)))=.f (ao .d ((jI m).map lG)):=by
   rw[iM (w:=lG) (A:=.d) (T:=λN=>[oN N]) (items:=(jI m).map oN) (jI m) rfl (by exists h,n) (h2 _ _) (λN q=>?_) (by lia)]
   cases N with
   |inl p=>exists ur;rfl
   |inr w=>
    have s:v_.b4 [oN (.inr w)]=.f (.d (bH w)):=r_ (eu ((c _ q).2 w rfl));have t:ot "tuple" (oN (.inr w))=.f (.aQ ag):=rfl
    exists ur,t,s
    rfl
  rw[eZ (t:=ao .d ((jI m).map lG)) (by rw[k0,ec];exact hp _ jf) (a _)]
  show bX (aN.a_ aI aD (_::_) [D (c9 m),D (ao .d ((jI m).map lG))]) _
  exists h1,lD,Dp (aH:=(jI m).map lG) (by rw[cE];lia) (λp hw=>by obtain⟨N,a,rfl⟩:=fk.mp hw;have:=(c N a).1;lia)
  rw[l];exact⟨_,_,rfl,.inl rfl⟩
 cases m with
 |aU=>exact⟨_,_,rfl,.inl rfl⟩|hK w=>
  have b:fw w:=b;have:=aT (m:=.hK w) (by simp) (λN a=>?_) rfl rfl rfl
  ·unfold wa at this;exact this
  ·rcases dn.mp a with rfl |a
   ·exact⟨by decide,λw e=>by cases e⟩
   ·rw[fy.mp a]
    exact⟨by have:=(fJ (eu b)).1;show(bH w).length<=20;lia,λw e=>by cases e;exact b⟩
 |gv p y w g=>
  obtain⟨af,ai,bw,j,k,x⟩:=b;have:=aT (m:=.gv p y w g) (by simp) (λN a=>?_) rfl rfl rfl
  ·unfold wa at this;exact this
  ·rcases dn.mp a with rfl |a
   ·exact⟨by rcases af with rfl |rfl<;>decide,λw e=>by cases e⟩
   ·rcases dn.mp a with rfl |a
    ·exact⟨by have:=ai.2.1;show y.length<=20;lia,λw e=>by cases e⟩
    ·rcases dn.mp a with rfl |a
     ·exact⟨by have:=(fJ (eu j)).1;show(bH w).length<=20;lia,λw e=>by cases e;exact j⟩
     ·rw[fy.mp a]
      exact⟨by have:=(fJ (eu k)).1;show(bH g).length<=20;lia,λw e=>by cases e;exact k⟩
theorem afO {R t:H}(Y:(R.aW aI x).aC qG=.f aA):aN.a_ aI aD (.qE R t S b::c1) x=aN.a_ aI aD (b++c1) x:=by
 rw[aN.a_,aN.f7,Y,<- yA];rfl
theorem afP {R t:H}(Y:(R.aW aI x).aC qG=.f ag):aN.a_ aI aD (.qE R t S b::c1) x=aN.a_ aI aD (.ef t S b::c1) x:=by
 rw[aN.a_,aN.f7,Y,aN.a_,aN.f7];rfl
theorem afQ (E:gj):fx E=(fW E.2).map (we E)++[g7 E]:=by unfold fx;rw[JD,iQ];rfl
theorem Je (E:gj):dW (fx E) (-1)=D (g7 E):=by rw[afQ,Ja]
theorem afR (E:gj):dW (fx E) 0=D E.1:=by
 unfold fx;rw[Jm,eW];have:∀{aP:Type}(S:aP) (s:List aP),dW (S::s) 0=D S:=λS s=>by unfold dW ic;rw[if_pos (by lia),if_pos (by simp)];rfl
 rw[this];unfold we;rw[show((0:Nat):Int)=0 from rfl,J9,J9]
abbrev kv (E:gj):aq:=ao av (fx E)
def k8 (a3:kr):aq:=.az .aM (a3.map kv)
theorem Dr (a3:kr):(k8 a3).bM=.aL (k8 a3):=rfl
theorem y_ (o:kr)(E:gj):k8 (o++[E])=.az .aM (o.map kv++[kv E]):=by unfold k8;rw[iQ];rfl
theorem Si {a3:kr}(X:cF)(Y:a3.length<100000):qC [k8 a3,ao av [X]]=.f .a9 [k8 (a3++[(X,0)]),.e4]:=by
 have ai:a3.length<cA:=by have:=lR (y:=a3.length+1) (by lia);lia
 show(if(a3.map kv).length<cA then _ else _)=_
 rw[cE,if_pos ai,y_,show kv (X,0)=ao av [X] by unfold kv;rw[Jb]]
theorem afS (A:pQ b6):CC.b4 [.aL (ao av b6)]=.f (k8 (h_ b6)):=by
 have m:=A.s;refine dK rfl rfl λaD b=>?_
 unfold QF;rw[eZ (t:=k8 []) (by rw[k0];exact hp (t:=k8 []) _ rfl) (b _)]
 show bX (aN.a_ aI aD _ [D (.aL (ao av b6)),D (k8 []),i]) _
 refine ua (s:=b6) (enc:=λp=>[av p]) (t:=.aL (ao av b6)) (λt e=>∃a3 dc,e=[D (.aL (ao av b6)),D (k8 a3),dc]/\a3=h_ t) (by exists b,mM) (by exists b) (h2 _ _) ⟨[],i,rfl,rfl⟩ (λt X E e h f=>?_) (λe f=>?_)
 ·obtain⟨a3,dc,rfl,a⟩:=f
  have n:t.length<36:=by have:=congrArg mb h;simp at this;lia
  have g:=y5 a3;rw[a,pS,<- a]at g;refine⟨[D (.aL (ao av b6)),D (k8 a3),D (av X)],(by exists b),?_⟩
  rcases Dx a3 with rfl |⟨o,V,rfl⟩
  ·rw[afO (by exists Dr;rfl)]
   show bX (aN.a_ aI aD (_::_) _) _
   rw[ji (i3 (A:=.dE) (V:=(1,[])) (R:=k8 []) (ab:=[ao av [X]]) rfl rfl rfl (ht (by exists eF,hq;rfl)) (Si (a3:=[]) X (by decide)))]
   show bX (aN.a_ aI aD [] _) _
   rw[nr];exact⟨_,_,rfl,.inl ⟨.inl rfl,[(X,0)],_,rfl,by rw[wu,<- a];rfl⟩⟩
  ·rw[Dy]at *
   have s:o.length<100:=by rw[dm]at g;lia
   have j:qG (.aL (k8 (o++[V])))=.f ag:=by rw[y_];show g4 (!(o.map kv++[kv V]).isEmpty)=_;cases o<;>rfl
   have aB:df (k8 (o++[V])) (.c (-1))=.f (.aL (ao av (fx V))):=by
    rw[y_];show Mo.fj ((dW (o.map kv++[kv V]) (-1)).map aq.bM)=_;rw[Ja];rfl
   rw[afP (by exists Dr;exact j)]
   by_cases R:g7 V=(X.1-1,X.2-1)
   ·rw[nS (by exists Dr,aB,Je,iN,h5,eF,Dl,decide_eq_true R)]
    show bX (aN.a_ aI aD (_::_) _) _
    have cS:X=((g7 V).1+1,(g7 V).2+1):=by rw[R];exact wW (by show X.1=X.1-1+1;lia) (by show X.2=X.2-1+1;lia)
    have k:(fx V).length<100000:=by
     have:=congrArg mb (pS t);rw[<- a,pW,dm]at this;simp at this;lia
    rw[y_,ji (i3 (A:=.dE) (V:=(1,[(o.map kv).length])) (R:=kv V) (ab:=[av X]) R8 R9 rfl (ht (by exists eF,hq)) (jE k)),R_]
    have:ao av (fx V++[X])=kv (V.1,V.2+1):=by
     show ao av _=ao av (fx (V.1,V.2+1));rw[R7,cS];rfl
    rw[this,<- y_];show bX (aN.a_ aI aD [] _) _
    rw[nr];exact⟨_,_,rfl,.inl ⟨.inl rfl,o++[(V.1,V.2+1)],_,rfl,by rw[wu,<- a,y7,if_pos cS]⟩⟩
   ·rw[jD (by exists Dr,aB,Je,iN,h5,eF,Dl,decide_eq_false R)]
    show bX (aN.a_ aI aD (_::_) _) _
    have cS:¬X=((g7 V).1+1,(g7 V).2+1):=λG=>R (wW (by have:=congrArg (·.1) G;show(g7 V).1=X.1-1;simp only at this;lia) (by have:=congrArg (·.2) G;show(g7 V).2=X.2-1;simp only at this;lia))
    rw[ji (i3 (A:=.dE) (V:=(1,[])) (R:=k8 (o++[V])) (ab:=[ao av [X]]) rfl rfl rfl (ht (by exists eF,hq;rfl)) (Si (a3:=o++[V]) X (by lia)))]
    show bX (aN.a_ aI aD [] _) _
    rw[nr];exact⟨_,_,rfl,.inl ⟨.inl rfl,o++[V]++[(X,0)],_,rfl,by rw[wu,<- a,y7,if_neg cS]⟩⟩
 ·obtain⟨a3,dc,rfl,a⟩:=f
  rw[a]
  exists b
  exact⟨_,_,rfl,.inl rfl⟩
theorem afT {E:gj}(A:l6 E):CD.b4 [.aL (kv E)]=.f (.d (h7 E)):=by
 have aR:v_.b4 [(aq.az .bb [.c E.1.1,.c (g7 E).1]).bM]=.f (.d (bH (ku E))):=r_ A.Y;have aB:v_.b4 [(aq.az .bb [.c E.1.2,.c (g7 E).2]).bM]=.f (.d (bH (k5 E))):=r_ A.uk;have c:=(fJ A.Y).1;have d:=(fJ A.uk).1;have a:H.aW aI [D (.aL (kv E)),D (.d (bH (ku E))),D (.d (bH (k5 E)))] (.au [(.hD (.v 1)),(.C (.d [62])),(.hD (.v 2))])=.f (.d (h7 E)):=by
  rw[y9 (j:=[bH (ku E),[62],bH (k5 E)]) (by exists y8,r9 (s:=bH (ku E)) (by lia),r9 (s:=bH (k5 E)) (by lia)) (by simp;lia)]
  unfold h7;simp
 refine dK rfl rfl λaD b=>?_
 unfold QG
 exists mM,afR,Je,eF,iN,h5,aR,aB,b
 exists a
 fail "q"
theorem afU (A:pQ b6):Iy.b4 [.aL (ao av b6)]=.f (.d (ip (h_ b6))):=by
 have b:=Dm A (pS b6);have d:=y5 (h_ b6);rw[pS]at d;have g:=A.s;refine dK rfl rfl λaD c=>?_
 unfold QH;have e:pq [k8 (h_ b6)]=.f ((h_ b6).map kv):=rfl;have ec:H.aW aI [D (.aL (ao av b6))] (.ek ["piece"] [] .dw [(.b0 CC "pieces_of" [(.v 0)])] ⟨aA,[0]⟩ i (.b0 CD "shown_piece" [(.v 0)]))=.f (ao .d ((h_ b6).map h7)):=by
  rw[iM (w:=h7) (A:=.d) (T:=λE=>[kv E]) (items:=(h_ b6).map kv) (h_ b6) rfl (by exists mM,afS A,e) (h2 _ _) (λE a=>by exists adI,afT (b E a)) (by lia)]
 exists h1,lD,ec,qQ (a:=[44,32]) (aJ:=(h_ b6).map h7) (by decide) (by rw[cE];lia) (λN c=>by obtain⟨E,a,rfl⟩:=fk.mp c;have:=C4 (b E a);lia)
 exact⟨_,_,rfl,.inl rfl⟩
theorem za (y:Nat)(s:gi):VI.gp y (.d s) (.d s)=D ag:=by rw[P_];simp
theorem Sj (y:Nat)(O:Int):VI.gp y (.c O) (.c O)=D ag:=by rw[v7];simp
theorem afV (N:hI):VI.gp 10 (cU N) (cU N)=D ag:=yG λt a=>by
 simp only[dn,gJ,or_false]at a;rcases a with rfl |rfl
 ·exact oH _ _
 exact za _ _
theorem afW (N:hJ):VI.gp 10 (cb N) (cb N)=D ag:=yG λt a=>by
 simp only[dn,gJ,or_false]at a;rcases a with rfl |rfl |rfl |rfl
 ·exact oH _ _
 ·exact oH _ _
 ·exact za _ _
 exact oH _ _
theorem zb {g:aP->aq}(Y:∀X,VI.gp 10 (g X) (g X)=D ag)(s:List aP):VI.gp 11 (.aL (ao g s)) (.aL (ao g s))=D ag:=HQ λt a=>by obtain⟨X,_,rfl⟩:=fk.mp a;exact Y X
theorem afX (m:k3):VI.gp 11 (c9 m) (c9 m)=D ag:=by
 cases m with
 |aU=>rfl| hK w=>
   refine yG λt a=>?_
   simp only[dn,gJ,or_false]at a;rcases a with rfl |rfl
   ·rfl
   exact oH _ _
 | gv p y w g=>
   refine yG λt a=>?_
   simp only[dn,gJ,or_false]at a;rcases a with rfl |rfl |rfl |rfl
   ·exact za _ _
   ·exact za _ _
   ·exact oH _ _
   exact oH _ _
theorem Sk (r:eB):VI.gp 12 (eP r) (eP r)=D ag:=by
 refine HQ λt a=>?_
 simp only[dn,gJ,or_false]at a;rcases a with rfl |rfl |rfl |rfl |rfl |rfl |rfl |rfl |rfl
 ·exact za _ _
 ·exact zb afV _
 ·exact afX _
 ·exact zb (oH _) _
 ·exact zb afW _
 ·exact Sj _ _
 ·exact zb (oH _) _
 ·exact Sj _ _
 exact zb (oH _) _
theorem Sl (r:eB):gq aA (eP r) (eP r)=.f (.aQ ag):=(ub  (Sk r)).trans rfl
theorem Sm (A:pQ b6)(Y:∀E∈aJ,l6 E)(a:(aJ.flatMap fx).Perm b6):(ip aJ).length<=900/\(59:Nat)∉ip aJ/\(ip aJ=[]->b6=[])/\(ip aJ≠[]->ue.b4 [.d (ip aJ)]=.f (ao av b6)):=by
 have b:=y5 aJ;have d:=A.s;rw[a.length_eq]at b;refine⟨by have:=Rr Y;lia,I7 (by decide) (λp hw=>by obtain⟨E,c,rfl⟩:=fk.mp hw;exact Rq (Y E c) (by lia) (by lia) (by lia)),λe=>?_,λe=>aeG (λG=>e (by rw[G];rfl)) Y A a⟩
 by_cases G:aJ=[]
 ·rw[G]at a;exact a.symm.eq_nil
 exact absurd e (Ru G)
theorem afY {au:fs}(Y:∀w∈au,fw w)(a:au≠[]):eO au≠[]:=Rt (by simpa using a) λn b=>by
 obtain⟨E,c,rfl⟩:=fk.mp b;exact(fJ (eu (Y E c))).2
theorem Sn {p:bt}{au:fs}(Y:∀w∈au,fw w):(if eO au=[]then p else p++32::eO au)=cX p au:=by
 unfold cX;by_cases G:au=[]
 ·rw[if_pos G,G];rfl
 ·rw[if_neg G,if_neg (afY Y G)]
section
variable {aD:md}{c1:cK}{S:aq}{bA c6:hL}{dc eK:m5}{e:H}{n:bt}
theorem Ds (Y:H.aW aI [D S,D (ao .d bA),dc,eK] e=.f (.d n))(a:bA.length<=100:=by first |decide |lia):aN.a_ aI aD (.aT (.eS .dE (.v 1) [.X e])::c1) [D S,D (ao .d bA),dc,eK]=aN.a_ aI aD c1 [D S,D (ao .d (bA++[n])),dc,eK]:=
 ji (i3 (A:=.dE) (V:=(1,[])) (R:=ao .d bA) (ab:=[.d n]) rfl rfl rfl (ht (by rw[Y];exact hp _ (yC _))) (jE (g:=.d) (by lia)))
theorem Jf (Y:H.aW aI [D S,D (ao .d bA),dc,eK] e=.f (ao .d c6))(a:bA.length+c6.length<=100):aN.a_ aI aD (.aT (.eS .l0 (.v 1) [.X e])::c1) [D S,D (ao .d bA),dc,eK]=aN.a_ aI aD c1 [D S,D (ao .d (bA++c6)),dc,eK]:=
 ji (i3 (A:=.l0) (V:=(1,[])) (R:=ao .d bA) (ab:=[ao .d c6]) rfl rfl rfl (ht (by rw[Y];exact hp _ jf)) (yD (g:=.d) (by lia)))
end
theorem afZ {r:eB}(Y:il r):CE.b4 [.aL (eb r)]=.f (.d (jk r (ip (h_ r.b6)))):=by
 have C:=Y.g_;have E:=Y.l5;have F:=Y.k4;have I:=Y.sl;have c:pQ r.b6:=⟨Y.aQ,Y.b6.1,Y.b6.2⟩;have k:=Y.cV;have J:=Y.cP;have K:=Y.dC;have e:=j6 (y:=r.cP) (by lia) (by lia)
 have m:=j6 (y:=r.dC) (by lia) (by lia)
 have L:=e.1.1;have M:=m.1.1;have O:=Dq Y.b5 (by lia)
 have P:=Dq Y.cj (by lia)
 have w:(c9 r.cB).bM=c9 r.cB:=oI _;obtain⟨x,y,_,_⟩:=Sm c (Dm c (pS r.b6)) (by rw[pS])
 have Q:(hM r.cB).length<=1:=by cases r.cB<;>simp[hM]
 refine dK rfl rfl λaD a=>?_
 unfold QI;have aR:qM.b4 [.d k6,.d r.dP]=.f (.d (eG [k6,r.dP])):=by
  rw[wx (by have:=k.2.1;show 4+r.dP.length<=10000;lia),if_neg (λG=>by have:=k.1;rw[G]at this;simp at this)];rfl
 unfold k6 at aR;rw[eZ (t:=ao .d [eG [k6,r.dP]]) (by exists fV,nU,IP,aR;rfl) (a _)]
 show bX (aN.a_ aI aD _ [D (.aL (eb r)),D (ao .d [eG [k6,r.dP]]),i,i]) _
 rw[Jf (c6:=r.c3.map h8) (by
  rw[iM (w:=h8) (A:=.d) (T:=λN:hI=>[cU N]) (items:=r.c3.map cU) r.c3 rfl (by exists fV,nU,r3) (h2 _ _) (λN a=>by exists CR,afL (C9 Y N a)) (by lia)]) (by rw[cE,oP];lia)]
 obtain⟨bA,g⟩:∃bA,bA=[eG [k6,r.dP]]++r.c3.map h8:=⟨_,rfl⟩;have R:bA.length<=9:=by rw[g,dm,cE,oP];lia
 rw[<- g,Jf (c6:=hM r.cB) (by exists fV,nU,IQ,w,afN Y.cB) (by lia)]
 have aB:qM.b4 [.d gw,.d (eO r.b5)]=.f (.d (cX gw r.b5)):=by
  rw[wx (by show 5+(eO r.b5).length<=10000;lia),Sn Y.b5]
 unfold gw at aB;rw[Ds (n:=cX gw r.b5) (by exists fV,nU,uf,Sh Y.b5 (by lia);exact aB) (by rw[dm];lia)]
 rw[Jf (c6:=r.c8.map gI) (by
  rw[iM (w:=gI) (A:=.d) (T:=λp:hJ=>[cb p]) (items:=r.c8.map cb) r.c8 rfl (by exists fV,nU,ug) (h2 _ _) (λp hw=>by
   have h:=Y.c8 p hw;have z:=(fJ (eu h.1));have A:=(RC h).2.2;have S:(eG [bH p.1,[61],bH p.2.1,p.2.2.1,bH p.2.2.2]).length<=40:=by
    have:gI p=lE++32::eG [bH p.1,[61],bH p.2.1,p.2.2.1,bH p.2.2.2]:=rfl;rw[this,dm,ew]at A;lia
   have q:qM.b4 [.d lE,.d (eG [bH p.1,[61],bH p.2.1,p.2.2.1,bH p.2.2.2])]=.f (.d (gI p)):=by
    rw[wx (by show 4+_<=10000;lia),if_neg];· rfl
    exact List.append_ne_nil_of_left_ne_nil z.2 _
   unfold lE at q
   exists qP,afM h
   exact q) (by lia)]) (by simp only[dm,cE,oP];lia)]
 have s:qM.b4 [.d jj,.d (cH r.cP)]=.f (.d (eG [jj,cH r.cP])):=by
  rw[wx (by show 5+(cH r.cP).length<=10000;lia),if_neg e.1.2.1];rfl
 unfold jj at s;rw[Ds (n:=eG [jj,cH r.cP]) (by exists fV,nU,CT,e.2.1;exact s) (by simp only[dm,cE,oP];lia)]
 have u:qM.b4 [.d ff,.d (eO r.cj)]=.f (.d (cX ff r.cj)):=by
  rw[wx (by show 3+(eO r.cj).length<=10000;lia),Sn Y.cj]
 unfold ff at u;obtain⟨b,j⟩:∃b,b=bA++hM r.cB++[cX gw r.b5]++r.c8.map gI++[eG [jj,cH r.cP]]:=⟨_,rfl⟩;have U:b.length<=20:=by rw[j];simp only[dm,cE,oP];lia
 rw[<- j,eZ (t:=.d (cX ff r.cj)) (by exists fV,nU,yW,Sh Y.cj (by lia);rw[u];rfl) (a _)]
 show bX (aN.a_ aI aD _ [D (.aL (eb r)),D (ao .d b),D (.d (cX ff r.cj)),i]) _
 rw[eZ (t:=.d (cH r.dC)) (by exists fV,nU,CU,m.2.1) (a _)]
 show bX (aN.a_ aI aD _ [D (.aL (eb r)),D (ao .d b),D (.d (cX ff r.cj)),D (.d (cH r.dC))]) _
 have V:(cX ff r.cj).length<=300:=y3 (by decide) (by lia) Y.cj
 rw[Ds (n:=cX ff r.cj++eo++cH r.dC) (by
  rw[y9 (j:=[cX ff r.cj,eo,cH r.dC]) (by unfold eo;exists y8,r9 (s:=cX ff r.cj) (by lia),r9 (s:=cH r.dC) (by lia)) (by simp[eo];lia)];simp)]
 have v:qM.b4 [.d oL,.d (ip (h_ r.b6))]=.f (.d (iO (ip (h_ r.b6)))):=by
  rw[wx (by show 5+_<=10000;lia)];rfl
 unfold oL at v;rw[Ds (n:=iO (ip (h_ r.b6))) (by exists fV,nU,CV,afU c;exact v) (by simp only[dm,oP];lia)]
 have ec:b++[cX ff r.cj++eo++cH r.dC]++[iO (ip (h_ r.b6))]=dg r (ip (h_ r.b6)):=by
  rw[j,g];unfold dg;simp
 rw[ec];have B:km [59,32] [.aL (ao .d (dg r (ip (h_ r.b6))))]=.f (.d (jk r (ip (h_ r.b6)))):=(show _=km [59,32] [ao .d _]from rfl).trans (qQ (by decide) (by have:=I8 (n:=ip (h_ r.b6)) Y;lia) (λN a=>by have:=(C_ Y x y N a).2;lia))
 exists h1,lD,B
 fail "q"
def Dt (r:eB):List (aq×aq):=[(.d r.dP,.d r.dP),(.aL (ao cU r.c3),ao cU r.c3),(c9 r.cB,c9 r.cB),(.aL (ao av r.b5),ao av r.b5),(.aL (ao cb r.c8),ao cb r.c8),(.c r.cP,.c r.cP),(.aL (ao av r.cj),ao av r.cj),(.c r.dC,.c r.dC),(.aL (ao av r.b6),ao av r.b6)]
def lH (r:eB):aq:=.az .aM ((Dt r).map (·.2))
theorem af0 {r:eB}(Y:il r):Ir.b4 [.aL (eP r)]=.f (eb r):=by
 have h:(c9 r.cB).bM=c9 r.cB:=oI _;have k:ot "list" (c9 r.cB)=.f (.aQ aA):=by cases r.cB<;>rfl
 have l:=RG Y;refine dK rfl rfl λaD a=>?_
 unfold Qy;have m:ot "list" (.d r.dP)=.f (.aQ aA):=rfl;have n:∀{aP:Type}{g:aP->aq}(s:List aP),ot "list" (ao g s)=.f (.aQ ag):=λ_=>rfl
 have j:∀O,ot "list" (.c O)=.f (.aQ aA):=λ_=>rfl
 have ec:H.aW aI [D (.aL (eP r)),i,i] (.ek ["_law_part"] [] .dw [(.v 0)] ⟨aA,[0]⟩ i (.jU (.kn (.v 0) "list") (.dX .d9 [(.v 0)]) (.v 0)))=.f (lH r):=by
  rw[iM (w:=λN:aq×aq=>N.2) (A:=λt=>t) (T:=λN=>[N.1]) (items:=(Dt r).map (·.1)) (Dt r) rfl (by exists mP;rfl) (h2 _ _) (λN a=>?_) (show 9<=100000 by decide)]
  ·show g4 (aq.az .aM _)=_;unfold lH;rw[uC]
  ·have c:∀{aP:Type}{g:aP->aq} [k2 g] (s:List aP),H.aW aI (jb (hT ["_law_part"] [] [D (.aL (eP r)),i,i]) [0] [.aL (ao g s)]) (.jU (.kn (.v 0) "list") (.dX .d9 [(.v 0)]) (.v 0))=.f (ao g s):=λs=>by
    exists mM,n s
   unfold Dt at a;simp only[dn,gJ,or_false]at a;rcases a with rfl |rfl |rfl |rfl |rfl |rfl |rfl |rfl |rfl
   ·exists m
   ·exact c r.c3
   ·exists h,k
   ·exact c r.b5
   ·exact c r.c8
   ·exists j
   ·exact c r.cj
   ·exists j
   ·exact c r.b6
 have p:(lH r).el=ag:=by
  show aq.lr [.d r.dP,ao cU r.c3,c9 r.cB,ao av r.b5,ao cb r.c8,.c r.cP,ao av r.cj,.c r.dC,ao av r.b6]=ag
  simp only[Ca,Cb,yC,HA,jf,yY,uE]
 rw[eZ (t:=lH r) (by rw[k0];show fb (H.aW aI [D (.aL (eP r)),i,i] _) _ _=_;rw[ec];exact hp _ p) (a _)]
 show bX (aN.a_ aI aD _ [D (.aL (eP r)),D (lH r),i]) _
 have ax:lx (.aL (lH r)) (D 4) i=.f (.az .aM [.aL (ao cb r.c8),.c r.cP,.aL (ao av r.cj),.c r.dC,.aL (ao av r.b6)]):=rfl;have q:(aq.az .aM [.aL (ao cb r.c8),.c r.cP,.aL (ao av r.cj),.c r.dC,.aL (ao av r.b6)]).el=aA:=by rw[aq.el];rfl
 have u:(lH r).bM=.aL (lH r):=rfl;have v:(aq.aL (lH r)).bM=.aL (lH r):=rfl;rw[kZ (t:=.az .aM [.aL (ao cb r.c8),.c r.cP,.aL (ao av r.cj),.c r.dC,.aL (ao av r.b6)]) (e:=[D (.aL (eP r)),D (.aL (lH r)),i]) (by exists u,ax;rw[t_ _ q];rfl) (a _) (by show 2<3;lia)]
 show bX (aN.a_ aI aD _ [D (.aL (eP r)),D (.aL (lH r)),D (.az .aM [.aL (ao cb r.c8),.c r.cP,.aL (ao av r.cj),.c r.dC,.aL (ao av r.b6)])]) _
 have w:df (lH r) (.c 0)=.f (.d r.dP):=rfl;have x:df (lH r) (.c 1)=.f (.aL (ao cU r.c3)):=rfl;have y:df (lH r) (.c 2)=.f (c9 r.cB):=by show g4 (c9 r.cB).bM=_;rw[h]
 have z:df (lH r) (.c 3)=.f (.aL (ao av r.b5)):=rfl;have A:(aq.az .aM [.aL (ao cb r.c8),.c r.cP,.aL (ao av r.cj),.c r.dC,.aL (ao av r.b6)]).bM=.aL (.az .aM [.aL (ao cb r.c8),.c r.cP,.aL (ao av r.cj),.c r.dC,.aL (ao av r.b6)]):=rfl;have B:∀{S b R t e:aq},df (.az .aM [S,b,R,t,e]) (.c 0)=.f S.bM:=rfl;have C:∀{S b R t e:aq},df (.az .aM [S,b,R,t,e]) (.c 1)=.f b.bM:=rfl;have E:∀{S b R t e:aq},df (.az .aM [S,b,R,t,e]) (.c 2)=.f R.bM:=rfl;have F:∀{S b R t e:aq},df (.az .aM [S,b,R,t,e]) (.c 3)=.f t.bM:=rfl;have G:∀{S b R t e:aq},df (.az .aM [S,b,R,t,e]) (.c 4)=.f e.bM:=rfl
 exists v,w,x,y,z,A,B,C,E,F,G,l,C7,a
 fail "q"
theorem So {r:eB}:CF.b4 [.aL (eb r)]=.f (eP r):=by
 have a:(c9 r.cB).bM=c9 r.cB:=oI _;refine dK rfl rfl λaD b=>?_
 unfold QL;have e3:(aq.az .aM [.d r.dP,.aL (ao cU r.c3),c9 r.cB,.aL (ao av r.b5),.aL (ao cb r.c8),.c r.cP]).el=aA:=by rw[aq.el];rfl
 rw[kZ (t:=.az .aM [.d r.dP,.aL (ao cU r.c3),c9 r.cB,.aL (ao av r.b5),.aL (ao cb r.c8),.c r.cP]) (e:=[D (.aL (eb r)),i]) (by exists fV,nU,IP,r3,IQ,uf,ug,CT,a;rw[t_ _ e3];rfl) (b _) (by show 1<2;lia)]
 show bX (aN.a_ aI aD _ [D (.aL (eb r)),D (.az .aM [.d r.dP,.aL (ao cU r.c3),c9 r.cB,.aL (ao av r.b5),.aL (ao cb r.c8),.c r.cP])]) _
 have d_:(eP r).el=aA:=Dj r;have c:iY (.aL (.az .aM [.d r.dP,.aL (ao cU r.c3),c9 r.cB,.aL (ao av r.b5),.aL (ao cb r.c8),.c r.cP])) (.az .aM [.aL (ao av r.cj),.c r.dC,.aL (ao av r.b6)])=.f (eP r):=by
  show Mo.ei (6+3) (g4 (aq.az .aM (([.d r.dP,.aL (ao cU r.c3),c9 r.cB,.aL (ao av r.b5),.aL (ao cb r.c8),.c r.cP]++[.aL (ao av r.cj),.c r.dC,.aL (ao av r.b6)]:List aq).map aq.bM)))=_
  rw[Mo.mr (by decide)]
  show g4 (aq.az .aM [.d r.dP,.aL (ao cU r.c3),(c9 r.cB).bM,.aL (ao av r.b5),.aL (ao cb r.c8),.c r.cP,.aL (ao av r.cj),.c r.dC,.aL (ao av r.b6)])=_
  rw[a];rfl
 have f:(aq.az .aM [.d r.dP,.aL (ao cU r.c3),c9 r.cB,.aL (ao av r.b5),.aL (ao cb r.c8),.c r.cP]).bM=.aL (.az .aM [.d r.dP,.aL (ao cU r.c3),c9 r.cB,.aL (ao av r.b5),.aL (ao cb r.c8),.c r.cP]):=rfl
 exists fV,nU,yW,CU,CV,f,c
 rw[t_ _ d_];exact⟨_,_,rfl,.inl rfl⟩
theorem af1 {r:eB}:CQ.b4 [.aL (eb r)]=.f (eP r):=by
 have a:(c9 r.cB).bM=c9 r.cB:=oI _;refine dK rfl rfl λaD b=>?_
 unfold QY
 exists fV,nU,IP,r3,IQ,uf,ug,CT,yW,CU,CV,a
 show bX (jY (BH (fb (g4 (eP r)) _ _)) _) _
 rw[t_ _ (Dj r)];exact⟨_,_,rfl,.inl rfl⟩
theorem af2 {r:eB}:IJ.b4 [.aL (eb r),.aL (eb r)]=.f (.aQ ag):=by
 refine dK rfl rfl λaD a=>?_
 unfold QZ
 exists fV,af1,Sl r
 fail "q"
theorem af3 (r:eB):gq ag (eP r) (eP r)=.f (.aQ aA):=(ub (R:=ag) (Sk r)).trans rfl
theorem af4:∀a:eM,a.length<=63->AV a->Q0.b4 [dR a]=.f (.aQ ag):=λa l _=>by
 obtain⟨r,m,b⟩:=afs a l;have g:pQ r.b6:=⟨b.aQ,b.b6.1,b.b6.2⟩;have o:=Dm g (pS r.b6);obtain⟨eJ,cR,h,j⟩:=Sm g o (by rw[pS])
 have ax:=afZ b;have k:=afz g
 generalize ip (h_ r.b6)=n at k eJ cR h j ax
 have ec:=afI b (n:=n) (by lia)
 have p:km [59,32] [ao .d (dg r n)]=.f (.d (jk r n)):=qQ (by decide) (by have:=I8 (n:=n) b;lia) (λN c=>by have:=(C_ b eJ cR N c).2;lia)
 have q:=ae2 b eJ cR h j;have e3:=Dj r;have s:ot "str" (.d (jk r n))=.f (.aQ ag):=rfl;refine dK rfl rfl λaD c=>?_
 unfold IK;show bX (aN.a_ aI aD _ [D (dR a),i,i,i,i,i]) _
 rw[kZ (t:=eP r) (e:=[D (dR a),i,i,i,i,i]) (by exists m;rw[t_ _ e3];exists c) (c _) (by show 1<6;lia)]
 show bX (aN.a_ aI aD _ [D (dR a),D (eP r),i,i,i,i]) _
 have f:(eP r).bM=.aL (eP r):=rfl;rw[eZ (t:=eb r) (by exists f,mP,af0 b,C7) (c _)]
 show bX (aN.a_ aI aD _ [D (dR a),D (eP r),D (eb r),i,i,i]) _
 rw[eZ (t:=.d (jk r n)) (by exists IS,fV,ax) (c _)]
 show bX (aN.a_ aI aD _ [D (dR a),D (eP r),D (eb r),D (.d (jk r n)),i,i]) _
 rw[eZ (t:=.d (jk r n)) (by exists f,mP,afH,mM,k,ec,h1,lD,p) (c _)]
 show bX (aN.a_ aI aD _ [D (dR a),D (eP r),D (eb r),D (.d (jk r n)),D (.d (jk r n)),i]) _
 rw[jD (by exists f,mP,IS,fV,s,l4,So,af3 r,decide_true;rfl)]
 show bX (aN.a_ aI aD (_::_) _) _
 rw[eZ (t:=eb r) (by exists q,C7) (c _)]
 show bX (aN.a_ aI aD (_::_) [D (dR a),D (eP r),D (eb r),D (.d (jk r n)),D (.d (jk r n)),D (eb r)]) _
 exists f,mP,IS,fV,So,Sl r,af2,ax,l4,decide_true
 fail "q"
def cY (O:Nat):er:=PySem.Challenge.pw_cardshop_k44_askings_written.main.body.getD O (.Pass ⟨0,0,0,0⟩)
abbrev Sp:er:=u4 (cY 42) 0
abbrev Sq:er:=u4 (cY 71) 1
abbrev Sr:er:=u4 (cY 71) 2
abbrev Ss:er:=u4 (cY 71) 3
abbrev Su:er:=u4 (cY 71) 4
abbrev Sv:er:=u4 (cY 71) 0
def mZ:pK:={c6:=["all", "bool", "enumerate", "int", "isinstance", "len", "list", "min", "range", "sorted", "str", "tuple", "zip"],o5:=["board", "breaks", "deck", "figures", "middle", "order", "picks", "sums", "waiting", "works"],vT:=[("BODY_WIDTH",(.c 36)),("CARD_WIDTH",(.c 40)),("FIGURES",(eX HS)),("LONGEST_NAME",(.c 8)),("MOST_BREAKS",(.c 3)),("MOST_FIGURES",(.c 12)),("MOST_KEYS",(.c 6)),("MOST_PICKS",(.c 8)),("MOST_SUMS",(.c 4)),("MOST_WORKS",(.c 4)),("SIGNS",(eX Co)),("SMALL_LETTERS",(eX yH))]}
structure Jg (I:bK):Prop where
 ec:Hv mZ aI I
 af5:c7 I "_law_cell_at" (cY 87)
 af6:c7 I "_law_name" (cY 88)
 af7:c7 I "_law_span" (cY 90)
 af8:c7 I "_law_other" (cY 89)
 af9:c7 I "_law_middle" (cY 91)
 af_:c7 I "_law_work" (cY 92)
 aga:c7 I "_law_drawn" (cY 93)
 agb:c7 I "_law_turned" (cY 94)
 agc:c7 I "_law_parts" (cY 95)
 agd:c7 I "own_list" (cY 43)
 age:c7 I "ask_for" (cY 52)
 agf:c7 I "check_lengths" (cY 54)
 agg:c7 I "mates_by" (cY 46)
 agh:c7 I "check_middle_word" (cY 55)
 agi:c7 I "names_of" (cY 47)
 agj:c7 I "is_name" (cY 50)
 agk:c7 I "check_names" (cY 56)
 agl:c7 I "middle_fields" (cY 48)
 agm:c7 I "fields_due" (cY 57)
 agn:c7 I "is_whole" (cY 15)
 ago:c7 I "is_field" (cY 22)
 agp:c7 I "width_of" (cY 24)
 agq:c7 I "are_signs" (cY 10)
 agr:c7 I "picked_signs" (cY 30)
 ags:c7 I "columns_of" (cY 25)
 agt:c7 I "pick_passes" (cY 49)
 agu:c7 I "check_picks" (cY 58)
 agv:c7 I "check_middle_widths" (cY 59)
 agw:c7 I "is_column" (cY 19)
 agx:c7 I "make_board" (cY 20)
 agy:c7 I "is_board" (cY 51)
 agz:c7 I "check_counting" (cY 60)
 agA:c7 I "fields_kept" (cY 62)
 agB:c7 I "are_apart" (cY 26)
 agC:c7 I "check_works" (cY 61)
 agD:c7 I "check_asking" (cY 53)
 agE:c7 I "_law_made" (cY 96)
 agF:c7 I "shown_clause" (cY 80)
 agG:c7 I "shown_field" (cY 28)
 agH:c7 I "shown_blanks" (cY 11)
 agI:c7 I "shown_pick" (cY 82)
 agJ:c7 I "shown_middle" (cY 83)
 agK:c7 I "shown_listed" (cY 81)
 agL:c7 I "shown_work" (cY 84)
 agM:c7 I "pieces_of" (cY 67)
 agN:c7 I "shown_piece" (cY 68)
 agO:c7 I "shown_board" (cY 69)
 agP:c7 I "shown_asking" (cY 85)
 agQ:c7 I "_law_field" (cY 98)
 agR:c7 I "_law_clauses" (cY 100)
 agS:c7 I "_law_board" (cY 99)
 agT:c7 I "_law_told" (cY 97)
 agU:c7 I "number_by" (cY 16)
 agV:c7 I "read_whole" (cY 17)
 agW:c7 I "field_of" (cY 23)
 agX:c7 I "read_field" (cY 27)
 agY:c7 I "read_blanks" (cY 12)
 agZ:c7 I "read_picks" (cY 74)
 ag0:c7 I "read_middle" (cY 75)
 ag1:c7 I "read_listed" (cY 73)
 ag2:c7 I "read_works" (cY 76)
 ag3:c7 I "read_number" (cY 72)
 ag4:c7 I "read_span" (cY 64)
 ag5:c7 I "read_piece" (cY 65)
 ag6:c7 I "read_board" (cY 66)
 ag7:c7 I "read_print" (cY 77)
 ag8:c7 I "asking_of" (cY 78)
 ag9:c7 I "read_asking" (cY 79)
 ag_:c7 I "parts_of" (cY 45)
 aha:c7 I "same_asking" (cY 44)
 ahb:c7 I "law" (cY 101)
 ahc:xK I "Asking" "__init__" "Asking.__init__" Sp [.a9,(.c 0),.a9,(.c 6),.a9]
 ahd:pk I "Clauses" "is_next" "Clauses.is_next" Sq
 ahe:pk I "Clauses" "take" "Clauses.take" Sr
 ahf:pk I "Clauses" "take_words" "Clauses.take_words" Ss
 ahg:pk I "Clauses" "check_end" "Clauses.check_end" Su
 ahh:pk I "Clauses" "__init__" "Clauses.__init__" Sv
 Sw:qn I
structure bX (I:bK)(a6:e2):Prop extends Jg I where
 m:lW I a6
theorem ahi {I:bK}(e:Jg I):aI.dZ I:=⟨by decide,λV Y=>ac9 (e.ec.n V Y),Hr,Hr⟩
theorem ahj {P:dk}{p:cN}{I:bK}{a6:e2}{bj:Heap}(e:bX I a6):xI P p I a6 bj fv 11 "law" "law" (cY 101) ["_law_script"] (f3 I Q0):=by
 have R:PL P p bj mZ aI I a6:=⟨e.m,ahi e.toJg,e.ec.mZ e.m⟩;have s:=du 0 R (w:=uc) rfl e.af5 trivial;have W:=du 0 R (w:=HU) rfl e.af6 trivial;have h:=du 0 R (w:=HV) rfl e.af7 trivial;have X:=du 0 R (w:=HW) rfl e.af8 trivial;have Y:=du 1 R (w:=HX) rfl e.af9 ⟨bJ h,bJ X,trivial⟩;have Z:=du 1 R (w:=HZ) rfl e.af_ ⟨bJ h,bJ h,trivial⟩;have aa:=du 2 R (w:=yI) rfl e.aga ⟨bJ s,bJ h,bJ h,bJ Z,bJ h,trivial⟩;have g:=du 0 R (w:=H0) rfl e.agb trivial;have ab:=du 3 R (w:=Cs) rfl e.agc ⟨bJ s,bJ W,bJ Y,bJ s,bJ s,bJ aa,bJ g,bJ g,bJ g,bJ g,bJ g,bJ g,bJ g,trivial⟩;have v:=du 0 R (w:=H2) rfl e.agd trivial;have a:=du 0 R (w:=H4) rfl e.age trivial;have ac:=du 1 R (w:=H5) rfl e.agf ⟨bJ a,bJ a,bJ a,bJ a,trivial⟩;have t:=du 0 R (w:=Qh) rfl e.agg trivial;have ae:=du 1 R (w:=H6) rfl e.agh ⟨bJ a,bJ t,bJ a,bJ t,trivial⟩;have af:=du 1 R (w:=Cu) rfl e.agi ⟨bJ t,trivial⟩;have ah:=du 0 R (w:=H7) rfl e.agj trivial;have ai:=du 2 R (w:=Cv) rfl e.agk ⟨bJ af,bJ a,bJ ah,bJ a,trivial⟩;have x:=du 1 R (w:=H8) rfl e.agl ⟨bJ t,trivial⟩;have aj:=du 2 R (w:=H_) rfl e.agm ⟨bJ x,trivial⟩;have o:=du 0 R (w:=Ia) rfl e.agn trivial;have E:=du 1 R (w:=Cw) rfl e.ago ⟨bJ o,bJ o,trivial⟩;have B:=du 0 R (w:=Ib) rfl e.agp trivial;have ak:=du 0 R (w:=Cx) rfl e.agq trivial;have al:=du 0 R (w:=Cy) rfl e.agr trivial;have am:=du 0 R (w:=Ie) rfl e.ags trivial;have an:=du 1 R (w:=Ig) rfl e.agt ⟨bJ am,trivial⟩;have ao:=du 2 R (w:=Ih) rfl e.agu ⟨bJ a,bJ B,bJ a,bJ ak,bJ a,bJ al,bJ an,trivial⟩;have ap:=du 2 R (w:=Ii) rfl e.agv ⟨bJ x,bJ a,bJ B,bJ B,trivial⟩;have G:=du 1 R (w:=CA) rfl e.agw ⟨bJ o,trivial⟩;have J:=du 2 R (w:=yK) rfl e.agx ⟨bJ G,bJ G,trivial⟩;have ar:=du 3 R (w:=Ik) rfl e.agy ⟨bJ J,trivial⟩;have as:=du 4 R (w:=Il) rfl e.agz ⟨bJ a,bJ o,bJ a,bJ a,bJ o,bJ a,bJ ar,trivial⟩;have au:=du 2 R (w:=Im) rfl e.agA ⟨bJ x,trivial⟩;have av:=du 0 R (w:=Io) rfl e.agB trivial;have aw:=du 3 R (w:=Ip) rfl e.agC ⟨bJ a,bJ au,bJ a,bJ av,trivial⟩;have ax:=du 5 R (w:=Iq) rfl e.agD ⟨bJ ac,bJ ae,bJ ai,bJ aj,bJ a,bJ E,bJ ao,bJ ap,bJ as,bJ aw,trivial⟩;have K:tv P p I a6 bj fv 7 "Asking" (dz I "Asking") ["self", "deck", "picks", "middle", "order", "works", "breaks", "sums", "figures", "board"] (f3 I yM):=ada (Zx 5 e.m (e.ec.R _ (by decide)) e.ahc (λT w bP a4 y a5 a7 a8 F ay az=>adb rfl F ay az λa9 a_ ba bb bc bd be bf bg bh bi bk bl bm bn bo bp bq br bs bt z ⟨A,aB,aC⟩=>BindsTo.of_defaults rfl aB aC rfl rfl) (ac_ (C:=6) (aJ:=["self", "deck", "picks", "middle", "order", "works", "breaks", "sums", "figures", "board"]) (aX:=Sp) (bB:=["self", "deck", "picks", "middle", "order", "works", "breaks", "sums", "figures", "board"]) (body:=yL) (y:=10) (m:=0) R.fI R.n ⟨bJ v,bJ v,bJ v,bJ ax,trivial⟩ (by decide +kernel) ⟨rfl,rfl,rfl,by decide +kernel,rfl,by decide +kernel,by decide +kernel,rfl⟩ rfl rfl))
 have aD:=du 8 R (w:=Ir) rfl e.agE ⟨Hu K,trivial⟩;have j:=du 0 R (w:=qM) rfl e.agF trivial;have c:=du 0 R (w:=v_) rfl e.agG trivial;have aE:=du 0 R (w:=It) rfl e.agH ⟨e.Sw,trivial⟩;have aF:=du 1 R (w:=Iu) rfl e.agI ⟨bJ c,bJ aE,trivial⟩;have aG:=du 1 R (w:=Iv) rfl e.agJ ⟨bJ c,trivial⟩;have L:=du 1 R (w:=CB) rfl e.agK ⟨bJ c,trivial⟩;have aH:=du 1 R (w:=Iw) rfl e.agL ⟨bJ c,bJ c,bJ c,trivial⟩;have aJ:=du 0 R (w:=CC) rfl e.agM trivial;have aK:=du 1 R (w:=CD) rfl e.agN ⟨bJ c,bJ c,trivial⟩;have aL:=du 2 R (w:=Iy) rfl e.agO ⟨bJ aJ,bJ aK,trivial⟩;have M:=du 3 R (w:=CE) rfl e.agP ⟨bJ j,bJ aF,bJ aG,bJ j,bJ L,bJ j,bJ aH,bJ j,bJ j,bJ L,bJ j,bJ aL,trivial⟩;have b:=du 0 R (w:=wb) rfl e.agQ trivial;have aM:Ht P p I a6 bj 2 "_law_clauses" ["_law_parts_here", "_law_board_here"] Iz:=M3 e.m e.agR (rY (aX:=(cY 100)) (bB:=["_law_parts_here", "_law_board_here", "_law_clauses_here", "_law_field_here", "_law_text", "_law_some", "_law_part", "_law_keys", "_law_to", "_law_one", "_law_word", "_law_other_here", "_law_sums"]) (body:=r2) (y:=2) (m:=11) R.fI R.n ⟨bJ b,bJ b,bJ b,bJ b,bJ b,bJ b,bJ b,trivial⟩ (by decide +kernel) ⟨rfl,rfl,rfl,by decide +kernel,rfl,by decide +kernel,by decide +kernel,rfl⟩ (λ_ _ F=>hz.xF rfl F λ_ _ _ _ _ _ _ _=>rfl) rfl rfl)
 have aO:=du 1 R (w:=IA) rfl e.agS ⟨bJ b,bJ b,trivial⟩;have O:=du 0 R (w:=CF) rfl e.agT trivial;have q:qm P p I a6 bj fv 1 (dz I "Clauses") "is_next" ["self", "word"] (f3 I pP):=Ba (e.ec.R _ (by decide)) e.ahd (rY (aX:=Sq) (bB:=["self", "word"]) (body:=IB) (y:=2) (m:=0) R.fI R.n trivial (by decide +kernel) ⟨rfl,rfl,rfl,by decide +kernel,rfl,by decide +kernel,by decide +kernel,rfl⟩ (λ_ _ F=>hz.xF rfl F λ_ _ _ _ _ _ _ _=>rfl) rfl rfl)
 have u:qm P p I a6 bj fv 2 (dz I "Clauses") "take" ["self", "word"] (f3 I qN):=Ba (e.ec.R _ (by decide)) e.ahe (rY (aX:=Sr) (bB:=["self", "word"]) (body:=IC) (y:=2) (m:=0) R.fI R.n ⟨lA q,trivial⟩ (by decide +kernel) ⟨rfl,rfl,rfl,by decide +kernel,rfl,by decide +kernel,by decide +kernel,rfl⟩ (λ_ _ F=>hz.xF rfl F λ_ _ _ _ _ _ _ _=>rfl) rfl rfl)
 have l:qm P p I a6 bj fv 3 (dz I "Clauses") "take_words" ["self", "word", "many"] (f3 I lB):=Ba (e.ec.R _ (by decide)) e.ahf (rY (aX:=Ss) (bB:=["self", "word", "many", "words"]) (body:=CG) (y:=3) (m:=1) R.fI R.n ⟨lA u,trivial⟩ (by decide +kernel) ⟨rfl,rfl,rfl,by decide +kernel,rfl,by decide +kernel,by decide +kernel,rfl⟩ (λ_ _ F=>hz.M0 rfl F λ_ _ _ _ _ _ _ _ _=>rfl) rfl rfl)
 have aP:=du 0 R (w:=QM) rfl e.agU trivial;have C:=du 1 R (w:=yN) rfl e.agV ⟨bJ aP,trivial⟩;have aQ:=du 2 R (w:=IE) rfl e.agW ⟨bJ E,trivial⟩;have d:=du 3 R (w:=wc) rfl e.agX ⟨bJ C,bJ aQ,trivial⟩;have aR:=du 0 R (w:=IF) rfl e.agY ⟨e.Sw,trivial⟩;have aT:=du 4 R (w:=CH) rfl e.agZ ⟨lA q,lA l,bJ d,bJ aR,trivial⟩;have aU:=du 4 R (w:=CI) rfl e.ag0 ⟨lA q,lA l,bJ d,bJ d,lA q,bJ d,lA l,trivial⟩;have Q:=du 4 R (w:=yQ) rfl e.ag1 ⟨bJ d,trivial⟩;have aV:=du 4 R (w:=CJ) rfl e.ag2 ⟨lA q,lA l,bJ d,bJ d,bJ d,trivial⟩;have S:=du 2 R (w:=CK) rfl e.ag3 ⟨bJ C,trivial⟩;have U:=du 2 R (w:=CL) rfl e.ag4 ⟨bJ C,trivial⟩;have aW:=du 3 R (w:=CM) rfl e.ag5 ⟨bJ U,bJ U,trivial⟩;have aX:=du 4 R (w:=ue) rfl e.ag6 ⟨bJ aW,bJ J,trivial⟩;have aY:=du 5 R (w:=IG) rfl e.ag7 ⟨bJ aX,trivial⟩;have aZ:qm P p I a6 bj fv 1 (dz I "Clauses") "check_end" ["self"] (f3 I yS):=Ba (e.ec.R _ (by decide)) e.ahg (rY (aX:=Su) (bB:=["self"]) (body:=IH) (y:=1) (m:=0) R.fI R.n trivial (by decide +kernel) ⟨rfl,rfl,rfl,by decide +kernel,rfl,by decide +kernel,by decide +kernel,rfl⟩ (λ_ _ F=>hz.FG rfl F λ_ _ _ _ _ _ _=>rfl) rfl rfl)
 have a0:=du 8 R (w:=CO) rfl e.ag8 ⟨lA l,bJ aT,bJ aU,bJ Q,lA u,bJ aV,bJ S,lA l,lA u,bJ Q,bJ S,bJ aY,lA u,lA aZ,Hu K,trivial⟩;have a1:tv P p I a6 bj fv 1 "Clauses" (dz I "Clauses") ["self", "text"] (f3 I yT):=Y8 e.m (e.ec.R _ (by decide)) e.ahh (rY (aX:=Sv) (bB:=["self", "text"]) (body:=CP) (y:=2) (m:=0) R.fI R.n trivial (by decide +kernel) ⟨rfl,rfl,rfl,by decide +kernel,rfl,by decide +kernel,by decide +kernel,rfl⟩ (λ_ _ F=>hz.xF rfl F λ_ _ _ _ _ _ _ _=>rfl) rfl rfl)
 have a2:=du 9 R (w:=II) rfl e.ag9 ⟨bJ a0,Hu a1,trivial⟩;have V:=du 0 R (w:=CQ) rfl e.ag_ trivial;have a3:=du 1 R (w:=IJ) rfl e.aha ⟨bJ V,bJ V,trivial⟩;exact rY (aX:=(cY 101)) (bB:=["_law_script", "_law_parts_here", "_law_asking", "_law_found", "_law_due", "_law_again"]) (body:=IK) (y:=1) (m:=5) R.fI R.n ⟨bJ ab,bJ aD,bJ M,bJ aM,bJ aO,bJ O,bJ a2,bJ O,bJ a3,bJ M,trivial⟩ (by decide +kernel) ⟨rfl,rfl,rfl,by decide +kernel,rfl,by decide +kernel,by decide +kernel,rfl⟩ (λ_ _ F=>hz.FG rfl F λ_ _ _ _ _ _ _=>rfl) rfl rfl
theorem ahk {s:DS}{p:cN}{I:bK}{Y:Heap}{a6:e2}{hS:ba}(H:I.In Y)(ak:Y.Ns ft a6)(a:a6 "law"=D (.ref hS))(C:Jg I):
  ∃bP:i4,(∀(z:bz) (v:bq),BindsTo z bP ⟨[v],[]⟩ [("_law_script",v)])/\∀bj:Heap,I.In bj->bj.Ns ft a6->gX s.prog p I a6 bj fv 11 hS bP ["_law_script"] (xJ I):=by
 have e:bX I a6:=⟨C,_,H,ak⟩;refine Y9 e.m e.ahb a (λ_ _ _ _ _ _ _ _=>rfl) λbj w bP F=>?_
 exact adg (ahj (P:=s.prog) (p:=p) (bj:=bj) e w bP F).1 af4
theorem ahl {s:DS}{V:dk}{c:c_}{d:e2->Heap->Prop}{b:cN->Heap->Prop}{t:DefRec}{I:Params->bK}(e:s.most=D 63)(f:t.params.defaults=[])(g:∀N,L2.Al V (I N)=ag)
  (h:∀(p:cN) (Y:Heap),b p Y->(I p.params).In Y)
  (F:∀(p:cN) (a6:e2) (hS:ba) (Y:Heap),(I p.params).In Y->Y.Ns ft a6->a6 t.name=D (.ref hS) ->
   ∃bP:i4,(∀(z:bz) (u:bq),BindsTo z bP ⟨[u],[]⟩ [("_law_script",u)])/\∀bj:Heap,(I p.params).In bj->bj.Ns ft a6->gX s.prog p (I p.params) a6 bj fv 11 hS bP ["_law_script"] (xJ (I p.params))):
  W.WalkO V c d b s.row.toRowW t [] (λw a=>Dw w a):=
 L2.Yo (y:=63) (C:=11) (X:="_law_script") (dN:=λ_=>fv) (cx:=λp=>xJ (I p.params)) e (by decide) f ⟨rfl,by decide,by decide⟩ rfl g h F (λ_ _ S j l m _ o=>⟨S,j,rfl,o,l,m,λ_=>rfl⟩) λ_ _ _ _ _ G=>G
end K44
open PySem PySem.W PyProof.Rows
set_option maxRecDepth 100000 in
set_option maxHeartbeats 0 in
theorem PySem.Challenge.cw_cardshop_k44_askings_written_holds : PySem.Challenge.rw_cardshop_k44_askings_written.Holds := by
 w_on;o_law;k_head;(case hw=>w_witness2)
 k_fill
 refine K44.ahl (s:=PySem.Challenge.rw_cardshop_k44_askings_written) rfl rfl ?L (λp Y a=>W.kIn_of a) ?F
 case L=>intro N;kernel_rfl!
 case F=>
  intro p a6 hS Y b ak c;refine K44.ahk b ak c ?_;constructor
  case' ec=>constructor<;>repeat' first |exact VI.Hr |refine VI.ac8 ?_ ?_
  all_goals first |(refine' L2.qn.iE ?x0 ?x1;(case x0=>kernel_rfl);(case x1=>kernel_rfl))|(refine' L2.fN.iE ?x0 ?x1 ?x2 ?x3 ?x4 ?x5 ?x6 ?x7 ?x8;(case x0=>k_is);(case x1=>k_is);(case x2=>rfl);(case x3=>k_is);(case x4=>rfl);(case x5=>rfl);(case x6=>rfl);(case x7=>rfl);(case x8=>rfl))|(refine' L2.xK.iE ?x0 ?x1 ?x2 ?x3 ?x4 ?x5 ?x6 ?x7;(case x0=>k_is);(case x1=>k_is);(case x2=>k_is);(case x3=>k_is);(case x4=>k_is);(case x5=>k_is);(case x6=>k_is);(case x7=>(show _=_;kernel_rfl!)))|(refine' L2.c7.iE ?x0 ?x1 ?x2 ?x3;(case x0=>k_is);(case x1=>k_is);(case x2=>k_is);(case x3=>k_is))|(refine' L2.pk.iE ?x0 ?x1 ?x2 ?x3 ?x4 ?x5;(case x0=>k_is);(case x1=>k_is);(case x2=>k_is);(case x3=>k_is);(case x4=>k_is);(case x5=>k_is))|(refine' L2.FP.iE ?x0 ?x1 ?x2 ?x3 ?x4 ?x5 ?x6;(case x0=>k_is);(case x1=>k_is);(case x2=>k_is);(case x3=>k_is);(case x4=>k_is);(case x5=>k_is);(case x6=>k_is))|(refine' L2.js.iE ?x0 ?x1 ?x2 ?x3 ?x4 ?x5 ?x6;(case x0=>k_is);(case x1=>k_is);(case x2=>k_is);(case x3=>k_is);(case x4=>k_is);(case x5=>k_is);(case x6=>k_is))|(refine' L2.vw.iE ?x0 ?x1;(case x0=>k_is);(case x1=>k_is))|(delta L2.FI;k_is)|(refine' L2.xH.iE ?x0 ?x1;(case x0=>k_is);(case x1=>first |exact⟨_,rfl⟩|rfl))|(refine' L2.tw.iE ?x0;(case x0=>k_is))|(refine' L2.FL.iE ?x0 ?x1 ?x2;(case x0=>k_is);(case x1=>k_is);(case x2=>(show _=_;kernel_rfl!)))|(refine' L2.FK.iE ?x0 ?x1;(case x0=>k_is);(case x1=>(show _=_;kernel_rfl!)))|(refine' L2.xM.iE ?x0 ?x1 ?x2 ?x3;(case x0=>k_is);(case x1=>k_is);(case x2=>(show _=_;kernel_rfl!));(case x3=>decide))
#print axioms PySem.Challenge.cw_cardshop_k44_askings_written_holds
