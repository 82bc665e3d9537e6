import PyProof.Rows.All
import Wide.All
import OpenK.AllK
import Wide.FinOn
import Lean
import PyProof.EqAt
import PyProof.EqKinds
import PyProof.TupleCall
import PyProof.StrLawsRepr
import PyProof.NeKinds
import KE.KTryMore
import PyProof.Rows.TupIter
import PyProof.InstStoreFacts
import PyProof.ExcInit
import KE.KEqDict
import KE.KDictOf
import KE.KPairComp
import KE.KNestM
import PySem.Challenge.RW_cardshop_k75_desk_trays
set_option Elab.async false
set_option compiler.extract_closed false
set_option linter.all false
set_option maxRecDepth 100000
set_option maxHeartbeats 4000000
set_option genSizeOf false
set_option genSizeOfSpec false
set_option bootstrap.genMatcherCode false
structure PySem.W.Fast:Prop where(tw532170230940430440 tw2495708096853447152 tw5600980933459182138 tw4778259129931582941 tw12626016084641954606 tw8287322641068283065 tw3741317497877287534 tw2212708062938451793 tw12964178046693715532 tw5803842367309044199 tw5934029722725354468 tw7841000192295928922 tw6670935406590613299 tw15220187975227985104 tw8677172293530531238 tw13540497175616974791 tw15794443176744015304 tw4374838484058911771 tw8162529503923434597 tw7070254332459142041 tw6679970351199207459 tw9412581153475409987 tw7648268254653937790 tw8936470975120614849 tw13695032491512439018 tw16089784073913141397 tw10600700142158712164 tw109499050073803283 tw1101989827385539085 tw9492347242405766820 tw8475102032697629743 tw15427033136873367068 tw1278182222595891486 tw13967515396202275979 tw433686160263058814 tw9071603907599152006 tw4181443228412132790 tw13641667012517061633 tw5059460466909657379 tw10192920357316953994 tw8615062825657964923 tw7389880616379486336 tw12606554319251341016 tw4787341807147241154 tw15003448288218495541 tw4763165295325466601 tw5748909579021095768 tw8498552711795723913 tw3268950809122318357 tw15494602164661354740 tw36083547098471782 tw1144256523948810827 tw4830201056166685844 tw11951018183608944906 tw2929823860273780381 tw6584883051411107247 tw5842781343478098044 tw13456069668346838143 tw9330265194924304432 tw2728400231987017382
 tw14008345197616516877 tw6598381097820175494 tw11070319047145591520 tw8165257388164636842 tw18400488241829419833 tw6755745067347339875 tw4601790938642559108 tw9419776288983611286 tw15605519764450700281 tw16591733460636681743 tw5074247876684758495 tw6964316137499594430 tw6739796348114028659 tw2062238132181104571 tw14566416782688542262 tw7874093991880813472 tw13149365514123747169 tw4031719554285425642 tw666579555849963919 tw10845518050050408994 tw7090464457955416155 tw16608451994521381980 tw709966042216356229 tw15924612065886329081 tw16461956136615586997 tw3488588330951255492 tw5559976548926780196 tw13762406962184179797 tw8518624362002186270 tw12188674215017098880 tw11413803515067854659 tw13758284879432601687 tw18361938610905428439 tw7925527696693419244 tw10415913829089751145 tw16510619422657258605 tw6236552185227193208 tw4562276593977056649 tw9637247143103991264 tw12056666148903699982 tw13805655001957044124 tw11064296379091956846 tw3268097865856591327 tw3987281277937261444 tw17294419503028636938 tw4542215460172697386 tw5641994720719781311 tw10904870314265803263 tw8002602684173808417 tw9452733217769059397 tw189791889046334781 tw7434560910663209960 tw13403130444671857192 tw12987150164215857075 tw8817023840114817800 tw2294717442600150106 tw2306203178291942588 tw10997210241522040733 tw215582436801040938 tw17484979599181043123
 tw7410959621076663089 tw655882141112227505 tw281694591266652700 tw7663870518483616870 tw18256694385662763163 tw11414584933022925170 tw8497685934053657954 tw10578942959762062168 tw15088619082555838387 tw17412590082111131348 tw17948707965092499865 tw10119636293953833164 tw7060068464343340116 tw5144192130171455600 tw7536534678715122155 tw3459328266730067869 tw3789772477468935533 tw2162900359077532522 tw6375024382319794597 tw10560746009729612099 tw5946805198483027361 tw5434726126910180267 tw6113010771219270898 tw7443696174394566985 tw6418904976654130561 tw4194349974893899321 tw2411440253287472177 tw13958283464675529927 tw16949326500564847075 tw11169231870506291801 tw12778612727154539152 tw10836345974333728542 tw2871249609524100292 tw5791206193663742938 tw15367597378047814373 tw4419564763644051538 tw18342000419956647013 tw847315837006699747 tw8910451096164869624 tw1321967243929133887 tw5755458530935093633 tw3500521937110220736 tw9837558714263404945 tw9103206258931740144 tw5947414794088248566 tw7339480241681641192 tw14669462865333904976 tw2676100735031463808 tw7867078885567718764 tw2965790031267832133 tw2393517916216339202 tw3312867604441241461 tw8827179813944812211 tw2399049056356002043 tw11864005643827218346 tw6821746678267931572 tw6536027980573105055 tw8517258115005627811 tw14223980994583652029 tw8909911858188578977
 tw5707433906934376316 tw1058052575767636364 tw9910447375727083437 tw1179043551895947874 tw1428553480083269294 tw141813662722131383 tw17224254605992082717 tw14242370393129417459 tw8097026133582960874 tw8794713556042053705 tw11065389594886593690 tw660757396602180629 tw9708554486205425285 tw4022559553648970258 tw3104363225292589713 tw11844516721185077355 tw13935090351745884181 tw10501876354582224401 tw7060563267045662178 tw13785823021963689640 tw13106418814301429256 tw9892014846821508389 tw10870422145249135339 tw6626001178662464555 tw6407011933228500555 tw4293571782103934925 tw9383244542255873166 tw383562541133866682 tw3808375682230884990 tw4395827357695823436 tw4390743276436559262 tw10821877048257367413 tw15201105560509340193 tw7088572246635758154 tw9208836708516387330 tw47229881638351567 tw5557538446539794127 tw9326332530094643573 tw15860299311016496840 tw6763087748431777325 tw9571050549687061071 tw6489518937748658394 tw7424052727882176520 tw4110608625388438062 tw7493284000835395201 tw16910706943340745015 tw17897620656048306258 tw11738290612619601811 tw15397807982261695163 tw17232815248965191374 tw11585398455471320761 tw15405108307358350698 tw6649898616747021693 tw16455090682116684387 tw14129539534486826574 tw2481576933429632538 tw1323349830232487788 tw17521931552937119383 tw10934498933468263486 tw9190748730356103137
 tw3830913401620703662 tw12138272812224173900 tw16615721335170414282 tw5073513057058220268 tw11605652862946139907 tw9846728196498185095 tw8138389627828676139 tw13645490844518246559 tw17654111490973027716 tw899525576725466733 tw12877581849660073386 tw8977643398543057545 tw16011710022173047849 tw14316174357763980567 tw3266901586070163893 tw17182088535634746756 tw9573872061669610698 tw16649320375950369567 tw5520672651659015563 tw2732785094607934783 tw6018749736664066311 tw8736157104560544691 tw3297067772087718839 tw7832600268945581754 tw10527149501705786396 tw8942198710115321250 tw9154787428549347565 tw14763368969817156011 tw7407233568801304462 tw9885162427012228345 tw13393920909113647987 tw13863567450994317594 tw13915621290351568252 tw1132618154709596441 tw9177397766854894027 tw3485005236502334279 tw303601375829947233 tw13059434617578072866 tw8676527686892264333 tw5752261087280466937 tw4456892180116697368 tw3240101584207172868 tw14000517238252831012 tw6223632807422345525 tw14624707290109308749 tw18405880203618251354 tw13698647647831291337 tw4020268966201394710 tw4615644304734425507 tw5419066114605856573 tw2966456181519788126 tw4942423112368120967 tw6644185249059641533 tw2107012660686983857 tw17113241035996684955 tw17314185005258921584 tw16928631134096125826 tw11922391145941551696 tw9800950918700225170 tw4293092370888117826
 tw1382125499687475294 tw15781126374297738955 tw13774085665400387702 tw10887565971197778137 tw3704503321226272954 tw13595697160524752762 tw5479997593727426161 tw11383230143146025240 tw16785749067845838830 tw10045309989360939176 tw8313964025480453936 tw8095754901549399245 tw13058688177067395341 tw10834243280558469925 tw17607547359493777961 tw5127547020123137936 tw12627110746467129014 tw3555889763299265294 tw13268560523093278120 tw12292602999154959788 tw13301746579080174147 tw9041575189141140706 tw16442624618416949902 tw9064942896243589642 tw7405498891122434911 tw1320766170295531591 tw13654061087914200350 tw5041953267483175713 tw6550029196636768418 tw11694441393450673813 tw13771516734491104348 tw11983639216922643346 tw13493972390171515973 tw6745636475370835957 tw15759359427195422195 tw16815350047050863767 tw9481412835407685188 tw8656228795265121272 tw2493060926749298045 tw14177509043479600582 tw263522578198145878 tw10687697471130748751 tw5223051405236478190 tw12647096821550226108 tw8552814483046315695 tw5073864279636387273 tw15969786063423824859 tw14745519263889863808 tw10279897021758347419 tw17245215728147316733 tw17486295374452295054 tw2231554295291148299 tw6881503484119770036 tw6869199602957590562 tw7748278192507832085 tw14198105680303720024 tw17256846414499923038 tw13668030800318165119 tw10511885067273829233 tw12526679334374976530
 tw10161413703531681433 tw7761072379438276131 tw12910525567484141408 tw1092757274121227677 tw12962301797111235679 tw7268630821203027603 tw13469340829575009731 tw14121874943391741351 tw15513643431136547872 tw15235653555098892782 tw8171552687875890893 tw3599870649845511351 tw13284002435955232603 tw787158382875202402 tw15649504353697381204 tw4663653427273819992 tw6078745218681000747 tw4094973567336208567 tw15407334568974019278 tw14549612045691870122 tw5130129111744002068 tw5940817977767045294 tw6107650873399785356 tw10661201031576945320 tw15334320863251742176 tw14579481202629372783 tw12204801769434199234 tw13060714560360098685 tw3545736962530502760 tw9540884661723641279 tw8423945302529652525 tw12862647041325695657 tw4159603832015719263 tw8688667279093588565 tw16186055462419365173 tw17289476351731359379 tw17348838685769561714 tw5151599986892418167 tw3182752561255684484 tw13548121039444497116 tw12796352986902297565 tw4254392594882719602 tw7213391056188331271 tw12501615933803848176 tw15582207803476409088 tw13541210082829494742 tw10043035472571845888 tw2276769782367232350 tw2357999535099031360 tw9099534577266449653 tw7091540048412510326 tw14883166154606435545 tw13717548605789479879 tw17838499516578161790 tw9127857912847386388 tw2446842016713165040 tw17654473289968198875 tw9721011296993291486 tw2371044243994656163 tw710900411327032999
 tw343423979320660427 tw3806275107437145859 tw13792418155047093143 tw6141244070897574389 tw7278692210598794703 tw8271419757434104754 tw3552306851952708740 tw4151873196961217283 tw5062552955731102469 tw8549033186405806894 tw4300002933583369001 tw2628854620452498172 tw421532754002705352 tw14595850324781767967 tw11025632610604024594 tw14914891073655821542 tw4622053079092471205 tw117554748139255809 tw2002156036589695844 tw14888622286093404771 tw5847366255095647480 tw5320671936285492502 tw15897153343081903583 tw914146251152580836 tw2068727382392270227 tw7514771654035568659 tw15609027377592523875 tw14462806435351067244 tw9436883039675224932 tw15395861930529781113 tw16548289384865184844 tw6417908712967711815 tw5812171261579993546 tw4344276894100542450 tw4067806737583285618 tw5935794508899274809 tw7317693470890543149 tw95302401125242235 tw13514046156924125663 tw8486606783028592429 tw4012734167526794415 tw8515869585721589350 tw1264833426094301174 tw9181387338014847273 tw1741102448190673579 tw543844108139849902 tw4948333777198464856 tw2265134228885429970 tw4715450179259513006 tw4025554819745142519 tw1750303867226439327 tw11639587994522456794 tw9813996380586194812 tw80989622298378435 tw17700355443868501590 tw2692588556696139924 tw17645820205694409881 tw9943724049314773866 tw8694748704134227357 tw8505362019589323918
 tw5640148784106977515 tw4059694909420986794 tw7930604019515362091 tw18122158213117288530 tw15234225964750085015 tw4925771505585732979 tw14872564212949155882 tw14475006339920470331 tw6626888106051008553 tw11842806252724844269 tw14961199982914441356 tw99855110161899280 tw4478395885565943429 tw4082422531091268359 tw5319305774106029511 tw3281065576763323395 tw10327233899998443641 tw104790820449978704 tw16581476367949223176 tw14028271067628446669 tw11057580728656077869 tw11481466822731574814 tw3121083253090038239 tw9562717682864320428 tw593969366716779022 tw9310939745671929792 tw11618853191763401839 tw2124498999339006844 tw12983987847348689589 tw2240558561801323899 tw2640534813229540618 tw13247728306053804132 tw15030011461072217784 tw16881006950663671235 tw17918219419229858454 tw17370882564526618712 tw14959611674915157307 tw16056106001662304203 tw11994402195846554911 tw1996743506165968723 tw16577418910298508620 tw4397452477202919110 tw15408467973329652987 tw2138593291769309192 tw10640093495123023687 tw725391286645782945 tw1764519090536963703 tw3484052940282202451 tw3165332330221515680 tw4201421472537900373 tw17120939829336249614 tw12121101749738917558 tw12160241394795564219 tw3247206294597849139 tw11617783791139701276 tw10781095274609907071 tw2090304135104747960 tw15678082607907780890 tw6907385790678338820 tw141065993399514861
 tw12311058392117335956 tw6657552403365022898 tw15543033646863204685 tw1104472506623295740 tw2018975593119904668 tw5546839741693963639 tw8828636187844395764 tw15198775761691353235 tw9021280945371270442 tw5765283854857378931 tw1466731101193541133 tw690058870304787229 tw14732906906979282532 tw16155138671635370971 tw10909926972662766709 tw17536021330032336717 tw16588434016456140071 tw8757880476247875995 tw10328795765141672277 tw8715219022062439576 tw7706329831787673197 tw6391278407677679211 tw2092128538190040667 tw4908585957098686964 tw7334775239581346603 tw4716568888042704212 tw87835449457775738 tw8944611873885758618 tw16901817929129993305 tw6887996487345207482 tw3783806737099803899 tw7688194295602068695 tw1118483414807681528 tw16070226099504869030 tw5098692790179453570 tw18403557039007880448 tw4610908261385935350 tw12374449057685174712 tw994773003706199715 tw9084584306584557652 tw699367969019129470 tw3109119402234449583 tw16734879502424802556 tw444546303817711695 tw13403835907083621726 tw3682732230923471508 tw17190318537876584447 tw12743303875769142293 tw5510738467422928181 tw5959090564948636622 tw16153268058841738076 tw8716475639828270462 tw15170718089307760276 tw15911656533948255295 tw1219261455502256056 tw4722930640086704788 tw12663946822950187327 tw11465518540461217703 tw16897519461601633846 tw5508771595509754025:True)
set_option maxHeartbeats 0
namespace HD
open PySem PySem.Spec PyProof.Rows
def ic (s:Stmt) (j:Nat):Stmt:=match s with
  | .ClassDef _ _ _ b _ _ _ _ _ _ _=>b.getD j (.Pass ⟨0, 0, 0, 0⟩)
  | _=>.Pass ⟨0, 0, 0, 0⟩
def da (s:Stmt):Arguments:=match s with
  | .FunctionDef _ a _ _ _ _ _ _ _ _=>a
  | _=>⟨[],[],none,[],[],none,[]⟩
def db (s:Stmt):List Stmt:=match s with
  | .FunctionDef _ _ b _ _ _ _ _ _ _=>b
  | _=>[]
def ds (s:Stmt):Scope:=match s with
  | .FunctionDef _ _ _ _ _ _ sc _ _ _=>sc
  | _=>{ kind:=.function,names:=[],isGenerator:=false,isCoroutine:=false }
def top (i:Nat):Stmt:=PySem.Challenge.pw_cardshop_k75_desk_trays.main.body.getD i (.Pass ⟨0, 0, 0, 0⟩)
abbrev M5:Stmt:=ic (top 162) 0
abbrev M6:Stmt:=ic (top 162) 4
abbrev M3:Stmt:=ic (top 162) 2
abbrev M7:Stmt:=ic (top 162) 3
abbrev M4:Stmt:=ic (top 162) 5
abbrev M8:Stmt:=ic (top 162) 1
abbrev r (a:Nat):Value:=.ref a
abbrev s (x:String) (t:Nat):Value:=.str (Str.ofString x) t
abbrev dO (P:Params) (c:Value) (l:List (String × Nat × Value)) (n:Nat):Obj:=⟨c, none, .dict ⟨l.map fun e=>⟨PyData.keyHash P (Str.ofString e.1), s e.1 e.2.1, e.2.2⟩⟩ n, #[]⟩
abbrev cO (n:String) (b m:List Value) (a:Nat) (u:List Value) (l:Array (Option Value)):Obj:=⟨.type "type", none, .cls { name:=Str.ofString n, bases:=b, mro:=m, ns:=a, qualname:=Str.ofString n, subclasses:=u }, l⟩
abbrev eO (n:String) (t:Nat) (q:String) (t2 l k f:Nat) (v:Value) (b:Bool) (vs:List Value) (u z:Nat):Obj:=⟨.type "code", none, .fields ⟨[s n t, s q t2, s "/claim/cut.py" (t2 + 1), .int l 0, .int k 0, .int 0 0, .int 0 0, .int f 0, v, .bool b, .int 181 0] ++ vs ++ [.int u 0, .int l 0, s "/claim/cut.py" z]⟩, #[]⟩
abbrev fO (n q:String) (st:Stmt) (p:Value) (c:Nat):Obj:=⟨.type "function", none, .func (PySem.W.fnOf (Str.ofString n) (Str.ofString q) (da st) (db st) (ds st) .none .none .none p none (.ref c) .none), #[]⟩
abbrev tO (l:List Value) (n:Nat):Obj:=⟨.type "tuple", none, .seq ⟨l⟩ n, #[]⟩
abbrev xO (n:String) (a d b t u:Nat):Obj:=cO n [r 31] [r a,r 31,.type "ValueError",.type "Exception",.type "BaseException",.type "object"] d [] #[some (r b),none,some (s n t),some (s n u),some (.builtin "ValueError.__new__"),some (.bool true)]
abbrev xD (P:Params) (a b c d e f g:Nat):Obj:=dO P (.type "dict") [("__module__",a,s "cardshop.errors" 194),("__firstlineno__",b,.int c d),("__static_attributes__",e,r f),("__doc__",g,.none)] 2
abbrev fQ (n:String):=fO n n
abbrev eQ (n:String) (t u l k:Nat) (v:Value):=eO n t n u l k 3 v true
abbrev S0:=s "law_cardshop_k75_desk_trays" 2128
abbrev S1:=s "cardshop.desk" 1961
abbrev S2:=s "cardshop.cards" 380
noncomputable def kk (P:Params):PySem.W.Frag:=(nat_lit 2,dO P .none [] 0)::
(nat_lit 3,dO P (.type "dict") [("__name__",165,s "law_cardshop_k75_desk_trays" 2128),("__doc__",166,.none),("__package__",167,.none),("__loader__",168,.builtin "__main__.__loader__#opaque"),("__spec__",169,.none),("__annotations__",170,r 6),("__builtins__",171,r 4),("__file__",173,s "/claim/cut.py" 172),("__cached__",174,.none),("_wall",193,r 21),("ShopError",213,r 31),("NoCard",229,r 44),("NoField",245,r 56),("NoOrder",272,r 75),("NoBoard",288,r 87),("Meet",315,r 106),("NoAsking",331,r 118),("NoTray",347,r 130),("NoPlan",363,r 142),("NoRow",379,r 154),("SIGNS",383,s " 0123456789ABCDEFGHIJKLMNOPQRSTUVWXYZ" 382),("CARD_WIDTH",385,.int 40 384),("BODY_WIDTH",387,.int 36 386),("is_sign",394,r 163),("are_signs",400,r 168),("rank_of",407,r 175),("card_of",414,r 182),("mark_of",421,r 189),("sign_at",429,r 196),("shown_blanks",436,r 203),("read_blanks",443,r 210),("FIGURES",447,s "0123456789" 446),("is_whole",454,r 217),("ten_to",463,r 224),("number_by",472,r 231),("read_whole",478,r 236),("is_column",488,r 243),("make_board",494,r 248),("lay_out",500,r 253),("copy_deck",506,r 258),("is_field",516,r 265),("field_of",524,r 272),("width_of",531,r 279),("columns_of",538,r 286),("are_apart",546,r 293),("part_of",554,r 300),("number_of",560,r 305),("punch_in",571,r 312),("read_field",577,r 317),("shown_field",586,r 324),("gather",597,r 331),("put_back",603,r 336),("picked_signs",614,r 343),("SMALL_LETTERS",618,s "abcdefghijklmnopqrstuvwxyz" 617),("LONGEST_NAME",620,.int 8 619),("MATING_WORDS",623,r 344),("WORK_WORDS",627,r 345),("MOST_BREAKS",629,.int 3 628),("MOST_FIGURES",631,.int 12 630),("MOST_PICKS",633,.int 8 632),("MOST_KEYS",635,.int 6 634),("MOST_WORKS",637,.int 4 636),("MOST_SUMS",639,.int 4 638),("Asking",686,r 363),("own_list",693,r 374),("mates_by",700,r 381),("names_of",707,r 388),("middle_fields",714,r 395),("break_fields",721,r 402),("pick_passes",727,r 407),("is_name",733,r 412),("is_board",741,r 419),("ask_for",749,r 426),("check_asking",757,r 433),("check_lengths",764,r 440),("check_middle_word",772,r 447),("check_names",781,r 454),("fields_due",787,r 459),("check_picks",795,r 466),("check_middle_widths",803,r 473),("check_counting",810,r 480),("check_works",820,r 487),("fields_kept",826,r 492),("read_span",834,r 497),("read_piece",840,r 502),("read_board",849,r 509),("Clauses",913,r 554),("read_number",921,r 565),("read_listed",927,r 570),("read_picks",936,r 577),("read_middle",945,r 584),("read_works",954,r 591),("read_print",962,r 598),("asking_of",979,r 605),("read_asking",987,r 612),("shown_work",995,r 619),("ranks_at",1003,r 624),("comes_ahead",1012,r 631),("out_at",1021,r 638),("put_in_order",1030,r 645),("check_order",1042,r 652),("check_decks",1052,r 659),("parts_in",1062,r 666),("with_parts",1068,r 671),("without_parts",1074,r 676),("pour_decks",1089,r 683),("first_cards",1102,r 690),("Wheel",1173,r 742),("Counter",1271,r 811),("lines_of",1285,r 822),("work_card",1298,r 829),("Machine",1379,r 893),("Dealer",1426,r 935),("Picker",1461,r 961),("OrderedMachine",1504,r 994),("Mater",1542,r 1020),("Firster",1567,r 1039),("Puncher",1600,r 1065),("Printer",1651,r 1105),("mater_of",1660,r 1114),("machine_of",1669,r 1121),("ASIDE",1673,s "-" 1672),("copied_going",1679,r 1126),("Clerk",1793,r 1218),("wanted_signs",1802,r 1229),("free_columns",1814,r 1236),("middle_columns",1821,r 1243),("is_first",1828,r 1250),("cut_behind",1834,r 1255),("wanted_columns",1842,r 1262),("late_length",1852,r 1269),("is_late_length",1858,r 1274),("early_columns",1864,r 1279),("deals_of",1870,r 1284),("other_deals",1877,r 1291),("middle_goings",1885,r 1298),("last_goings",1891,r 1303),("plan_of",1897,r 1308),("check_trays",1908,r 1315),("picked_deck",1914,r 1320),("middle_deck",1926,r 1327),("key_columns",1935,r 1334),("worked_card",1945,r 1341),("chosen_deck",1951,r 1346),("told_lines",1960,r 1353),("ROWS",1990,r 1354),("words_of",1999,r 1369),("text_behind",2007,r 1376),("read_card",2014,r 1383),("check_new_name",2021,r 1390),("shown_going",2029,r 1397),("Desk",2127,r 1466),("_law_cell_at",2137,r 1477),("_law_text",2147,r 1484),("_law_card",2155,r 1491),("_law_names",2161,r 1496),("_law_word",2169,r 1503),("_law_kinds",2177,r 1510),("_law_no_tray",2187,r 1517),("_law_shown",2199,r 1524),("_law_said",2205,r 1529),("law",2211,r 1534)] 162)::
(nat_lit 30,dO P (.type "dict") [("__module__",203,s "cardshop.errors" 194),("__firstlineno__",207,.int 5 206),("__static_attributes__",208,r 29),("__weakref__",210,r 32),("__doc__",211,.none)] 3)::
(nat_lit 31,cO "ShopError" [.type "ValueError"] [r 31,.type "ValueError",.type "Exception",.type "BaseException",.type "object"] 30 [r 44,r 56,r 75,r 87,r 106,r 118,r 130,r 142,r 154] #[some (r 22),none,some (s "ShopError" 196),some (s "ShopError" 204),some (.builtin "ValueError.__new__"),some (.bool true)])::
(nat_lit 43,xD P 221 225 7 224 226 42 227)::
(nat_lit 44,xO "NoCard" 44 43 35 214 222)::
(nat_lit 55,xD P 237 241 9 240 242 54 243)::
(nat_lit 56,xO "NoField" 56 55 47 230 238)::
(nat_lit 74,dO P (.type "dict") [("__module__",253,s "cardshop.errors" 194),("__firstlineno__",257,.int 11 256),("__init__",266,r 72),("__static_attributes__",269,r 73),("__doc__",270,.none)] 2)::
(nat_lit 75,xO "NoOrder" 75 74 59 246 254)::
(nat_lit 86,xD P 280 284 17 283 285 85 286)::
(nat_lit 87,xO "NoBoard" 87 86 78 273 281)::
(nat_lit 105,dO P (.type "dict") [("__module__",296,s "cardshop.errors" 194),("__firstlineno__",300,.int 19 299),("__init__",309,r 103),("__static_attributes__",312,r 104),("__doc__",313,.none)] 2)::
(nat_lit 106,xO "Meet" 106 105 90 289 297)::
(nat_lit 117,xD P 323 327 25 326 328 116 329)::
(nat_lit 118,xO "NoAsking" 118 117 109 316 324)::
(nat_lit 129,xD P 339 343 27 342 344 128 345)::
(nat_lit 130,xO "NoTray" 130 129 121 332 340)::
(nat_lit 141,xD P 355 359 29 358 360 140 361)::
(nat_lit 142,xO "NoPlan" 142 141 133 348 356)::
(nat_lit 153,xD P 371 375 31 374 376 152 377)::
(nat_lit 154,xO "NoRow" 154 153 145 364 372)::
(nat_lit 167,eQ "are_signs" 395 396 39 1 (r 164) [r 165,.none,.none,.none,r 166] 398 399)::
(nat_lit 168,fQ "are_signs" (top 17) S2 167)::
(nat_lit 181,eQ "card_of" 408 409 45 1 (r 176) [r 177,.none,r 178,r 179,r 180] 412 413)::
(nat_lit 182,fQ "card_of" (top 19) S2 181)::
(nat_lit 209,eQ "read_blanks" 437 438 55 1 (r 204) [r 205,.none,r 206,r 207,r 208] 441 442)::
(nat_lit 210,fQ "read_blanks" (top 23) S2 209)::
(nat_lit 411,eQ "is_name" 728 729 192 1 (r 408) [r 409,.none,.none,.none,r 410] 731 732)::
(nat_lit 412,fQ "is_name" (top 69) (s "cardshop.askings" 615) 411)::
(nat_lit 1354,dO P (.type "dict") [("deck",1963,r 1355),("show",1965,r 1356),("drop",1968,r 1357),("copy",1971,r 1358),("pour",1973,r 1359),("ask",1976,r 1360),("read",1978,r 1361),("plan",1980,r 1362)] 8)::
(nat_lit 1355,tO [.int 2 1964,.none] 0)::
(nat_lit 1356,tO [.int 2 1966,.int 2 1967] 0)::
(nat_lit 1357,tO [.int 2 1969,.int 2 1970] 0)::
(nat_lit 1358,tO [.int 3 1972,.none] 0)::
(nat_lit 1359,tO [.int 6 1974,.int 6 1975] 0)::
(nat_lit 1360,tO [.int 2 1977,.none] 0)::
(nat_lit 1361,tO [.int 2 1979,.none] 0)::
(nat_lit 1362,tO [.int 2 1981,.none] 0)::
(nat_lit 1368,eQ "words_of" 1991 1992 848 1 (r 1363) [r 1364,.none,r 1365,r 1366,r 1367] 1997 1998)::
(nat_lit 1369,fQ "words_of" (top 157) S1 1368)::
(nat_lit 1382,eQ "read_card" 2008 2009 860 1 (r 1377) [r 1378,.none,r 1379,r 1380,r 1381] 2012 2013)::
(nat_lit 1383,fQ "read_card" (top 159) S1 1382)::
(nat_lit 1389,eQ "check_new_name" 2015 2016 862 1 (r 1384) [r 1385,.none,r 1386,r 1387,r 1388] 2019 2020)::
(nat_lit 1390,fQ "check_new_name" (top 160) S1 1389)::
(nat_lit 1410,eO "__init__" 2042 "Desk.__init__" 2043 880 1 3 (r 1405) true [r 1406,.none,r 1407,r 1408,r 1409] 2046 2047)::
(nat_lit 1411,fO "__init__" "Desk.__init__" M5 S1 1410)::
(nat_lit 1415,eO "say" 2049 "Desk.say" 2050 883 2 3 (r 1412) true [r 1413,.none,.none,.none,r 1414] 2052 2053)::
(nat_lit 1416,fO "say" "Desk.say" M8 S1 1415)::
(nat_lit 1422,eO "check_stands" 2055 "Desk.check_stands" 2056 902 2 3 (r 1417) true [r 1418,.none,r 1419,r 1420,r 1421] 2060 2061)::
(nat_lit 1423,fO "check_stands" "Desk.check_stands" M3 S1 1422)::
(nat_lit 1429,eO "deck_by" 2063 "Desk.deck_by" 2064 906 2 3 (r 1424) true [r 1425,.none,r 1426,r 1427,r 1428] 2068 2069)::
(nat_lit 1430,fO "deck_by" "Desk.deck_by" M7 S1 1429)::
(nat_lit 1434,eO "lay_deck" 2071 "Desk.lay_deck" 2072 910 2 3 (r 1431) true [r 1432,.none,.none,.none,r 1433] 2074 2075)::
(nat_lit 1435,fO "lay_deck" "Desk.lay_deck" M6 S1 1434)::
(nat_lit 1441,eO "drop_tray" 2077 "Desk.drop_tray" 2078 915 2 3 (r 1436) true [r 1437,.none,r 1438,r 1439,r 1440] 2082 2083)::
(nat_lit 1442,fO "drop_tray" "Desk.drop_tray" M4 S1 1441)::
(nat_lit 1465,dO P (.type "dict") [("__module__",2037,s "cardshop.desk" 1961),("__firstlineno__",2041,.int 878 2040),("__init__",2048,r 1411),("say",2054,r 1416),("check_stands",2062,r 1423),("deck_by",2070,r 1430),("lay_deck",2076,r 1435),("drop_tray",2084,r 1442),("copy_tray",2094,r 1449),("pour_trays",2107,r 1456),("follow_plan",2118,r 1463),("__static_attributes__",2120,r 1464),("__dict__",2122,r 1467),("__weakref__",2124,r 1468),("__doc__",2125,.none)] 4)::
(nat_lit 1466,cO "Desk" [.type "object"] [r 1466,.type "object"] 1465 [] #[none,none,some (s "Desk" 2030),some (s "Desk" 2038),some (.builtin "object.__new__"),some (.bool true)])::
(nat_lit 1476,eQ "_law_cell_at" 2130 2131 950 2 (r 1471) [r 1472,.none,r 1473,r 1474,r 1475] 2135 2136)::
(nat_lit 1477,fQ "_law_cell_at" (top 164) S0 1476)::
(nat_lit 1483,eQ "_law_text" 2138 2139 954 1 (r 1478) [r 1479,.none,r 1480,r 1481,r 1482] 2145 2146)::
(nat_lit 1484,fQ "_law_text" (top 165) S0 1483)::
(nat_lit 1490,eQ "_law_card" 2148 2149 961 1 (r 1485) [r 1486,.none,r 1487,r 1488,r 1489] 2153 2154)::
(nat_lit 1491,fQ "_law_card" (top 166) S0 1490)::
(nat_lit 1495,eQ "_law_names" 2156 2157 966 2 (r 1492) [r 1493,.none,.none,.none,r 1494] 2159 2160)::
(nat_lit 1496,fQ "_law_names" (top 167) S0 1495)::
(nat_lit 1502,eQ "_law_word" 2162 2163 976 2 (r 1497) [r 1498,.none,r 1499,r 1500,r 1501] 2167 2168)::
(nat_lit 1503,fQ "_law_word" (top 168) S0 1502)::
(nat_lit 1509,eQ "_law_kinds" 2170 2171 982 1 (r 1504) [r 1505,.none,r 1506,r 1507,r 1508] 2175 2176)::
(nat_lit 1510,fQ "_law_kinds" (top 169) S0 1509)::
(nat_lit 1516,eQ "_law_no_tray" 2178 2179 986 2 (r 1511) [r 1512,.none,r 1513,r 1514,r 1515] 2185 2186)::
(nat_lit 1517,fQ "_law_no_tray" (top 170) S0 1516)::
(nat_lit 1523,eQ "_law_shown" 2188 2189 993 4 (r 1518) [r 1519,.none,r 1520,r 1521,r 1522] 2197 2198)::
(nat_lit 1524,fQ "_law_shown" (top 171) S0 1523)::
(nat_lit 1528,eQ "_law_said" 2200 2201 1005 5 (r 1525) [r 1526,.none,.none,.none,r 1527] 2203 2204)::
(nat_lit 1529,fQ "_law_said" (top 172) S0 1528)::
(nat_lit 1533,eQ "law" 2206 2207 1019 1 (r 1530) [r 1531,.none,.none,.none,r 1532] 2209 2210)::
(nat_lit 1534,fQ "law" (top 173) S0 1533)::[]
def ka:List Addr:=[nat_lit 2,nat_lit 3,nat_lit 30,nat_lit 31,nat_lit 43,nat_lit 44,nat_lit 55,nat_lit 56,nat_lit 74,nat_lit 75,nat_lit 86,nat_lit 87,nat_lit 105,nat_lit 106,nat_lit 117,nat_lit 118,nat_lit 129,nat_lit 130,nat_lit 141,nat_lit 142,nat_lit 153,nat_lit 154,nat_lit 167,nat_lit 168,nat_lit 181,nat_lit 182,nat_lit 209,nat_lit 210,nat_lit 411,nat_lit 412,nat_lit 1354,nat_lit 1355,nat_lit 1356,nat_lit 1357,nat_lit 1358,nat_lit 1359,nat_lit 1360,nat_lit 1361,nat_lit 1362,nat_lit 1368,nat_lit 1369,nat_lit 1382,nat_lit 1383,nat_lit 1389,nat_lit 1390,nat_lit 1410,nat_lit 1411,nat_lit 1415,nat_lit 1416,nat_lit 1422,nat_lit 1423,nat_lit 1429,nat_lit 1430,nat_lit 1434,nat_lit 1435,nat_lit 1441,nat_lit 1442,nat_lit 1465,nat_lit 1466,nat_lit 1476,nat_lit 1477,nat_lit 1483,nat_lit 1484,nat_lit 1490,nat_lit 1491,nat_lit 1495,nat_lit 1496,nat_lit 1502,nat_lit 1503,nat_lit 1509,nat_lit 1510,nat_lit 1516,nat_lit 1517,nat_lit 1523,nat_lit 1524,nat_lit 1528,nat_lit 1529,nat_lit 1533,nat_lit 1534]
theorem ae (P:Params):ka = (kk P).map (·.1):=by kernel_rfl
end HD
local macro_rules | `(tactic| k_head)=>`(tactic| o_head (PySem.W.kmHook HD.kk HD.ka HD.ae []))
open_top HD.h for PySem.Challenge.rw_cardshop_k75_desk_trays
set_option maxHeartbeats 4000000
noncomputable section
open Bool renaming and_eq_true→iP,and_eq_true_iff→jP,false_ne_true→kQ,or_eq_true→lC,or_self→nF,eq_iff_iff→p9,and_false→qm,false_or→qp,true→rR,false→rS
open PySem renaming Value→iX,Shared→iY,wpAny_bind→iZ,Addr→i9,sizeLine→jj,Expr→jw,wpAny_pure→jy,wpAny→jD,starEach→jE,mainGlobals→jJ,Program→jL,World→jU,Around→jW,compareOp→jX,wpAny_mono→ke,Stmt→kq,wpAny_truthy_bool→kz,assignEach→kP,FuncData→kZ,backTo→lh,wpAny_Call_Name_kw→ll,mem_of_lookup→lB,strIterType→lH,binaryOp→lO,bootBuiltins→lP,keywordEach→lS,NameKind→lT,backToKw→mH,wpAny_passesOwn→mP,wpAny_field→mT,Within→oF,Ctx→pS,Obj→qb,call→ql
open Nat renaming lt_of_lt_of_le→i6,le_refl→jt,ne_of_lt→jT,le_add_right→jZ,le_trans→ki,succ_pos→kn,zero_le→lZ,min_self→mB,lt_irrefl→mG,lt_succ_self→m6,le_of_eq→nB,toDigits_of_lt_base→oq,lt_trans→oN,toDigits→oO,le_of_ble_eq_true→oZ,le_succ→pb,digitChar→pC,le_of_lt→pN,ne_of_gt→pO,lt_succ_of_lt→pQ,le_of_not_lt→pW,mul_comm→qE,add_mul→rA
open List renaming length_map→i7,replicate→i8,mem_cons_self→je,getElem?_eq_getElem→jf,length_cons→jg,mem_cons_of_mem→ji,size_toArray→jq,mem_append_right→jr,map_cons→ju,getElem?_map→jB,length_append→jC,isEmpty_iff→jH,getElem?_set_ne→jI,mem_cons→jK,getElem?_eq_some_iff→jN,zip_cons_cons→jR,mem_singleton→jS,range→jV,all_cons→jY,mem_map→j4,length_take→j7,replicate_succ→ka,mem_append→kg,mem_append_left→kj,length_range→kl,map_map→km,append_nil→ko,map_append→kr,length_drop→kx,all_eq_true→ky,eraseIdx_cons_succ→kE,mem_range→kH,getElem?_append_right→kR,find?_cons→kX,getElem?_set_self→kY,map_congr_left→la,getElem?_set→lb,length_replicate→lg,length_set→lj,length_eq_zero_iff→lp,cons_append→lq,getD_eq_getElem?_getD→lA,getElem?_append_left→lD,set_cons_succ→lG,flatten_cons→lI,exists_cons_of_length_eq_add_one→lJ,of_mem_zip→lL,length_eq_one_iff→lQ,set_cons_zero→lV,length_zip→lX,nil_append→lY,mem_of_getElem?→l6,mem_of_mem_take→l7,getElem?_mapIdx→l8,filterMap_cons→me,getElem?_cons_succ→mj,map_nil→mn,find?_cons_of_neg→mr,nodup_cons→mw,append_assoc→mx,set_set→mC,mem_of_find?_eq_some→mE,getElem_of_mem→mF,any_cons→mJ,idxOf_lt_length_iff→mM,filterMap_map→mQ,length_mapIdx→mR,lookup→mS,take_of_length_le→mU,any_eq_true→m8,getElem_mem→m9,filter_cons→nh,getElem_map→ni,length→nr,length_eraseIdx→nu,foldl_cons→nv,mem_filterMap→nH,getElem_range→nM,drop_eq_getElem_cons→nP,mem_or_eq_of_mem_set→nQ,ext_getElem?→nU,nodup_append→nV,eq_of_mem_replicate→n5,drop_length→ox,lookup_cons→oy,map_snd_zip→oz,eraseIdx_cons_zero→oA,foldl→oM,map_id'→oQ,mem_filter→oR,length_nil→oU,idxOf_cons→oV,find?_some→oW,length_singleton→oX,length_filter_le→oY,drop_zero→pd,mem_of_mem_drop→pj,map_eq_nil_iff→px,filter_eq_self→pz,take_nil→pD,sum_cons→pE,any_eq_false→pP,map_set→pR,map_id→pZ,forIn_cons→p5,drop_nil→qq,set_comm→qr,map→rG
open PySem.Heap renaming get?_push_of_some→jo,lt_size→jF,get?_push_size→jO,get?_update_other→ly,get?_update_self→mY,SameBut→oG,size_push→o8,NotedW→pf,LeftW→pJ,IsListIter→qa
open Option renaming bind_eq_some_iff→jv,map_eq_some_iff→jz,isSome_iff_exists→j6,isNone_iff_eq_none→kf,isSome_map→mW,isSome_some→pM,getD_none→pV,none→rz,some→rP,none→rQ
open PySem.W renaming Frag→jG,Frag→j3,hideAll_none→lu,findIn→lE,nsIn→lF,keepIn→mh,kia_one→mi,emptyDict→mm,instObj→m5,funFrames_hide→ng,hasDictIn→nq,of_hideAll→nz,plainGet→nI,hideAll_get→nW,looks_mroIn→nZ,hideAll→n6,cellsFrom_some→oh,codeIn→oj,callWith_K→oH,plainOver→o7,specialIn→o9,mroIn→pq,plainGet_of→pA,callWith_K0→pB,nsMap_none_of_in→pK,callWith_K→pL,makesIn→pT,methodObj→pY,methodCall_KW→p6,mg_of→qe,lookIn→qf,kitOne→qg,looks_typeIn→qj,takerIn→qu,OpenLaw→qv,isFn→qA,codeRec_of→qB,isNs_of_in→qF,clsIn→qG,Looks→qH,typeIn→rq
open False renaming elim→jM
open PySem.Value renaming ref→jQ,none→lK,isStrOf→lR,bool→my,str→m4,builtin→nj,int→nG,type→pH,float→pX,isInt→rm,bytes→rp
open PySem.Builtin.Str renaming strSliceIndices→j5,occurrences→mf,tooLong→pv,glued→rM
open Option.some renaming inj→j8
open Int renaming emod_lt_of_pos→j9,emod_nonneg→ku,ediv_one→qC
open PySem.Builtin.Int renaming intBits→kb
open PySem.Str renaming length→k9,ofString→oJ,empty→pk
open True renaming intro→lx
open Array renaming length_toList→lM,getElem?_eq_some_iff→lU,getElem?_setIfInBounds_ne→mX,toList→nA,getD_eq_getD_getElem?→nD
open PySem.Builtin.Slice renaming slicePlaces→lW,sliceAdjust→mD,sliceApplied→nJ,slicePartIndex→p7,sliceFields→qo
open PySem.Builtin.Tuple renaming tupleExact→l9,tupleItemsOf→qh
open PyProof.Rows renaming slot_tuple_getitem→ma,callWith_type1→nC,assign_Tuple→nO,callWith_builtin1→pU,split_pos→qI
open PySem.SeqAt renaming RcAt→mq,RcNeAt→mz,ne_of_list_tuple→oP,EqAt→qi
open PySem.Builtin.List renaming listTooLong→mK
open PySem.Obj renaming mapFields→mL,isFreed_of_fields→mZ,data_mapFields→nK,mapSeq→oK
open Ne renaming symm→mO
open PySem.F renaming plainAttrs_str→mV,slot_dict_pop→m3,excBase_ValueError→nL,args_str_split_2→nN,entry_str_split→nS,args_tuple_add_2→nY,entry_tuple_add→om,slot_str_split→ou,plainAttrs_dict→oE,slot_tuple_add→oI,type_dict_pop→o6,excAttr_ValueError→ph,slot_str_getitem→pI,slot_int_rmul→p8
open PySem.Builtin renaming divisionGoesByPylong→ny
open Nat.succ renaming inj→nE
open PySem.StrLaws renaming subAt_one→nR
open PySem.Builtin.Range renaming rangeSize→og
open PySem.Env renaming kindOf→oB
open PySem.SeqAt.EqAt renaming same→oS,int_str→pF,str_int→pG
open Sum renaming inl→qc,inr→qd
open PySem.SeqAt.RcNeAt renaming lists_lengths→qk,tuple_none→qw,tuple_bool→qx,none_tuple→qy,bool_tuple→qz,none_none→qJ,none_bool→qK,bool_none→qL,bool_bool→qM,list_none→qN,list_bool→qO,none_list→qP,bool_list→qQ,tuple_int→qR,tuple_str→qS,int_tuple→qT,str_tuple→qU,none_int→qV,none_str→qW,bool_int→qX,bool_str→qY,int_none→qZ,int_bool→q8,str_none→q9,str_bool→rb,list_int→rd,list_str→rf,int_list→rg,str_list→rj,int_int→rB,int_str→rD,str_int→rE,str_str→rF,tuples→rH,lists→rK
open List.cons renaming inj→qt
open PySem.Heap.IsSliceOf renaming new→rJ
open PySem.Within renaming cons→rL
open List.Pairwise renaming nil→rN
open PySem.Heap.DictOf renaming new→rO
namespace L2
open PySem PySem.Spec PyProof.Rows
theorem sN.{u}{α:Type u}(a:α):rP a≠rQ:=Option.some_ne_none a
noncomputable abbrev Fgg:=jG
noncomputable abbrev Pnn:=List (i9×qb)
noncomputable abbrev Key:=Sum Int Str
def keyIs:Key->iX->Bool
 |.inl k,v=>rm k v|.inr x,v=>lR x v
def keyH (w:jU):Key->Int
 |.inl k=>hashInt k|.inr x=>hashStr w x
theorem zu_:∀{k:Key}{v:iX},keyIs k v=rR->(∃i t,k=qc i/\v=nG i t)\/(∃x t,k=qd x/\v=m4 x t)
 |.inl i,v,h=>by
  obtain⟨t,e⟩:=Value.isInt_shape (k:=i) (v:=v) h;exact .inl ⟨i,t,rfl,e⟩
 |.inr x,v,h=>by
  obtain⟨t,e⟩:=Value.isStrOf_shape (x:=x) (v:=v) h;exact .inr ⟨x,t,rfl,e⟩
theorem zf7_ (i:Int)(t:Tok):keyIs (.inl i) (.int i t)=rR:=by simp[keyIs,rm]
theorem zfv_ (x:Str)(t:Tok):keyIs (.inr x) (.str x t)=rR:=by simp[keyIs,lR]
theorem znI_ (a b:Int):decide ((qc a:Key)=qc b)=(a == b):=by
 grind
theorem zmr_ (a b:Str):decide ((qd a:Key)=qd b)=decide (a=b):=by
 grind
theorem znz_ (a:Int)(b:Str):decide ((qc a:Key)=qd b)=rS:=decide_eq_false (λq=>nomatch q)
theorem zmo_ (a:Str)(b:Int):decide ((qd a:Key)=qc b)=rS:=decide_eq_false (λq=>nomatch q)
def mixKind (prog:jL)(w:jU):PySem.KeyKind prog w Key where
 is:=keyIs
 hash:=keyH w
 inj:=λv a b ha hb=>by
  rcases zu_ ha with⟨i,t,rfl,rfl⟩|⟨x,t,rfl,rfl⟩
  ·rcases zu_ hb with⟨j,u,rfl,e⟩|⟨y,u,rfl,e⟩
   ·injection e with e1 _;rw[e1]
   ·exact nomatch e
  ·rcases zu_ hb with⟨j,u,rfl,e⟩|⟨y,u,rfl,e⟩
   ·exact nomatch e
   ·injection e with e1 _;rw[e1]
 byValue:=λk v h=>by
  rcases zu_ h with⟨i,t,rfl,rfl⟩|⟨x,t,rfl,rfl⟩<;>rfl
 pyHash:=λhv h=>by
  rcases zu_ hv with⟨i,t,rfl,rfl⟩|⟨x,t,rfl,rfl⟩
  ·exact wpAny_pyHash_int h
  ·exact wpAny_pyHash_str h
 eqBool:=λhu hv h=>by
  rcases zu_ hu with⟨i,t,rfl,rfl⟩|⟨x,t,rfl,rfl⟩
  ·rcases zu_ hv with⟨j,u,rfl,rfl⟩|⟨y,u,rfl,rfl⟩
   ·rw[znI_]at h;exact wpAny_eqBool_int h
   ·rw[znz_]at h;exact pF i t y u _ _ _ _ h
  ·rcases zu_ hv with⟨j,u,rfl,rfl⟩|⟨y,u,rfl,rfl⟩
   ·rw[zmo_]at h;exact pG x t j u _ _ _ _ h
   ·rw[zmr_]at h;exact wpAny_eqBool_str h
 «strs»:=λk x t v h=>by
  rcases zu_ h with⟨i,u,rfl,e⟩|⟨y,u,rfl,e⟩
  ·exact nomatch e
  ·injection e with e1 _
   subst e1;cases v<;>rfl
theorem zdT_ (prog:jL)(w:jU)(k:Key)(v:iX):(mixKind prog w).is k v=keyIs k v:=rfl
theorem zdC_ (prog:jL)(w:jU)(i:Int)(t:Tok):(mixKind prog w).is (.inl i) (.int i t)=rR:=zf7_ i t
theorem zdu_ (prog:jL)(w:jU)(x:Str)(t:Tok):(mixKind prog w).is (.inr x) (.str x t)=rR:=zfv_ x t
inductive V where
 |non |bl (b:Bool)|int (i:Int)|str (x:Str)|byt (b:Array UInt8)|flt (b:UInt64)|ref (a:i9)|ty (n:String)
 deriving DecidableEq
noncomputable def RelV:V->iX->Prop
 |.non,u=>u=lK|.bl b,u=>u=my b|.int i,u=>∃t,u=nG i t|.str x,u=>∃t,u=m4 x t|.byt b,u=>∃t,u=rp b t|.flt b,u=>∃t,u=pX b t|.ref a,u=>u=jQ a|.ty n,u=>u=pH n
abbrev Vals:List V->List iX->Prop:=Paired RelV
theorem Vals.length {xs:List V}{us:List iX}(r:Vals xs us):xs.length=us.length:=Paired.length r
theorem Vals.get:∀{xs:List V}{us:List iX}{i:Nat}{x:V},Vals xs us->xs[i]?=rP x->∃u,us[i]?=rP u/\RelV x u
 |_,_,_,_,.nil,e=>by simp at e
 |_,_,0,_,.cons r _,e=>by simp at e;subst e;exact⟨_,rfl,r⟩
 |_,_,i+1,x,.cons _ t,e=>by
  obtain⟨u,h1,h2⟩:=Vals.get (i:=i) (x:=x) t (by simpa using e)
  exact⟨u,by simpa using h1,h2⟩
theorem Vals.set {x:V}{u:iX}(r:RelV x u):∀{xs:List V}{us:List iX}(i:Nat),Vals xs us->Vals (xs.set i x) (us.set i u)
 |_,_,_,.nil=>.nil|_,_,0,.cons _ t=>.cons r t|_,_,i+1,.cons q t=>.cons q (Vals.set r i t)
theorem Vals.append:∀{xs ys:List V}{us ws:List iX},Vals xs us->Vals ys ws->Vals (xs++ys) (us++ws)
 |_,_,_,_,.nil,s=>s|_,_,_,_,.cons r t,s=>.cons r (Vals.append t s)
theorem Vals.take:∀{xs:List V}{us:List iX}(n:Nat),Vals xs us->Vals (xs.take n) (us.take n)
 |_,_,0,_=>.nil|_,_,_+1,.nil=>.nil|_,_,n+1,.cons r t=>.cons r (Vals.take n t)
theorem Vals.drop:∀{xs:List V}{us:List iX}(n:Nat),Vals xs us->Vals (xs.drop n) (us.drop n)
 |_,_,0,r=>r|_,_,_+1,.nil=>.nil|_,_,n+1,.cons _ t=>Vals.drop n t
def RelO:Option V->Option iX->Prop
 |some v,rP u=>RelV v u|none,rQ=>True|_,_=>False
def KV {κ:Type}:List (κ×V)->List (κ×iX)->Prop:=Paired λ(p:κ×V) (q:κ×iX)=>p.1=q.1/\RelV p.2 q.2
def kV:Key->V
 |.inl i=>.int i|.inr x=>.str x
inductive HO where
 |lst (xs:List V)
 |tup (xs:List V)
 |dK (kvs:List (Key×V))|dT (kvs:List (List Key×V))
 |set (S:Int->Bool) (n:Nat)
 |ins (C dx:i9) (fs:List (Str×V))
 |own (x:i9)
 |xd (fs:List (Str×V))
 |met (f x:i9)
 |rng (lo hi:Int)
 |frz (o:qb) (u:HO)
 |tbl (pos:Pos) (qual:Str)
 |ext (φ:Heap->Prop)
noncomputable abbrev Hp:=i9->Option HO
def upd (H:Hp)(a:i9)(o:HO):Hp:=λb=>if b=a then rP o else H b
theorem zj_ {H:Hp}{a:i9}{o:HO}:upd H a o a=rP o:=by unfold upd;rw[if_pos rfl]
theorem zv_ {H:Hp}{a b:i9}{o:HO}(h:b≠a):upd H a o b=H b:=by unfold upd;rw[if_neg h]
theorem ne_of {H:Hp}{a b:i9}{o u:HO}(h:H a=rP o)(h':H b=rP u)(d:o≠u):a≠b:=by
 intro e;subst e;rw[h]at h';exact d (j8 h')
theorem zR_ {H:Hp}{a b:i9}{o:HO}(h:H a=rP o)(h':H b=rQ):a≠b:=by
 intro e;subst e;rw[h]at h';cases h'
section
variable (P:jL)(w:jU)
def ObjOk (H:Hp)(h:Heap)(a:i9):HO->Prop
 |.lst xs=>xs.length<=jj/\∃(aa:List iX) (n:Nat),Vals xs aa/\h.get? a=rP {cls:=.type "list",data:=.seq aa.toArray n}|.tup xs=>xs.length<=jj/\∃aa:List iX,Vals xs aa/\IsTup h a aa.toArray|.dK kvs=>kvs.length<=jj/\(a == sysModules)=rS/\∃vs,KV kvs vs/\h.DictOf (mixKind P w) a vs| .dT kvs=>kvs.length<=jj/\(a == sysModules)=rS/\∃xs:List (List Key×i9×iX),
   Paired (λ(p:List Key×V) (q:List Key×i9×iX)=>p.1=q.1/\H q.2.1=rP (.tup (p.1.map kV))/\RelV p.2 q.2.2) kvs xs /\
   ∃o es ep,h.get? a=rP o/\o.ExactDict/\o.data=.dict es ep/\es.toList=xs.map (entryOfKey (tupleKind (mixKind P w)))/\(xs.map (·.1)).Nodup
 |.set S n=>h.SetOf (intKind P w) a S n| .ins C dx fs=>H dx=rP (.own a)/\fs.length<=1000/\dx≠a/\h.get? a=rP (m5 C dx) /\
   ∃mA,h.Ns1 dx mA/\(∀f,RelO (fs.lookup f) (mA f))/\oF mA (fs.map (·.1))
 |.own _=>∃o,h.get? a=rP o|.xd fs=>∃mA,h.Ns1 a mA/\∀f,RelO (fs.lookup f) (mA f)|.rng lo hi=>∃t u v,h.get? a=rP {cls:=.type "range",data:=.fields #[.int lo t,.int hi u,.int 1 v]}|.frz o u=>h.get? a=rP o/\ObjOk H h a u|.tbl pos qual=>∃ps:Array iX,h.get? a=rP {cls:=.none,data:=.fields ps}/\TriplesOk ps.toList/\∀cv,codeAmong pos ps.toList=rP cv->∃c o vs t,cv=.ref c/\H c=rP (.frz o (.own a))/\o.data=.fields vs/\vs[1]?=rP (.str qual t)|.met f x=>h.get? a=rP (pY (.ref f) (.ref x))|.ext φ=>φ h/\(∃o,h.get? a=rP o)/\∀h1 h2:Heap,φ h1->(∀o,h1.get? a=rP o->h2.get? a=rP o)->φ h2
def HOk (H:Hp)(h:Heap):Prop:=∀a o,H a=rP o->ObjOk P w H h a o
end
section
variable {P:jL}{w:jU}{H H':Hp}{h h':Heap}{a:i9}{o:HO}
theorem ObjOk.lt (x:ObjOk P w H h a o):a<h.objs.size:=by
 cases o with
 |lst xs=>obtain⟨_,_,_,_,e⟩:=x;exact jF e|tup xs=>obtain⟨_,_,_,p⟩:=x;exact p.lt|dK kvs=>obtain⟨_,_,_,_,o,_,_,e,_⟩:=x;exact jF e|dT kvs=>obtain⟨_,_,_,_,o,_,_,e,_⟩:=x;exact jF e|set S n=>obtain⟨o,_,_,_,e,_⟩:=x;exact jF e|ins C dx fs=>obtain⟨_,_,_,e,_⟩:=x;exact jF e|own y=>obtain⟨_,e⟩:=x;exact jF e|xd fs=>obtain⟨_,⟨_,_,_,e,_⟩,_⟩:=x;exact jF e|rng lo hi=>obtain⟨_,_,_,e⟩:=x;exact jF e|frz ob u=>obtain⟨e,_⟩:=x;exact jF e|tbl pos qual=>obtain⟨_,e,_⟩:=x;exact jF e|met f y=>exact jF (show h.get? a=rP _ from x)|ext φ=>obtain⟨_,⟨_,e⟩,_⟩:=x;exact jF e
theorem Paired.mapP {α β:Type}{F G:α->β->Prop}:∀{cX:List α}{cW:List β},Paired F cX cW->(∀a b,F a b->G a b)->Paired G cX cW
 |_,_,.nil,_=>.nil|_,_,.cons r t,f=>.cons (f _ _ r) (Paired.mapP t f)
theorem ObjOk.stay (x:ObjOk P w H h a o)(k:∀b u,(b=a\/H b=rP (.own a))->h.get? b=rP u->h'.get? b=rP u)
  (ho:∀b,H b=rP (.own a)->H' b=rP (.own a)) (ht:∀b xs,H b=rP (.tup xs)->H' b=rP (.tup xs)) (hf:∀b ob,H b=rP (.frz ob (.own a))->H' b=rP (.frz ob (.own a)):=by exact λ_ _ q=>q):ObjOk P w H' h' a o:=by
 induction o with
 |lst xs=>obtain⟨z,aa,n,r,e⟩:=x;exact⟨z,aa,n,r,k _ _ (.inl rfl) e⟩|tup xs=>obtain⟨z,aa,r,ob,e,c⟩:=x;exact⟨z,aa,r,ob,k _ _ (.inl rfl) e,c⟩|dK kvs=>obtain⟨z,y,vs,r,ob,es,ep,e,c⟩:=x;exact⟨z,y,vs,r,ob,es,ep,k _ _ (.inl rfl) e,c⟩|dT kvs=>
  obtain⟨z,y,xs,r,ob,es,ep,e,c⟩:=x;exact⟨z,y,xs,Paired.mapP r λp q z=>⟨z.1,ht _ _ z.2.1,z.2.2⟩,ob,es,ep,k _ _ (.inl rfl) e,c⟩
 |set S n=>obtain⟨ob,es,ep,t,e,c⟩:=x;exact⟨ob,es,ep,t,k _ _ (.inl rfl) e,c⟩|ins C dx fs=>
  obtain⟨d,z,ne,e,mA,⟨od,es,ep,e2,c⟩,r⟩:=x;exact⟨ho _ d,z,ne,k _ _ (.inl rfl) e,mA,⟨od,es,ep,k _ _ (.inr d) e2,c⟩,r⟩
 |own y=>obtain⟨ob,e⟩:=x;exact⟨ob,k _ _ (.inl rfl) e⟩|xd fs=>obtain⟨mA,⟨od,es,ep,e,c⟩,r⟩:=x;exact⟨mA,⟨od,es,ep,k _ _ (.inl rfl) e,c⟩,r⟩|rng lo hi=>obtain⟨t,u,v,e⟩:=x;exact⟨t,u,v,k _ _ (.inl rfl) e⟩|frz ob u ih=>obtain⟨e,q⟩:=x;exact⟨k _ _ (.inl rfl) e,ih q⟩|tbl pos qual=>
  obtain⟨ps,e,t,f⟩:=x;exact⟨ps,k a _ (.inl rfl) e,t,λcv q=>let⟨c,ob,vs,t,q1,q2,q3⟩:=f cv q;⟨c,ob,vs,t,q1,hf _ _ q2,q3⟩⟩
 |met f y=>
  have e:h.get? a=rP (pY (.ref f) (.ref y)):=x;show h'.get? a=rP (pY (.ref f) (.ref y))
  exact k a _ (.inl rfl) e
 |ext φ=>obtain⟨p,⟨o,e⟩,st⟩:=x;exact⟨st _ _ p λo q=>k _ _ (.inl rfl) q,⟨o,k _ _ (.inl rfl) e⟩,st⟩
theorem HOk.lt (x:HOk P w H h)(e:H a=rP o):a<h.objs.size:=(x a o e).lt
theorem HOk.fresh (x:HOk P w H h)(e:h.objs.size<=a):H a=rQ:=by
 cases q:H a with
 |none=>rfl|some u=>exact absurd (i6 (x.lt q) e) (mG _)
theorem HOk.kept (x:HOk P w H h)(k:∀b u,h.get? b=rP u->h'.get? b=rP u):HOk P w H h':=λa o e=>
 (x a o e).stay (λb u _ q=>k b u q) (λ_ q=>q) λ_ _ q=>q
theorem HOk.laid (x:HOk P w H h)(k:∀b u,h.get? b=rP u->h'.get? b=rP u)(hp:h.objs.size<=a)(new:ObjOk P w (upd H a o) h' a o):HOk P w (upd H a o) h':=λb u e=>by
 have hn:=x.fresh hp;by_cases hb:b=a
 ·subst hb;rw[zj_]at e;cases e;exact new
 ·rw[zv_ hb]at e
  exact(x b u e).stay (λc v _ q=>k c v q) (λc q=>by rw[zv_ (zR_ q hn)];exact q) (λc xs q=>by rw[zv_ (zR_ q hn)];exact q) λc ob q=>by rw[zv_ (zR_ q hn)];exact q
end
def Rd (H:Hp)(a:i9)(u:HO):Prop:=H a=rP u\/∃o,H a=rP (.frz o u)
theorem Rd.ok {P:jL}{w:jU}{H:Hp}{h:Heap}{a:i9}{u:HO}(r:Rd H a u)(x:HOk P w H h):ObjOk P w H h a u:=by
 rcases r with r |⟨o,r⟩
 ·exact x a u r
 ·obtain⟨_,q⟩:=x a _ r
  exact q
noncomputable def Mut:Option HO->Prop
 |some (.lst _)=>True
 |some (.dK _)=>True
 |some (.dT _)=>True
 |some (.set _ _)=>True
 |some (.ins _ _ _)=>True
 |some (.ext _)=>True
 |_=>False
section
variable {P:jL}{w:jU}{H:Hp}{h h':Heap}{x e:i9}{o':HO}
theorem HOk.write (ok:HOk P w H h)(mu:Mut (H x))(he:e=x\/H e=rP (.own x))(k:∀b u,b≠e->h.get? b=rP u->h'.get? b=rP u)(cI:∃u,h'.get? e=rP u)
  (new:ObjOk P w (upd H x o') h' x o'):HOk P w (upd H x o') h':=λb u q=>by
 have cP:∀c y,H c=rP (.own y)->c≠x:=λc y r z=>by subst z;rw[r]at mu;exact mu
 have eR:∀c xs,H c=rP (.tup xs)->c≠x:=λc xs r z=>by subst z;rw[r]at mu;exact mu
 by_cases hb:b=x
 ·subst hb;rw[zj_]at q;cases q;exact new
 ·rw[zv_ hb]at q
  by_cases hbe:b=e
  ·have q':H b=rP (.own x):=by
    rcases he with z |z
    ·exact absurd (hbe.trans z) hb
    ·rw[hbe];exact z
   rw[q]at q';cases q';obtain⟨v,hv⟩:=cI;exact⟨v,by rw[hbe];exact hv⟩
  ·refine(ok b u q).stay (λc v hc r=>k c v ?_ r) (λc r=>by rw[zv_ (cP c b r)];exact r) (λc xs r=>by rw[zv_ (eR c xs r)];exact r) λc ob r=>by rw[zv_ (λz=>by subst z;rw[r]at mu;exact mu)];exact r
   rcases hc with rfl |hc
   ·exact hbe
   ·rintro rfl
    rcases he with z |z
    ·exact cP c b hc z
    ·rw[hc]at z;cases z;exact hb rfl
end
structure Un (fs ex:List i9)(H H':Hp)(h h':Heap):Prop where
 keep:∀b o,h.get? b=rP o->H b=rQ->b∉fs->b∉ex->h'.get? b=rP o
 slot:∀b o,h.get? b=rP o->H b=rQ->b∈fs->b∉ex->∃sl,h'.get? b=rP {o with slots:=sl}
 free:∀b o,h.get? b=rP o->H b=rQ->b∉ex->H' b=rQ
 there:∀b o,h.get? b=rP o->b∉ex->∃o',h'.get? b=rP o'
 tups:∀b xs,H b=rP (.tup xs)->H' b=rP (.tup xs)
 frzs:∀b o u,H b=rP (.frz o u)->H' b=rP (.frz o u)
 tbls:∀b p q,H b=rP (.tbl p q)->H' b=rP (.tbl p q)
section
variable {fs ex:List i9}{H H1:Hp}{h h1 h':Heap}{a x e:i9}{o:HO}
theorem Un.any (u:Un fs ex H H1 h h1){b:i9}{ob:qb}(q:h.get? b=rP ob)(n:H b=rQ)(hx:b∉ex):∃sl,h1.get? b=rP {ob with slots:=sl}:=by
 by_cases hb:b∈fs
 ·exact u.slot b ob q n hb hx
 ·exact⟨ob.slots,u.keep b ob q n hb hx⟩
theorem Un.kept (k:∀b u,h.get? b=rP u->h'.get? b=rP u):Un fs ex H H h h':=
 ⟨λb ob q _ _ _=>k b ob q,λb ob q _ _ _=>⟨ob.slots,k b ob q⟩,λ_ _ _ n _=>n,λb ob q _=>⟨ob,k b ob q⟩,λ_ _ q=>q,λ_ _ _ q=>q,λ_ _ _ q=>q⟩
theorem Un.refl:Un fs ex H H h h:=Un.kept λ_ _ q=>q
theorem Un.laid (k:∀b u,h.get? b=rP u->h'.get? b=rP u)(hp:h.objs.size<=a)(hn:H a=rQ):Un fs ex H (upd H a o) h h' where
 keep:=λb u q _ _ _=>k b u q
 slot:=λb u q _ _ _=>⟨u.slots,k b u q⟩
 free:=λb u q n _=>by rw[zv_ (jT (i6 (jF q) hp))];exact n
 there:=λb u q _=>⟨u,k b u q⟩
 tups:=λb xs q=>by rw[zv_ (zR_ q hn)];exact q
 frzs:=λb u xs q=>by rw[zv_ (zR_ q hn)];exact q
 tbls:=λb p' q' q=>by rw[zv_ (zR_ q hn)];exact q
theorem Un.write (mu:Mut (H x))(he:e=x\/H e=rP (.own x))(k:∀b u,b≠e->h.get? b=rP u->h'.get? b=rP u)(cI:∃u,h'.get? e=rP u):Un fs ex H (upd H x o) h h':=by
 have hx:∀b,H b=rQ->b≠x:=λb n z=>by subst z;rw[n]at mu;exact mu
 have hb:∀b,H b=rQ->b≠e:=λb n z=>by
  subst z;rcases he with r |r
  ·exact hx b n r
  ·rw[n]at r;cases r
 have hm:∀b u,H b=rP u->¬Mut (rP u)->b≠x:=λb u q nm z=>by subst z;rw[q]at mu;exact nm mu
 refine⟨λb u q n _ _=>k b u (hb b n) q,λb u q n _ _=>⟨u.slots,k b u (hb b n) q⟩,λb u q n _=>by rw[zv_ (hx b n)];exact n,λb u q _=>?_,
  λb xs q=>by rw[zv_ (hm b _ q λz=>z)];exact q,λb u xs q=>by rw[zv_ (hm b _ q λz=>z)];exact q,λb p' q' q=>by rw[zv_ (hm b _ q λz=>z)];exact q⟩
 by_cases hbe:b=e
 ·subst hbe;exact cI
 ·exact⟨u,k b u hbe q⟩
end
def trk (h:Heap)(H:Hp):List i9:=(jV h.objs.size).filter λa=>(H a).isSome
def hidT (h:Heap)(H:Hp):Heap:=n6 h (trk h H)
theorem zfw_ (h:Heap)(H:Hp):(hidT h H).objs.size=h.objs.size:=W.hideAll_size _ _
theorem zhw_ {h:Heap}{H:Hp}{b:i9}{o:qb}(e:h.get? b=rP o)(n:H b=rQ):(hidT h H).get? b=rP o:=
 nW _ e λhm=>by
  have q:(H b).isSome=rR:=(oR.mp hm).2;rw[n]at q;simp at q
theorem zjX_ {h:Heap}{H:Hp}{b:i9}{o:qb}(e:(hidT h H).get? b=rP o):h.get? b=rP o/\H b=rQ:=by
 have e':h.get? b=rP o:=nz (trk h H) e;refine⟨e',?_⟩;cases q:H b with
 |none=>rfl|some x=>
  have hm:b∈trk h H:=oR.mpr ⟨kH.mpr (jF e'),by simp[q]⟩
  have z:(hidT h H).get? b=rQ:=lu (trk h H) hm;rw[z]at e;cases e
def lamF (K:Fgg):Option kZ:=match lF K jJ "put_in_order" with
 |some (rP (.ref f))=>(match K.lookup f with
  |some ⟨_,_,.func fd,_⟩=>rP fd|_=>rQ)
 |_=>rQ
noncomputable def lamP (b:FuncBody):Option Pos:=match b with
 |.stmts [.Return (rP (.Call _ _ [⟨_,.Lambda _ _ _ pos,_⟩] _)) _]=>rP pos|_=>rQ
def lamK (K:Fgg):Option (i9×Pos×Str):=(W.tabIn K "put_in_order").bind λt=>(lamF K).bind λfd=>(lamP fd.body).map λpos=>(t.2,pos,fd.qualname ++ ".<locals>." ++ "<lambda>")
def Tb (K:Fgg)(H:Hp):Prop:=∀P pos q,lamK K=rP (P,pos,q)->H P=rP (.tbl pos q)
structure Mod (K:Fgg)(mg:Str->Option iX)(base:Heap):Prop where
 kin:K.In base
 glob:base.Ns jJ mg
 blt:∃mb,base.Ns builtinsNs mb/\∀x:Str,x ≠ "__name__" -> mb x=lP x
 nolimit:base.NoLimit
 bm:∃bm ob,mg "__builtins__"=rP (.ref bm)/\bm≠builtinsNs/\base.get? bm=rP ob/\ob.cls=.type "module" /\ ob.dict=rP builtinsNs/\ob.data=.plain
structure Cx where
 prog:jL
 w:jU
 K:Fgg
 mg:Str->Option iX
 base:Heap
 A:jW
 N:List Str
 s₀:iY
 H₀:Hp
 env:Env
 outer:List Env
 stack:List Env
 ex:List i9
 fn:Str->Bool
 calm:Bool
 pn:Pnn
 xe:iX->iY->Prop
noncomputable def frs (l:List Env):List i9:=l.filterMap (·.frame)
abbrev Cx.fs (X:Cx):List i9:=frs X.outer
def Vis (sc:Scope)(x:Str):Prop:=sc.names.lookup x=rP .local\/sc.names.lookup x=rP .cell\/sc.names.lookup x=rP .free
def Loc (sc:Scope)(x:Str):Prop:=sc.names.lookup x=rP .local\/sc.names.lookup x=rP .cell
def Look (env:Env)(h:Heap)(m:Str->Option iX)(x:Str)(u:iX):Prop:=
 (env.kindOf x=rP .local/\m x=rP u)\/((env.kindOf x=rP .cell\/env.kindOf x=rP .free)/\∃c,env.cells.lookup x=rP c/\h.IsCell c (rP u))
structure Cx.Ok (X:Cx):Prop where
 mod:Mod X.K X.mg X.base
 kind:X.env.scope.kind=.function
 glob:X.env.globals=jJ
 blt:X.env.builtins=builtinsNs
 above:X.s₀.heap.objs.size<=X.env.locals
 inj:∀x y c,X.env.cells.lookup x=rP c->X.env.cells.lookup y=rP c->x=y
 has:∀x,(X.env.kindOf x=rP .cell\/X.env.kindOf x=rP .free)->∃c,X.env.cells.lookup x=rP c
 cab:∀x c,X.fn x=rR->X.env.cells.lookup x=rP c->X.s₀.heap.objs.size<=c
 hd:X.calm=rR->X.A.handled=rQ
 frames:X.A.frames=rP X.stack
 stk:X.stack=X.outer\/(X.stack=X.env::X.outer/\X.env.frame=rP X.env.locals)
 exf:∀b∈X.ex,b≠X.env.locals/\∀x c,X.env.cells.lookup x=rP c->c≠b
 bs:∀b o,X.base.get? b=rP o->X.s₀.heap.get? b=rP o/\X.H₀ b=rQ
 bsz:X.base.objs.size<=X.s₀.heap.objs.size
 noex:∀b o,X.base.get? b=rP o->b∉X.ex
 exfs:∀b∈X.ex,b∉X.fs
 funs:X.s₀.heap.FunFrames X.base X.outer
 frf:∀b∈X.fs,X.H₀ b=rQ
 tb:Tb X.K X.H₀
theorem zee_ {M:Model}{Γ:pS}{p:Pos}{t:Sem PySem.Fin}{fs:List Frame}{s s':iY}{e:End}(h:Runs M Γ p t fs s e s'):s.toks<=s'.toks:=by
 induction h<;>(try simp only[Shared.setGen]at *)<;>lia
theorem zl1_ {α:Type}{M:Model}{Γ:pS}{n:Nat}{t:Sem α}:∀{Q:α->Pos->iY->Prop}{E:iX->Pos->iY->Prop}{p:Pos}{s:iY},n<=s.toks->Sem.wp M Γ t (λa p s'=>n<=s'.toks->Q a p s') (λe p s'=>n<=s'.toks->E e p s') p s->Sem.wp M Γ t Q E p s:=by
 induction t with
 |pure a=>intro Q E p s l h;rw[Sem.wp]at h ⊢;exact h l
 |raise e=>intro Q E p s l h;rw[Sem.wp]at h ⊢;exact h l
 |fresh k ih=>intro Q E p s l h;rw[Sem.wp]at h ⊢;exact ih _ (Nat.le_succ_of_le l) h
 |call c h g v k ih=>
  intro Q E p s l h;rw[Sem.wp]at h ⊢;obtain⟨r,s',h1,h2⟩:=h;exact⟨r,s',h1,ih _ (ki l (zee_ h1)) h2⟩
 |resume g r v k ih=>
  intro Q E p s l h;rw[Sem.wp]at h ⊢;obtain⟨r,s',h1,h2⟩:=h;refine⟨r,s',h1,ih _ (ki l ?_) h2⟩;unfold Wakes at h1;split at h1
  ·exact h1.elim
  ·split at h1
   ·obtain⟨_,_,h3,_,_,rfl⟩:=h1;exact(zee_ h3:(s.setGen g .running).toks<=_)
   ·rw[h1.2];exact jt _
   ·rw[h1.2];exact jt _
  ·obtain⟨_,_,h3,_,_,rfl⟩:=h1;exact(zee_ h3:(s.setGen g .running).toks<=_)
  ·rw[h1.2];exact jt _
  ·rw[h1.2];exact jt _
 |load a p k ih=>intro Q E p s l h;rw[Sem.wp]at h ⊢;obtain⟨o,e,h⟩:=h;exact⟨o,e,ih _ l h⟩
 |genState g k ih=>intro Q E p s l h;rw[Sem.wp]at h ⊢;obtain⟨o,e,h⟩:=h;exact⟨o,e,ih _ l h⟩
 |update a p f k ih=>intro Q E p s l h;rw[Sem.wp]at h ⊢;exact⟨h.1,ih _ l h.2⟩
 |choose a n k ih=>intro Q E p s l h;rw[Sem.wp]at h ⊢;exact⟨h.1,ih _ l h.2⟩
 |_=>intro Q E p s l h;rw[Sem.wp]at h ⊢;first |exact h |(rename_i ih;exact ih _ l h)
theorem zz_ {α:Type}{M:Model}{A:jW}{t:Sem α}{Q:α->iY->Prop}{E:iX->iY->Prop}{s:iY}(h:jD M A t (λa s'=>s.toks<=s'.toks->Q a s') (λe s'=>s.toks<=s'.toks->E e s') s):jD M A t Q E s:=λΓ p e8=>zl1_ (jt _) (h Γ p e8)
theorem wpm {α:Type}{M:Model}{Γ:pS}{t:Sem α}{Q Q':α->Pos->iY->Prop}{E E':iX->Pos->iY->Prop}{p:Pos}{s:iY}(h:Sem.wp M Γ t Q E p s)(h1:∀a p s,Q a p s->Q' a p s)(h2:∀a p s,E a p s->E' a p s):Sem.wp M Γ t Q' E' p s:=Sem.wp_mono M Γ t h1 h2 p s h
def Mints {α:Type}(t:Sem α):Prop:=∀(M:Model) (Γ:pS) (n:Nat) (Q:α->Pos->iY->Prop) (E:iX->Pos->iY->Prop) (p:Pos) (s:iY),n<=s.toks->Sem.wp M Γ t (λa p s'=>n<s'.toks->Q a p s') E p s->Sem.wp M Γ t Q E p s
theorem zac_ {α β:Type}{t:Sem α}{k:α->Sem β}(h:Mints t):Mints (t>>=k):=λM Γ n Q E p s l w=>by
 rw[Sem.wp_bind']at w ⊢;refine h M Γ n _ E p s l (Sem.wp_mono M Γ t (λa p' s' w l'=>?_) (λ_ _ _ z=>z) p s w)
 refine zl1_ (n:=n+1) l' ?_;exact wpm w (λ_ _ _ z=>z) (λ_ _ _ z _=>z)
theorem zaS_ {α β:Type}{t:Sem α}{k:α->Sem β}(h:∀a,Mints (k a)):Mints (t>>=k):=λM Γ n Q E p s l w=>by
 rw[Sem.wp_bind']at w ⊢;refine zl1_ l ?_;exact wpm w (λa p' s' w l'=>h a M Γ n Q E p' s' l' w) (λ_ _ _ z _=>z)
theorem zdw_:Mints fresh:=λM Γ n Q E p s l w=>by
 unfold fresh at w ⊢;rw[Sem.wp,Sem.wp]at w ⊢;exact w (Nat.lt_succ_of_le l)
theorem zfR_ {ns:i9}{x:Str}{v:iX}:Mints (nsSet ns x v):=zaS_ λ_=>zac_ (zac_ zdw_)
theorem zdd_ {g:Str×iX->Sem Unit}:∀{bs:List (Str×iX)},(∃b∈bs,Mints (g b))->Mints (forIn bs PUnit.unit λb (_:PUnit)=>do g b;pure (ForInStep.yield PUnit.unit))
 |[],h=>by obtain⟨_,z,_⟩:=h;cases z
 |b::bs,h=>by
  rw[p5];obtain⟨c,hc,m⟩:=h;rcases jK.mp hc with rfl |hc
  ·exact zac_ (zac_ m)
  ·intro M Γ n Q E p s l w
   rw[Sem.wp_bind',Sem.wp_bind']at w ⊢;refine zl1_ l ?_;refine wpm w (λa p' s' w l'=>?_) (λ_ _ _ z _=>z)
   have w':Sem.wp M Γ (forIn bs PUnit.unit λb (_:PUnit)=>do g b;pure (ForInStep.yield PUnit.unit)) (λa p s'=>n<s'.toks->Q a p s') E p' s':=w
   exact zdd_ ⟨c,hc,m⟩ M Γ n Q E p' s' l' w'
theorem zdm_ {scope:Scope}{globals:i9}{bs:List (Str×iX)}{qual:Str}{func:Option i9}{code:iX}{builtins:i9}(hk:scope.kind=.function)(hl:∃b∈bs,scope.names.lookup b.1=rP .local):
  Mints (newFunctionEnv scope globals [] bs qual func code rQ builtins):=by
 unfold newFunctionEnv;refine zaS_ λL=>zaS_ λcs=>zac_ ?_
 obtain⟨b,hb,hl⟩:=hl;refine zdd_ ⟨b,hb,?_⟩;have e:=storeName_local (env:=({scope:=scope,locals:=L,globals:=globals,cells:=cs,qual:=qual,func:=func,code:=code,frame:=rP L,builtins:=builtins}:Env)) (name:=b.1) hl (by show((scope.kind == _)||((scope.kind == _) && _))=_;rw[hk];rfl) b.2
 rw[show storeName _ b.1 b.2=_ from e]
 exact zfR_
theorem zgc_ {α:Type}{M:Model}{A:jW}{t:Sem α}{Q:α->iY->Prop}{E:iX->iY->Prop}{s:iY}(m:Mints t)(h:jD M A t (λa s'=>0<s'.toks->Q a s') E s):jD M A t Q E s:=λΓ p e8=>m M Γ 0 _ _ p s (lZ _) (h Γ p e8)
structure Inv (X:Cx)(pins:Pnn)(σ:List (Option V))(H:Hp)(s:iY):Prop where
 ok:X.Ok
 os:s.os=X.s₀.os
 bare:AllBare s.gens
 base:Un X.fs X.ex X.H₀ H X.s₀.heap s.heap
 loc:∃m,s.heap.Ns X.env.locals m/\∀(i:Nat) (x:Str) (v:V),X.N[i]?=rP x->σ[i]?=rP (rP v)->Vis X.env.scope x->∃u,RelV v u/\Look X.env s.heap m x u
 cell:∀x c,X.env.cells.lookup x=rP c->∃v,s.heap.IsCell c v
 free:H X.env.locals=rQ
 freeC:∀x c,X.env.cells.lookup x=rP c->H c=rQ
 pin:∀p∈X.pn++pins,s.heap.get? p.1=rP p.2/\H p.1=rQ/\p.1≠X.env.locals/\p.1∉X.fs/\∀v,p.2.data≠.cell v
 hok:HOk X.prog X.w H s.heap
 len:σ.length=X.N.length
 tk:0<s.toks
section
variable {X:Cx}{pins:Pnn}{σ:List (Option V)}{H H':Hp}{s:iY}{h':Heap}
theorem Cx.Ok.nofr (ok:X.Ok){b:i9}{o:qb}(e:X.base.get? b=rP o):b∉X.fs:=λhb=>by
 have:=(ok.funs.mem hb).1;rw[e]at this;cases this
theorem Inv.bs (I:Inv X pins σ H s):∀b o,X.base.get? b=rP o->s.heap.get? b=rP o/\H b=rQ:=λb o e=>
 ⟨I.base.keep b o (I.ok.bs b o e).1 (I.ok.bs b o e).2 (I.ok.nofr e) (I.ok.noex b o e),I.base.free b o (I.ok.bs b o e).1 (I.ok.bs b o e).2 (I.ok.noex b o e)⟩
theorem Inv.tb (I:Inv X pins σ H s):Tb X.K H:=λP p q e=>I.base.tbls _ _ _ (I.ok.tb P p q e)
theorem Inv.bk (I:Inv X pins σ H s):∀b o,X.base.get? b=rP o->s.heap.get? b=rP o:=λb o e=>(I.bs b o e).1
theorem Inv.mod (I:Inv X pins σ H s):Mod X.K X.mg X.base:=I.ok.mod
theorem Inv.kIn (I:Inv X pins σ H s):X.K.In s.heap:=I.ok.mod.kin.keeps I.bk
theorem Inv.lt (I:Inv X pins σ H s):X.env.locals<s.heap.objs.size:=let⟨_,hn,_⟩:=I.loc;hn.lt
theorem Inv.sz (I:Inv X pins σ H s):X.s₀.heap.objs.size<=s.heap.objs.size:=ki I.ok.above (pN I.lt)
theorem Inv.nofs (I:Inv X pins σ H s){a:i9}(h:s.heap.objs.size<=a):a∉X.fs:=λhb=>by
 obtain⟨_,o,ho,_⟩:=I.ok.funs.mem hb;exact absurd (i6 (jF ho) (ki I.sz h)) (mG _)
theorem Inv.cne (I:Inv X pins σ H s):∀x c,X.env.cells.lookup x=rP c->c≠X.env.locals:=λx c e z=>by
 obtain⟨v,o,ho,hd⟩:=I.cell x c e;obtain⟨m,⟨o',es,ep,aX,hd',_⟩,_⟩:=I.loc;rw[z,aX]at ho;cases ho;rw[hd']at hd;cases hd
theorem Inv.funs (I:Inv X pins σ H s):s.heap.FunFrames X.base X.outer:=by
 have all:∀(l:List Env),(∀b∈frs l,b∈X.fs)->X.s₀.heap.FunFrames X.base l->s.heap.FunFrames X.base l:=by
  intro l;induction l with
  |nil=>intro _ _;trivial
  |cons env r ih=>
   intro hs hl;obtain⟨hk,⟨L,o,hf,hn,ho,hd⟩,hr⟩:=hl;have hL:L∈X.fs:=hs L (by unfold frs;rw[me,hf];exact je)
   obtain⟨sl,e⟩:=I.base.slot L o ho (I.ok.frf L hL) hL λz=>I.ok.exfs L z hL
   exact⟨hk,⟨L,_,hf,hn,e,hd⟩,ih (λb hb=>hs b (by unfold frs;rw[me,hf];exact ji _ hb)) hr⟩
 exact all X.outer (λ_ hb=>hb) I.ok.funs
theorem Inv.stack (I:Inv X pins σ H s):s.heap.FunFrames X.base X.stack:=by
 rcases I.ok.stk with e |⟨e,hf⟩
 ·rw[e];exact I.funs
 ·rw[e]
  obtain⟨m,hn,_⟩:=I.loc;refine .cons (by rw[I.ok.kind];decide) hf hn ?_ I.funs
  exact Heap.get?_none_of_le (ki I.ok.bsz I.ok.above)
theorem Inv.stkSub (I:Inv X pins σ H s):∀b∈frs X.stack,b∈X.env.locals::X.fs:=λb hb=>by
 rcases I.ok.stk with e |⟨e,hf⟩
 ·rw[e]at hb;exact ji _ hb
 ·rw[e]at hb
  unfold frs at hb;rw[me,hf]at hb;exact hb
theorem Inv.stkFree (I:Inv X pins σ H s):∀b∈frs X.stack,H b=rQ:=λb hb=>by
 rcases jK.mp (I.stkSub b hb)with e |hb
 ·rw[e];exact I.free
 ·obtain⟨_,o,ho,_⟩:=I.ok.funs.mem hb
  exact I.base.free b o ho (I.ok.frf b hb) λz=>I.ok.exfs b z hb
theorem Inv.step {g':Array GenState}{t':Nat}{d':Drawn}{ch:List i9}(I:Inv X pins σ H s)
  (bh:∀b∈ch,(b∈X.ex\/X.s₀.heap.objs.size<=b)/\b≠X.env.locals/\(∀x c,X.env.cells.lookup x=rP c->c≠b)/\∀p∈X.pn++pins,p.1≠b)
  (keep:∀b o,b≠X.env.locals->b∉X.fs->b∉ch->s.heap.get? b=rP o->H b=rQ->h'.get? b=rP o)
  (slot:∀b o,b≠X.env.locals->b∈X.fs->b∉ch->s.heap.get? b=rP o->H b=rQ->∃sl,h'.get? b=rP {o with slots:=sl}) (free:∀b o,b∉ch->s.heap.get? b=rP o->H b=rQ->H' b=rQ)
  (there:∀b o,b∉ch->s.heap.get? b=rP o->∃o',h'.get? b=rP o')
  (tups:∀b xs,H b=rP (.tup xs)->H' b=rP (.tup xs)) (frzs:∀b o u,H b=rP (.frz o u)->H' b=rP (.frz o u)) (tbls:∀b p q,H b=rP (.tbl p q)->H' b=rP (.tbl p q))
  (ns:∀m,s.heap.Ns X.env.locals m->h'.Ns X.env.locals m) (hok:HOk X.prog X.w H' h') (hg:AllBare g') (ht:0<t'):
  Inv X pins σ H' {s with heap:=h',gens:=g',drawn:=d',toks:=t'}:=by
 have f_:∀b o,X.s₀.heap.get? b=rP o->b≠X.env.locals:=λb o e=>jT (i6 (jF e) I.ok.above)
 have d8:∀b o,X.s₀.heap.get? b=rP o->b∉X.ex->b∉ch:=λb o e hx hb=>by
  rcases(bh b hb).1 with z |z
  ·exact hx z
  ·exact absurd (i6 (jF e) z) (mG _)
 have cellK:∀x c,X.env.cells.lookup x=rP c->∀v,s.heap.IsCell c v->h'.IsCell c v:=λx c e v ⟨o,ho,hd⟩=>by
  have cT:c∉ch:=λz=>(bh c z).2.2.1 x c e rfl
  by_cases hc:c∈X.fs
  ·obtain⟨sl,q⟩:=slot c o (I.cne x c e) hc cT ho (I.freeC x c e)
   exact⟨_,q,hd⟩
  ·exact⟨o,keep c o (I.cne x c e) hc cT ho (I.freeC x c e),hd⟩
 refine⟨I.ok,I.os,hg,⟨λb o e n hb hx=>?_,λb o e n hb hx=>?_,λb o e n hx=>?_,λb o e hx=>?_,λb xs e=>tups b xs (I.base.tups b xs e),λb o xs e=>frzs b o xs (I.base.frzs b o xs e),λb p q e=>tbls b p q (I.base.tbls b p q e)⟩,?_,λx c e=>?_,?_,λx c e=>?_,λp hp=>?_,hok,I.len,ht⟩
 ·exact keep b o (f_ b o e) hb (d8 b o e hx) (I.base.keep b o e n hb hx) (I.base.free b o e n hx)
 ·obtain⟨sl,e1⟩:=I.base.slot b o e n hb hx
  obtain⟨cO,e2⟩:=slot b _ (f_ b o e) hb (d8 b o e hx) e1 (I.base.free b o e n hx);exact⟨cO,e2⟩
 ·obtain⟨o',e1⟩:=I.base.there b o e hx
  exact free b o' (d8 b o e hx) e1 (I.base.free b o e n hx)
 ·obtain⟨o',e1⟩:=I.base.there b o e hx
  exact there b o' (d8 b o e hx) e1
 ·obtain⟨m,hn,hl⟩:=I.loc
  refine⟨m,ns m hn,λi x v e1 e2 e3=>?_⟩
  obtain⟨u,r,l⟩:=hl i x v e1 e2 e3;refine⟨u,r,?_⟩;rcases l with l |⟨k,c,e,z⟩
  ·exact .inl l
  ·exact .inr ⟨k,c,e,cellK x c e _ z⟩
 ·obtain⟨v,z⟩:=I.cell x c e
  exact⟨v,cellK x c e v z⟩
 ·obtain⟨m,⟨o,_,_,ho,_⟩,_⟩:=I.loc
  exact free _ o (λz=>(bh _ z).2.1 rfl) ho I.free
 ·obtain⟨v,o,ho,hd⟩:=I.cell x c e
  exact free c o (λz=>(bh c z).2.2.1 x c e rfl) ho (I.freeC x c e)
 ·obtain⟨e,n,ne,nf,d⟩:=I.pin p hp
  have cT:p.1∉ch:=λz=>(bh p.1 z).2.2.2 p hp rfl
  exact⟨keep p.1 p.2 ne nf cT e n,free p.1 p.2 cT e n,ne,nf,d⟩
theorem Inv.un {t':Nat}(I:Inv X pins σ H s)(u:Un X.fs [] H H' s.heap h')(hok:HOk X.prog X.w H' h')(ht:0<t':=by first |assumption |exact Inv.tk ‹_› |exact kn _ |(refine i6 ?_ ‹_›;exact Inv.tk ‹_›)|exact i6 (Inv.tk ‹_›) (jZ _ _)):Inv X pins σ H' {s with heap:=h',toks:=t'}:=by
 obtain⟨m,⟨o,es,ep,ho,r⟩,_⟩:=id I.loc;obtain⟨sl,hL⟩:=u.any ho I.free (by simp)
 exact I.step (g':=s.gens) (d':=s.drawn) (ch:=[]) (λ_ z=>nomatch z) (λb o _ hb _ e n=>u.keep b o e n hb (by simp)) (λb o _ hb _ e n=>u.slot b o e n hb (by simp)) (λb o _ e n=>u.free b o e n (by simp)) (λb o _ e=>u.there b o e (by simp)) u.tups u.frzs u.tbls (λm' hm=>by
  obtain⟨o',es',ep',aX,r'⟩:=hm;rw[ho]at aX;cases aX;exact⟨_,es',ep',hL,r'⟩) hok I.bare ht
theorem Inv.call {g':Array GenState}{t':Nat}{d':Drawn}{ch:List i9}(I:Inv X pins σ H s)(u:Un (frs X.stack) ch H H' s.heap h')(hok:HOk X.prog X.w H' h')(hg:AllBare g')
  (bh:∀b∈ch,(b∈X.ex\/X.s₀.heap.objs.size<=b)/\b≠X.env.locals/\(∀x c,X.env.cells.lookup x=rP c->c≠b)/\∀p∈X.pn++pins,p.1≠b) (ht:0<t':=by first |assumption |exact Inv.tk ‹_› |exact kn _ |(refine i6 ?_ ‹_›;exact Inv.tk ‹_›)|exact i6 (Inv.tk ‹_›) (jZ _ _)):
  Inv X pins σ H' {s with heap:=h',gens:=g',drawn:=d',toks:=t'}:=by
 obtain⟨m,⟨o,es,ep,ho,r⟩,_⟩:=id I.loc;obtain⟨sl,hL⟩:=u.any ho I.free λz=>(bh _ z).2.1 rfl
 exact I.step (ch:=ch) bh (λb o hL hb hc e n=>u.keep b o e n (λz=>(jK.mp (I.stkSub b z)).elim hL hb) hc) (λb o _ _ hc e n=>u.any e n hc) (λb o hc e n=>u.free b o e n hc) (λb o hc e=>u.there b o e hc) u.tups u.frzs u.tbls (λm' hm=>by
  obtain⟨o',es',ep',aX,r'⟩:=hm;rw[ho]at aX;cases aX;exact⟨_,es',ep',hL,r'⟩) hok hg ht
theorem Inv.turned {t':Nat}{it:i9}(I:Inv X pins σ H s)(k:∀b o,b≠it->s.heap.get? b=rP o->h'.get? b=rP o)(hn:H it=rQ)(hL:it≠X.env.locals)
  (h1:it∈X.ex\/X.s₀.heap.objs.size<=it) (h2:∀x c,X.env.cells.lookup x=rP c->c≠it) (h3:∀p∈X.pn++pins,p.1≠it) (ht:0<t':=by first |assumption |exact Inv.tk ‹_› |exact kn _ |(refine i6 ?_ ‹_›;exact Inv.tk ‹_›)|exact i6 (Inv.tk ‹_›) (jZ _ _)):Inv X pins σ H {s with heap:=h',toks:=t'}:=by
 have f9:∀b u,H b=rP u->b≠it:=λb u e z=>by rw[z,hn]at e;cases e
 refine I.step (g':=s.gens) (d':=s.drawn) (ch:=[it]) (λb hb=>?_) (λb o _ _ hc e _=>k b o (λz=>hc (by simp[z])) e) (λb o _ _ hc e _=>⟨o.slots,k b o (λz=>hc (by simp[z])) e⟩) (λ_ _ _ _ n=>n)
  (λb o hc e=>⟨o,k b o (λz=>hc (by simp[z])) e⟩) (λ_ _ e=>e) (λ_ _ _ e=>e) (λ_ _ _ e=>e) (λm hm=>?_) (λb u e=>?_) I.bare ht
 ·have e:b=it:=by simpa using hb
  subst e;exact⟨h1,hL,h2,h3⟩
 ·obtain⟨o,es,ep,ho,r⟩:=hm
  exact⟨o,es,ep,k _ o (mO hL) ho,r⟩
 ·refine(I.hok b u e).stay (λc v hc q=>k c v ?_ q) (λ_ q=>q) λ_ _ q=>q
  rcases hc with z |z
  ·rw[z];exact f9 b u e
  ·exact f9 c _ z
theorem Inv.tok (I:Inv X pins σ H s)(t:Nat)(ht:0<t:=by first |assumption |exact Inv.tk ‹_› |exact kn _ |(refine i6 ?_ ‹_›;exact Inv.tk ‹_›)|exact i6 (Inv.tk ‹_›) (jZ _ _)):Inv X pins σ H {s with toks:=t}:=I.un (h':=s.heap) (t':=t) Un.refl I.hok ht
theorem Inv.kept {t':Nat}(I:Inv X pins σ H s)(k:∀b u,s.heap.get? b=rP u->h'.get? b=rP u)(ht:0<t':=by first |assumption |exact Inv.tk ‹_› |exact kn _ |(refine i6 ?_ ‹_›;exact Inv.tk ‹_›)|exact i6 (Inv.tk ‹_›) (jZ _ _)):Inv X pins σ H {s with heap:=h',toks:=t'}:=I.un (Un.kept k) (I.hok.kept k) ht
theorem Inv.laid {a:i9}{o:HO}{t':Nat}(I:Inv X pins σ H s)(k:∀b u,s.heap.get? b=rP u->h'.get? b=rP u)(hp:s.heap.objs.size<=a)(new:ObjOk X.prog X.w (upd H a o) h' a o)(ht:0<t':=by first |assumption |exact Inv.tk ‹_› |exact kn _ |(refine i6 ?_ ‹_›;exact Inv.tk ‹_›)|exact i6 (Inv.tk ‹_›) (jZ _ _)):
  Inv X pins σ (upd H a o) {s with heap:=h',toks:=t'}:=I.un (Un.laid k hp (I.hok.fresh hp)) (I.hok.laid k hp new) ht
theorem Inv.write {x e:i9}{o:HO}{t':Nat}(I:Inv X pins σ H s)(mu:Mut (H x))(he:e=x\/H e=rP (.own x))(k:∀b u,b≠e->s.heap.get? b=rP u->h'.get? b=rP u)(cI:∃u,h'.get? e=rP u)
  (new:ObjOk X.prog X.w (upd H x o) h' x o) (ht:0<t':=by first |assumption |exact Inv.tk ‹_› |exact kn _ |(refine i6 ?_ ‹_›;exact Inv.tk ‹_›)|exact i6 (Inv.tk ‹_›) (jZ _ _)):Inv X pins σ (upd H x o) {s with heap:=h',toks:=t'}:=I.un (Un.write mu he k cI) (I.hok.write mu he k cI new) ht
theorem Inv.pins_of {bV:Pnn}(I:Inv X pins σ H s)(h:∀p∈bV,s.heap.get? p.1=rP p.2/\H p.1=rQ/\p.1≠X.env.locals/\p.1∉X.fs/\∀v,p.2.data≠.cell v):Inv X bV σ H s:=
 ⟨I.ok,I.os,I.bare,I.base,I.loc,I.cell,I.free,I.freeC,λp hp=>(kg.mp hp).elim (λz=>I.pin p (kj _ z)) (h p),I.hok,I.len,I.tk⟩
theorem zcD_ {N:List Str}(hN:N.Nodup){i j:Nat}{x:Str}(a:N[i]?=rP x)(b:N[j]?=rP x):i=j:=by
 obtain⟨h1,e1⟩:=jN.mp a;obtain⟨h2,e2⟩:=jN.mp b;exact(List.getElem_inj hN).mp (e1.trans e2.symm)
theorem zfx_ {M:Model}{A:jW}{E:iX->iY->Prop}{i:Nat}{x:Str}{v:V}{u:iX}{Q:Unit->iY->Prop}(I:Inv X pins σ H s)(hN:X.N.Nodup)(hi:X.N[i]?=rP x)(hx:Loc X.env.scope x)(r:RelV v u)
  (h:∀s',Inv X pins (σ.set i (rP v)) H s'->(∃a,oG a s.heap s'.heap/\(a=X.env.locals\/X.env.cells.lookup x=rP a))->Q () s') (hf:X.fn x=rR\/X.env.scope.names.lookup x=rP .local:=by first |exact .inl rfl |exact .inr rfl |assumption):jD M A (storeName X.env x u) Q E s:=by
 obtain⟨m,hn,hl⟩:=id I.loc;have cm:(X.env.scope.kind == .class ||(X.env.scope.kind == .module && X.env.locals != X.env.globals))=rS:=by rw[I.ok.kind];rfl
 have bP:i<σ.length:=by rw[I.len];exact(jN.mp hi).1
 have cne:=I.cne;have tracked:∀{a:i9}{h':Heap},(∃o,s.heap.get? a=rP o/\H a=rQ)->oG a s.heap h'->HOk X.prog X.w H h':=λ{a h'} ha hs b ob e=>by
  obtain⟨_,_,hfree⟩:=ha;refine(I.hok b ob e).stay (λc w' hc q=>(hs.2 c ?_).trans q) (λ_ q=>q) λ_ _ q=>q
  rintro rfl;rcases hc with rfl |hc
  ·rw[hfree]at e;cases e
  ·rw[hfree]at hc;cases hc
 rcases hx with hk |hk
 ·refine wpAny_storeName_local hk hn (λh' fw hs=>?_) cm
  obtain⟨oL,_,_,hoL,_⟩:=id hn;refine h _ ⟨I.ok,I.os,I.bare,⟨λb o e n hb hx=>?_,λb o e n hb hx=>?_,I.base.free,λb o e hx=>?_,I.base.tups,I.base.frzs,I.base.tbls⟩,⟨_,fw,λj y v' e1 e2 e3=>?_⟩,λy c e=>?_,I.free,I.freeC,λp hp=>?_,tracked ⟨oL,hoL,I.free⟩ hs,by simpa using I.len,kn _⟩ ⟨_,hs,.inl rfl⟩
  ·exact(hs.2 b (jT (i6 (jF e) I.ok.above))).trans (I.base.keep b o e n hb hx)
  ·obtain⟨sl,e1⟩:=I.base.slot b o e n hb hx
   exact⟨sl,(hs.2 b (jT (i6 (jF e) I.ok.above))).trans e1⟩
  ·obtain⟨o',e1⟩:=I.base.there b o e hx
   exact⟨o',(hs.2 b (jT (i6 (jF e) I.ok.above))).trans e1⟩
  ·by_cases hj:j=i
   ·subst hj
    rw[hi]at e1;cases e1;rw[kY bP]at e2;cases e2;exact⟨u,r,.inl ⟨hk,by simp⟩⟩
   ·rw[jI (mO hj)]at e2
    obtain⟨u',r',q⟩:=hl j y v' e1 e2 e3;refine⟨u',r',?_⟩;rcases q with⟨k,e⟩|⟨k,c,e,z⟩
    ·refine .inl ⟨k,?_⟩
     have:y≠x:=λe=>hj (zcD_ hN e1 (e ▸ hi))
     simp[this,e]
    ·exact .inr ⟨k,c,e,z.sameBut hs (cne y c e)⟩
  ·obtain⟨w',z⟩:=I.cell y c e
   exact⟨w',z.sameBut hs (cne y c e)⟩
  ·obtain⟨e,n,ne,nf,d⟩:=I.pin p hp
   exact⟨(hs.2 p.1 ne).trans e,n,ne,nf,d⟩
 ·have dC:X.fn x=rR:=by
   rcases hf with z |z
   ·exact z
   ·rw[z]at hk;cases hk
  obtain⟨c,hc⟩:=I.ok.has x (.inl hk);obtain⟨w',z⟩:=I.cell x c hc;refine wpAny_storeName_cell I.ok.kind hk hc z (λh' bj hs=>?_)
  obtain⟨oc,hoc,hocd⟩:=id z;refine h {s with heap:=h'} ⟨I.ok,I.os,I.bare,⟨λb o e n hb hx=>?_,λb o e n hb hx=>?_,I.base.free,λb o e hx=>?_,I.base.tups,I.base.frzs,I.base.tbls⟩,⟨m,hn.sameBut hs (mO (cne x c hc)),λj y v' e1 e2 e3=>?_⟩,λy c' e=>?_,I.free,I.freeC,λp hp=>?_,tracked ⟨oc,hoc,I.freeC x c hc⟩ hs,by simpa using I.len,I.tk⟩ ⟨c,hs,.inr hc⟩
  ·exact(hs.2 b (jT (i6 (jF e) (I.ok.cab x c dC hc)))).trans (I.base.keep b o e n hb hx)
  ·obtain⟨sl,e1⟩:=I.base.slot b o e n hb hx
   exact⟨sl,(hs.2 b (jT (i6 (jF e) (I.ok.cab x c dC hc)))).trans e1⟩
  ·obtain⟨o',e1⟩:=I.base.there b o e hx
   exact⟨o',(hs.2 b (jT (i6 (jF e) (I.ok.cab x c dC hc)))).trans e1⟩
  ·by_cases hj:j=i
   ·subst hj
    rw[hi]at e1;cases e1;rw[kY bP]at e2;cases e2;exact⟨u,r,.inr ⟨.inl hk,c,hc,bj⟩⟩
   ·rw[jI (mO hj)]at e2
    obtain⟨u',r',q⟩:=hl j y v' e1 e2 e3;refine⟨u',r',?_⟩;rcases q with q |⟨k,c',e,z'⟩
    ·exact .inl q
    ·refine .inr ⟨k,c',e,z'.sameBut hs ?_⟩
     rintro rfl;exact hj (zcD_ hN e1 (I.ok.inj _ _ _ e hc ▸ hi))
  ·by_cases hcc:c'=c
   ·subst hcc;exact⟨_,bj⟩
   ·obtain⟨w2,z2⟩:=I.cell y c' e
    exact⟨w2,z2.sameBut hs hcc⟩
  ·obtain⟨e,n,ne,nf,d⟩:=I.pin p hp
   refine⟨(hs.2 p.1 ?_).trans e,n,ne,nf,d⟩;intro q;rw[q,hoc]at e;have q':oc=p.2:=j8 e;exact d w' (by rw[<- q'];exact hocd)
theorem zbD_ {M:Model}{A:jW}{E:iX->iY->Prop}{i:Nat}{x:Str}{v:V}{u:iX}{Q:Unit->iY->Prop}(I:Inv X pins σ H s)(hN:X.N.Nodup)(hi:X.N[i]?=rP x)(hx:Loc X.env.scope x)(r:RelV v u)
  (h:∀s',Inv X pins (σ.set i (rP v)) H s'->Q () s') (hf:X.fn x=rR\/X.env.scope.names.lookup x=rP .local:=by first |exact .inl rfl |exact .inr rfl |assumption):jD M A (storeName X.env x u) Q E s:=
 zfx_ I hN hi hx r (λs' I' _=>h s' I') hf
theorem Inv.call' {s':iY}{ch:List i9}(I:Inv X pins σ H s)(ho:s'.os=s.os)(u:Un (frs X.stack) ch H H' s.heap s'.heap)(hok:HOk X.prog X.w H' s'.heap)(hg:AllBare s'.gens)
  (bh:∀b∈ch,(b∈X.ex\/X.s₀.heap.objs.size<=b)/\b≠X.env.locals/\(∀x c,X.env.cells.lookup x=rP c->c≠b)/\∀p∈X.pn++pins,p.1≠b) (ht:0<s'.toks:=by first |assumption |exact Inv.tk ‹_› |exact kn _ |(refine i6 ?_ ‹_›;exact Inv.tk ‹_›)|exact i6 (Inv.tk ‹_›) (jZ _ _)):Inv X pins σ H' s':=by
 obtain⟨h',g',d',t',o'⟩:=s';have e:o'=s.os:=ho;subst e;exact I.call (g':=g') (t':=t') (d':=d') u hok hg bh ht
end
abbrev XK:=iX->Option i9->Hp->Prop
noncomputable abbrev St:=List (Option V)
abbrev VK:=V->Hp->Prop
abbrev TE:=St->Hp->VK->Prop
abbrev TT:=St->Hp->(Bool->Hp->Prop)->Prop
abbrev TA:=St->Hp->(List V->Hp->Prop)->Prop
structure Ends where
 nx:St->Hp->Prop
 rt:VK
 bk:St->Hp->Prop:=λ_ _=>False
 ct:St->Hp->Prop:=λ_ _=>False
abbrev TS:=Ends->St->Hp->Prop
def EP (X:Cx)(pins:Pnn)(σ:St)(Q:VK)(u:iX)(s':iY):Prop:=∃v H',Inv X pins σ H' s'/\RelV v u/\Q v H'
def TP (X:Cx)(pins:Pnn)(σ:St)(Q:Bool->Hp->Prop)(b:Bool)(s':iY):Prop:=∃H',Inv X pins σ H' s'/\Q b H'
def AP (X:Cx)(pins:Pnn)(σ:St)(Q:List V->Hp->Prop)(us:List iX)(s':iY):Prop:=∃vs H',Inv X pins σ H' s'/\Vals vs us/\Q vs H'
def SP (X:Cx)(pins:Pnn)(D:Ends)(f:Flow)(s':iY):Prop:=
 match f with
 |.next=>∃af H',Inv X pins af H' s'/\D.nx af H'|.brk=>∃af H',Inv X pins af H' s'/\D.bk af H'|.cont=>∃af H',Inv X pins af H' s'/\D.ct af H'|.ret u=>∃v af H',Inv X pins af H' s'/\RelV v u/\D.rt v H'
def PE (X:Cx)(e:jw)(t:TE):Prop:=
 ∀(pins:Pnn) (s:iY) (σ:St) (H:Hp) (Q:VK),Inv X pins σ H s->t σ H Q->jD (model X.prog X.w) X.A (eval e X.env) (EP X pins σ Q) X.xe s
def PT (X:Cx)(e:jw)(t:TT):Prop:=
 ∀(pins:Pnn) (s:iY) (σ:St) (H:Hp) (Q:Bool->Hp->Prop),Inv X pins σ H s->t σ H Q->jD (model X.prog X.w) X.A (isTrue e X.env (eval e X.env)) (TP X pins σ Q) X.xe s
def PW (X:Cx)(e:jw)(t:TT):Prop:=
 ∀(whole:Sem iX) (pins:Pnn) (s:iY) (σ:St) (H:Hp) (Q:Bool->Hp->Prop),Inv X pins σ H s->t σ H Q->jD (model X.prog X.w) X.A (isTrue e X.env whole) (TP X pins σ Q) X.xe s
theorem PW.pt {X:Cx}{e:jw}{t:TT}(h:PW X e t):PT X e t:=h _
def PA (X:Cx)(es:List jw)(t:TA):Prop:=
 ∀(pos:Pos) (pins:Pnn) (s:iY) (σ:St) (H:Hp) (Q:List V->Hp->Prop),Inv X pins σ H s->t σ H Q->jD (model X.prog X.w) X.A (spliced (lh pos (jE es X.env))) (AP X pins σ Q) X.xe s
def PS (X:Cx)(st:kq)(t:TS):Prop:=
 ∀(pins:Pnn) (s:iY) (σ:St) (H:Hp) (D:Ends),Inv X pins σ H s->t D σ H->jD (model X.prog X.w) X.A (exec st X.env) (SP X pins D) X.xe s
def PSs (X:Cx)(st:List kq)(t:TS):Prop:=
 ∀(pins:Pnn) (s:iY) (σ:St) (H:Hp) (D:Ends),Inv X pins σ H s->t D σ H->jD (model X.prog X.w) X.A (execs st X.env) (SP X pins D) X.xe s
theorem thn {α:Type}{t:Sem α}{Q Q':α->iY->Prop}{M:Model}{A:jW}{E:iX->iY->Prop}{s:iY}(h:jD M A t Q E s)(hQ:∀a s,Q a s->Q' a s):jD M A t Q' E s:=ke h hQ λ_ _ x=>x
section
variable {X:Cx}
def tVar (i:Nat):TE:=λσ H Q=>∃v,σ[i]?=rP (rP v)/\Q v H
def tC (v:V):TE:=λ_ H Q=>Q v H
theorem zmi_ {i:Nat}{x:Str}{pos:Pos}(hN:X.N[i]?=rP x)(hv:Vis X.env.scope x)(hd:(x==("__debug__":Str))=rS:=by decide)(bc:(x==("__classdict__":Str))=rS:=by decide):PE X (.Name x pos) (tVar i):=by
 intro pins s σ H Q I h;obtain⟨v,e,h⟩:=h;obtain⟨m,hn,hl⟩:=I.loc;obtain⟨u,r,l⟩:=hl i x v hN e hv;have fin:EP X pins σ Q u s:=⟨v,H,I,r,h⟩;rcases l with⟨hk,hm⟩|⟨hk,c,hc,bC⟩
 ·exact wpAny_Name (wpAny_loadName_local I.ok.kind hk hn hm fin) hd
 ·rcases hk with hk |hk
  ·exact wpAny_Name (wpAny_loadName_cell I.ok.kind hk hc bC fin) hd
  ·exact wpAny_Name (wpAny_loadName_free I.ok.kind hk hc bC fin bc) hd
theorem zkH_ {i j pos}:PE X (.Constant (.int i) j pos) (tC (.int i)):=λ_ _ _ H _ I h=>wpAny_Constant_int ⟨.int i,H,I.tok _,⟨_,rfl⟩,h⟩
theorem pe_bl {b j pos}:PE X (.Constant (.bool b) j pos) (tC (.bl b)):=λ_ _ _ H _ I h=>Constant_bool ⟨.bl b,H,I,rfl,h⟩
theorem znK_ {j pos}:PE X (.Constant .none j pos) (tC .non):=λ_ _ _ H _ I h=>Constant_none ⟨.non,H,I,rfl,h⟩
theorem zmv_ {x j pos}:PE X (.Constant (.str x) j pos) (tC (.str x)):=λ_ _ _ H _ I h=>Calls.Constant_str ⟨.str x,H,I.tok _,⟨_,rfl⟩,h⟩
def Gl (X:Cx)(x:Str):Prop:=X.env.kindOf x=rP .globalImplicit
theorem zaP_ {E:iX->iY->Prop}{pins:Pnn}{s:iY}{σ:St}{H:Hp}{x:Str}{u:iX}{pos:Pos}{Q:iX->iY->Prop}(I:Inv X pins σ H s)(hg:Gl X x)(hm:X.mg x=rP u)(h:Q u s)
  (hd:(x==("__debug__":Str))=rS:=by decide):jD (model X.prog X.w) X.A (eval (.Name x pos) X.env) Q E s:=
 Calls.Name_function_global I.ok.kind hg (Calls.loadGlobal_global (by rw[I.ok.glob];exact I.mod.glob.keeps I.bk) hm h) hd
theorem zgj_ {E:iX->iY->Prop}{pins:Pnn}{s:iY}{σ:St}{H:Hp}{x:Str}{u:iX}{pos:Pos}{Q:iX->iY->Prop}(I:Inv X pins σ H s)(hg:Gl X x)(hm:X.mg x=rQ)(hv:lP x=rP u)(h:Q u s)
  (hn:x ≠ "__name__":=by decide) (hd:(x==("__debug__":Str))=rS:=by decide):jD (model X.prog X.w) X.A (eval (.Name x pos) X.env) Q E s:=by
 obtain⟨mb,h1,h2⟩:=I.mod.blt;exact Calls.Name_function_global I.ok.kind hg (Calls.loadGlobal_builtin (by rw[I.ok.glob];exact I.mod.glob.keeps I.bk) hm (by rw[I.ok.blt];exact h1.keeps I.bk) ((h2 x hn).trans hv) h) hd
theorem ze2_ {x:Str}{v:V}{u:iX}{pos:Pos}(hg:Gl X x)(hm:X.mg x=rP u)(r:RelV v u)(hd:(x==("__debug__":Str))=rS:=by decide):PE X (.Name x pos) (tC v):=
 λ_ _ _ H _ I h=>zaP_ I hg hm ⟨v,H,I,r,h⟩ hd
theorem zj9_ {x:Str}{v:V}{u:iX}{pos:Pos}(hg:Gl X x)(hm:X.mg x=rQ)(hv:lP x=rP u)(r:RelV v u)(hn:x ≠ "__name__":=by decide)(hd:(x==("__debug__":Str))=rS:=by decide):PE X (.Name x pos) (tC v):=
 λ_ _ _ H _ I h=>zgj_ I hg hm hv ⟨v,H,I,r,h⟩ hn hd
variable {a:jw}{pos:Pos}
variable {tA:TT}
def tNot (t:TT):TT:=λσ H Q=>t σ H λc H1=>Q (!c) H1
theorem zld_ (ha:PT X a tA):PW X (.BoolOp .And [a] pos) tA:=by
 intro wh pins s σ H Q I h;refine isTrue_and (thn (ha pins s σ H Q I h) λc s1 e=>?_)
 cases c with
 |true=>exact isTrue_and_nil e|false=>exact e
theorem znu_ (ha:PT X a tA):PW X (.BoolOp .Or [a] pos) tA:=by
 intro wh pins s σ H Q I h;refine isTrue_or (thn (ha pins s σ H Q I h) λc s1 e=>?_)
 cases c with
 |false=>exact isTrue_or_nil e|true=>exact e
theorem zoF_ (ha:PT X a tA):PT X (.UnaryOp .Not a pos) (tNot tA):=by
 intro pins s σ H Q I h;exact isTrue_not (ha pins s σ H (λc H1=>Q (!c) H1) I h)
theorem zj6_ {op}{t:TE}(h:PE X a t):PE X (.BoolOp op [a] pos) t:=λpins s σ H Q I hw=>BoolOp_one (h pins s σ H Q I hw)
end
def SqL (K:Fgg)(H:Hp)(a:i9)(xs:List V):Prop:=
 Rd H a (.lst xs) \/
  ∃(o:qb) (aa:Array iX) (n:Nat),K.lookup a=rP o/\o.cls=.type "list" /\ o.dict=rQ/\o.data=.seq aa n/\aa.size<=jj/\Vals xs aa.toList
def SqT (K:Fgg)(H:Hp)(a:i9)(xs:List V):Prop:=
 Rd H a (.tup xs) \/
  ∃(o:qb) (aa:Array iX) (n:Nat),K.lookup a=rP o/\o.cls=.type "tuple" /\ o.data=.seq aa n/\aa.size<=jj/\Vals xs aa.toList
noncomputable def absV:iX->Option V
 |.none=>rP .non|.bool b=>rP (.bl b)|.int i _=>rP (.int i)|.str x _=>rP (.str x)|.bytes b _=>rP (.byt b)|.float b _=>rP (.flt b)|.ref a=>rP (.ref a)|.type n=>rP (.ty n)|_=>rQ
theorem RelV.abs {x:V}{u:iX}(r:RelV x u):absV u=rP x:=by
 cases x with
 |non=>cases r;rfl|bl _=>cases r;rfl|int _=>obtain⟨t,rfl⟩:=r;rfl|str _=>obtain⟨t,rfl⟩:=r;rfl|byt _=>obtain⟨t,rfl⟩:=r;rfl|flt _=>obtain⟨t,rfl⟩:=r;rfl|ref _=>cases r;rfl|ty _=>cases r;rfl
theorem RelV.inj {x y:V}{u:iX}(r:RelV x u)(q:RelV y u):x=y:=j8 (r.abs.symm.trans q.abs)
theorem Vals.inj:∀{xs ys:List V}{us:List iX},Vals xs us->Vals ys us->xs=ys
 |_,_,_,.nil,.nil=>rfl|_,_,_,.cons r t,.cons r' t'=>by rw[r.inj r',Vals.inj t t']
section
variable {X:Cx}{pins:Pnn}{σ:St}{H:Hp}{s:iY}{a:i9}{xs ys:List V}
theorem SqL.of {K:Fgg}(h:H a=rP (.lst xs)):SqL K H a xs:=.inl (.inl h)
theorem SqT.of {K:Fgg}(h:H a=rP (.tup xs)):SqT K H a xs:=.inl (.inl h)
theorem Inv.list (I:Inv X pins σ H s)(h:SqL X.K H a xs):∃aa:List iX,Vals xs aa/\PlainL s.heap a aa.toArray/\xs.length<=jj:=by
 rcases h with h |⟨o,aa,n,hk,hc,hd,hs,hz,r⟩
 ·obtain⟨z,aa,n,r,e⟩:=h.ok I.hok
  exact⟨aa,r,⟨_,n,e,rfl,rfl,rfl⟩,z⟩
 ·refine⟨aa.toList,r,⟨o,n,I.kIn a o hk,hc,hd,by simpa using hs⟩,?_⟩
  have e:=r.length;simp only[lM]at e;lia
theorem Inv.tuple (I:Inv X pins σ H s)(h:SqT X.K H a xs):∃aa:List iX,Vals xs aa/\IsTup s.heap a aa.toArray/\xs.length<=jj:=by
 rcases h with h |⟨o,aa,n,hk,hc,hs,hz,r⟩
 ·obtain⟨z,aa,r,p⟩:=h.ok I.hok
  exact⟨aa,r,p,z⟩
 ·refine⟨aa.toList,r,⟨o,I.kIn a o hk,hc,n,by simpa using hs⟩,?_⟩
  have e:=r.length;simp only[lM]at e;lia
theorem Inv.list_inj (I:Inv X pins σ H s)(h:SqL X.K H a xs)(h':SqL X.K H a ys):xs=ys:=by
 obtain⟨aa,r,⟨o,n,e,_,_,d⟩,_⟩:=I.list h;obtain⟨its',r',⟨o',n',e',_,_,d'⟩,_⟩:=I.list h';rw[e]at e';cases e';rw[d]at d';injection d' with d1 _;have:aa=its':=by simpa using congrArg nA d1
 subst this;exact r.inj r'
theorem Inv.tuple_inj (I:Inv X pins σ H s)(h:SqT X.K H a xs)(h':SqT X.K H a ys):xs=ys:=by
 obtain⟨aa,r,⟨o,e,_,n,d⟩,_⟩:=I.tuple h;obtain⟨its',r',⟨o',e',_,n',d'⟩,_⟩:=I.tuple h';rw[e]at e';cases e';rw[d]at d';injection d' with d1 _;have:aa=its':=by simpa using congrArg nA d1
 subst this;exact r.inj r'
end
noncomputable abbrev Cx.wish (X:Cx)(E:iX->iY->Prop):Cx:={X with xe:=E}
abbrev Cx.nox (X:Cx):Cx:=X.wish λ_ _=>False
theorem Cx.Ok.wish {X:Cx}(ok:X.Ok)(E:iX->iY->Prop):(X.wish E).Ok:=
 ⟨ok.mod,ok.kind,ok.glob,ok.blt,ok.above,ok.inj,ok.has,ok.cab,ok.hd,ok.frames,ok.stk,ok.exf,ok.bs,ok.bsz,ok.noex,ok.exfs,ok.funs,ok.frf,ok.tb⟩
theorem Cx.Ok.unwish {X:Cx}{E:iX->iY->Prop}(ok:(X.wish E).Ok):X.Ok:=
 ⟨ok.mod,ok.kind,ok.glob,ok.blt,ok.above,ok.inj,ok.has,ok.cab,ok.hd,ok.frames,ok.stk,ok.exf,ok.bs,ok.bsz,ok.noex,ok.exfs,ok.funs,ok.frf,ok.tb⟩
section
variable {X:Cx}{pins:Pnn}{σ:St}{H:Hp}{s:iY}{E:iX->iY->Prop}
theorem Inv.wish (I:Inv X pins σ H s)(E:iX->iY->Prop):Inv (X.wish E) pins σ H s:=⟨I.ok.wish E,I.os,I.bare,I.base,I.loc,I.cell,I.free,I.freeC,I.pin,I.hok,I.len,I.tk⟩
theorem Inv.unwish (I:Inv (X.wish E) pins σ H s):Inv X pins σ H s:=⟨I.ok.unwish,I.os,I.bare,I.base,I.loc,I.cell,I.free,I.freeC,I.pin,I.hok,I.len,I.tk⟩
theorem SP.unwish {D:Ends}{f:Flow}{s':iY}(h:SP (X.wish E) pins D f s'):SP X pins D f s':=by
 cases f with
 |next=>obtain⟨af,H',I,q⟩:=h;exact⟨af,H',I.unwish,q⟩|brk=>obtain⟨af,H',I,q⟩:=h;exact⟨af,H',I.unwish,q⟩|cont=>obtain⟨af,H',I,q⟩:=h;exact⟨af,H',I.unwish,q⟩|ret u=>obtain⟨v,af,H',I,r,q⟩:=h;exact⟨v,af,H',I.unwish,r,q⟩
theorem PE.nox {e:jw}{t:TE}(h:PE X.nox e t):PE X e t:=λpins s σ H Q I hw=>
 ke (h pins s σ H Q (I.wish _) hw) (λ_ _ ⟨v,H',I',r,q⟩=>⟨v,H',I'.unwish,r,q⟩) λ_ _ z=>jM z
end
section
variable {X:Cx}{st:kq}{rest:List kq}{t u:TS}{e:jw}{te:TE}{pos:Pos}
def tNext:TS:=λD σ H=>D.nx σ H
def tSeq (t u:TS):TS:=λD σ H=>t {D with nx:=u D} σ H
theorem zeF_:PSs X [] tNext:=λ_ _ σ H _ I h=>wpAny_execs_nil ⟨σ,H,I,h⟩
theorem zcE_ (h1:PS X st t)(h2:PSs X rest u):PSs X (st::rest) (tSeq t u):=by
 intro pins s σ H D I h;refine wpAny_execs_cons (thn (h1 pins s σ H {D with nx:=u D} I h) λf s1 q=>?_)
 cases f with
 |next=>
  obtain⟨af,H',I',q⟩:=q;exact h2 pins s1 af H' D I' q
 |ret v=>exact q|brk=>exact q|cont=>exact q
theorem zli_:PS X (.Pass pos) tNext:=λ_ _ σ H _ I h=>wpAny_Pass ⟨σ,H,I,h⟩
theorem Inv.quiet {pins:Pnn}{σ:St}{H:Hp}{s:iY}(I:Inv X pins σ H s):interactive X.env=rS:=by simp[interactive,I.ok.kind]
theorem zou_ {x j pos pos'}:PS X (.Expr (.Constant (.str x) j pos) pos') tNext:=λ_ s σ H _ I h=>wpAny_Expr (Calls.Constant_str (show SP X _ _ .next {s with toks:=s.toks+1}from⟨σ,H,I.tok _,h⟩)) I.quiet
def tDrop (te:TE):TS:=λD σ H=>te σ H λ_ H1=>D.nx σ H1
theorem zlt_ (he:PE X e te)(hs:swapsWith e rQ pos.line X.env=pure rS:=by rfl):PS X (.Expr e pos) (tDrop te):=by
 intro pins s σ H D I h;exact wpAny_Expr_any (thn (he pins s σ H _ I h) λv s1 ⟨x,H1,I1,r1,q1⟩=>⟨σ,H1,I1,q1⟩) I.quiet hs
def tRet (te:TE):TS:=λD σ H=>te σ H D.rt
theorem zlO_ (he:PE X e te):PS X (.Return (rP e) pos) (tRet te):=by
 intro pins s σ H D I h;exact wpAny_Return_some (thn (he pins s σ H _ I h) λv s1 ⟨x,H1,I1,r1,q1⟩=>⟨x,σ,H1,I1,r1,q1⟩)
def tRetN:TS:=λD _ H=>D.rt .non H
theorem zjM_:PS X (.Return rQ pos) tRetN:=λ_ _ σ H _ I h=>wpAny_Return_none ⟨.non,σ,H,I,rfl,h⟩
def tNever:TS:=λ_ _ _=>False
theorem ziy_:PS X st tNever:=λ_ _ _ _ _ _ h=>h.elim
end
abbrev TG:=V->St->Hp->(St->Hp->Prop)->Prop
abbrev TGs:=List V->St->Hp->(St->Hp->Prop)->Prop
def PG (X:Cx)(target:jw)(t:TG):Prop:=
 ∀(pins:Pnn) (s:iY) (σ:St) (H:Hp) (v:V) (u:iX) (Q:St->Hp->Prop),Inv X pins σ H s->RelV v u->t v σ H Q ->
  jD (model X.prog X.w) X.A (assign target X.env u) (λ_ s'=>∃af H',Inv X pins af H' s'/\Q af H') X.xe s
def PGs (X:Cx)(ts:List jw)(t:TGs):Prop:=
 ∀(pins:Pnn) (s:iY) (σ:St) (H:Hp) (vs:List V) (us:List iX) (Q:St->Hp->Prop),Inv X pins σ H s->Vals vs us->t vs σ H Q ->
  jD (model X.prog X.w) X.A (assignInOrder ((kP ts X.env).map (·.2)) us) (λ_ s'=>∃af H',Inv X pins af H' s'/\Q af H') X.xe s
abbrev TSet:=V->V->V->Hp->(Hp->Prop)->Prop
def PSet (X:Cx)(t:TSet):Prop:=
 ∀(pins:Pnn) (s:iY) (σ:St) (H:Hp) (o i v:V) (ov iv u:iX) (Q:Hp->Prop),Inv X pins σ H s->RelV o ov->RelV i iv->RelV v u->t o i v H Q ->
  jD (model X.prog X.w) X.A (setItem ov iv u) (λ_ s'=>∃H',Inv X pins σ H' s'/\Q H') X.xe s
section
variable {X:Cx}{pos:Pos}
def gName (i:Nat):TG:=λv σ H Q=>Q (σ.set i (rP v)) H
theorem zki_ {i:Nat}{x:Str}(hN:X.N.Nodup)(hi:X.N[i]?=rP x)(hx:Loc X.env.scope x)(hf:X.fn x=rR\/X.env.scope.names.lookup x=rP .local:=by first |exact .inl rfl |exact .inr rfl |assumption):PG X (.Name x pos) (gName i):=by
 intro pins s σ H v u Q I r h;exact wpAny_assign_Name (zbD_ I hN hi hx r (λs' I'=>⟨_,H,I',h⟩) hf)
def gNil:TGs:=λvs σ H Q=>vs=[]/\Q σ H
def gCons (t:TG)(u:TGs):TGs:=λvs σ H Q=>∃v r,vs=v::r/\t v σ H λaf H'=>u r af H' Q
theorem zln_:PGs X [] gNil:=by
 intro pins s σ H vs us Q I r h;obtain⟨e,h⟩:=h;subst e;cases r;exact assignInOrder_nil ⟨σ,H,I,h⟩
theorem ziN_ {e:jw}{es:List jw}{t:TG}{u:TGs}(h1:PG X e t)(h2:PGs X es u)
  (hs:(kP (e::es) X.env).map (·.2)=assign e X.env::(kP es X.env).map (·.2):=by rfl):PGs X (e::es) (gCons t u):=by
 intro pins s σ H vs us Q I r h;obtain⟨v,vr,e1,h⟩:=h;subst e1;cases r with
 |cons r rr=>
  rw[hs];refine assignInOrder_cons (thn (h1 pins s σ H _ _ _ I r h) λ_ s1 ah=>?_)
  obtain⟨gG,H1,I1,q1⟩:=ah;exact h2 pins s1 gG H1 _ _ Q I1 rr q1
def gTup (K:Fgg)(n:Nat)(t:TGs):TG:=λv σ H Q=>∃a xs,v=.ref a/\SqT K H a xs/\xs.length=n/\t xs σ H Q
theorem znk_ {es:List jw}{k:Nat}{t:TGs}{n:Nat}(hc:X.calm=rR)(h:PGs X es t)
  (hn:(kP es X.env).length=n:=by rfl) (aD:(kP es X.env).findIdx? (·.1)=rQ:=by rfl):PG X (.Tuple es k pos) (gTup X.K n t):=by
 intro pins s σ H v u Q I r hw;obtain⟨a,xs,e1,hq,hl,hw⟩:=hw;subst e1;cases r;obtain⟨aa,rv,ht,hz⟩:=I.tuple hq;refine assign_Tuple_tuple (I.ok.hd hc) ht (by simp[hn,<- hl,rv.length]) aD λh' hx=>?_
 have I1:Inv X pins σ H {s with heap:=h'}:=I.kept (t':=s.toks) λb o e=>hx b o (jT (jF e)) e
 exact h pins _ σ H xs _ Q I1 (by simpa using rv) hw
def gSub (to ti:TE)(t:TSet):TG:=λv σ H Q=>to σ H λo H1=>ti σ H1 λi H2=>t o i v H2 λH3=>Q σ H3
theorem zmm_ {o i:jw}{to ti:TE}{t:TSet}(ho:PE X o to)(hi:PE X i ti)(hs:PSet X t)
  (ha:∀v,assign (.Subscript o i pos) X.env v=(do
   let ov <- holding [v] (eval o X.env)
   let iv <- holding [v,ov] (eval i X.env)
   standAt pos
   holding [v,ov,iv] (setItem ov iv v)
   release [v,ov,iv] []):=by intro _;rfl):PG X (.Subscript o i pos) (gSub to ti t):=by
 intro pins s σ H v u Q I r h;rw[ha];refine iZ (wpAny_holding (thn (ho pins s σ H _ I h) λov s1 ah=>?_))
 obtain⟨x,H1,I1,r1,q1⟩:=ah;refine iZ (wpAny_holding (thn (hi pins s1 σ H1 _ I1 q1) λiv s2 ah=>?_))
 obtain⟨y,H2,I2,r2,q2⟩:=ah;refine iZ (wpAny_standAt (iZ (wpAny_holding (thn (hs pins s2 σ H2 x y v ov iv u _ I2 r1 r2 r q2) λ_ s3 ah=>?_))))
 obtain⟨H3,I3,q3⟩:=ah;exact wpAny_release ⟨σ,H3,I3,q3⟩
def tAsg (te:TE)(g:TG):TS:=λD σ H=>te σ H λx H1=>g x σ H1 D.nx
theorem zlk_ {tg e:jw}{te:TE}{g:TG}(he:PE X e te)(hg:PG X tg g)(hs:swapsWithSole [tg] e pos.line X.env=pure rS:=by rfl)(hw:swappedStores [tg] e X.env=pure rQ:=by rfl)
  (h1:(kP [tg] X.env).map (·.2)=[assign tg X.env]:=by rfl):PS X (.Assign [tg] e pos) (tAsg te g):=by
 intro pins s σ H D I h;refine wpAny_Assign_stores (thn (he pins s σ H _ I h) λv s1 ah=>?_) hs hw
 obtain⟨x,H1,I1,r1,q1⟩:=ah;rw[h1];exact thn (hg pins s1 σ H1 x v _ I1 r1 q1) λ_ s2 q=>q
theorem zfy_ {i:Nat}{x:Str}{e:jw}{te:TE}{pos':Pos}(hN:X.N.Nodup)(hi:X.N[i]?=rP x)(hx:Loc X.env.scope x)(he:PE X e te)(hs:swapsWith e (rP (.Name x pos')) pos.line X.env=pure rS:=by rfl)(hf:X.fn x=rR\/X.env.scope.names.lookup x=rP .local:=by first |exact .inl rfl |exact .inr rfl |assumption):
  PS X (.Assign [.Name x pos'] e pos) (tAsg te (gName i)):=by
 intro pins s σ H D I h;refine wpAny_Assign_Name (thn (he pins s σ H _ I h) λv s1 ah=>?_) hs
 obtain⟨y,H1,I1,r1,q1⟩:=ah;exact zbD_ I1 hN hi hx r1 (λs2 I2=>⟨_,H1,I2,q1⟩) hf
end
structure It where
 go:Nat->Hp->Prop
 yld:Nat->Hp->V->Hp->Prop
 stop:Nat->Hp->Prop
def FpOk (X:Cx)(pins:Pnn)(H:Hp)(b:i9):Prop:=
 H b=rQ/\b≠X.env.locals/\b∉X.fs/\(b∈X.ex\/X.s₀.heap.objs.size<=b)/\(∀x c,X.env.cells.lookup x=rP c->c≠b)/\∀p∈X.pn++pins,p.1≠b
theorem Inv.fpOk {X:Cx}{pins:Pnn}{σ:St}{H H':Hp}{s:iY}{b:i9}(I:Inv X pins σ H s)(hb:s.heap.objs.size<=b)(hn:H' b=rQ):FpOk X pins H' b:=by
 refine⟨hn,pO (i6 I.lt hb),I.nofs hb,.inr (ki I.sz hb),λx c e z=>?_,λp hp z=>?_⟩
 ·obtain⟨v,q⟩:=I.cell x c e
  exact absurd (i6 q.lt (by rw[z];exact hb)) (mG _)
 ·exact absurd (i6 (jF (I.pin p hp).1) (by rw[z];exact hb)) (mG _)
structure Turn (P:jL)(w:jU)(K:Fgg)(tg:jw)(J:It)(fp:List i9)(it:i9)(tn:Nat->Heap->Prop):Prop where
 mem:it∈fp
 obj:∀i h,tn i h->∀b∈fp,∃o,h.get? b=rP o/\∀v,o.data≠.cell v
 keep:∀i h h',tn i h->(∀b∈fp,∀o,h.get? b=rP o->h'.get? b=rP o)->tn i h'
 item:∀(X:Cx),X.prog=P->X.w=w->X.K=K->X.calm=rR->∀(i:Nat) (pins:Pnn) (s:iY) (σ:St) (H:Hp) (E:iX->iY->Prop),Inv X pins σ H s->(∀b∈fp,FpOk X pins H b)->tn i s.heap->J.go i H ->
  jD (model P w) X.A (pyNext (.ref it)) (λr s1=>∃u,r=rP u /\
   jD (model P w) X.A (letOwnedTupleGo tg (.ref it) u) (λ_ s2=>∃x H',Inv X pins σ H' s2/\RelV x u/\J.yld i H x H'/\tn (i+1) s2.heap/\∀b∈fp,H' b=rQ) E s1) E s
 done:∀(X:Cx),X.prog=P->X.w=w->X.K=K->X.calm=rR->∀(i:Nat) (pins:Pnn) (s:iY) (σ:St) (H:Hp) (E:iX->iY->Prop),Inv X pins σ H s->(∀b∈fp,FpOk X pins H b)->tn i s.heap->J.stop i H ->
  jD (model P w) X.A (pyNext (.ref it)) (λr s1=>r=rQ/\Inv X pins σ H s1) E s
 self:∀(A:jW) (i:Nat) (s:iY) (Q:iX->iY->Prop) (E:iX->iY->Prop),tn i s.heap->Q (.ref it) s->jD (model P w) A (pyIter (.ref it)) Q E s
abbrev TI:=St->Hp->(It->Hp->Prop)->Prop
def PIE (X:Cx)(pins:Pnn)(σ:St)(tg:jw)(R:It->Hp->Prop)(d9:iX)(s2:iY):Prop:=
 ∃(it:i9) (fp:List i9) (tn:Nat->Heap->Prop) (J:It) (H':Hp),d9=.ref it/\Inv X pins σ H' s2/\Turn X.prog X.w X.K tg J fp it tn/\tn 0 s2.heap/\(∀b∈fp,FpOk X pins H' b)/\R J H'
def PI (X:Cx)(tg iter:jw)(wi:TI):Prop:=
 ∀(pins:Pnn) (s:iY) (σ:St) (H:Hp) (R:It->Hp->Prop),Inv X pins σ H s->wi σ H R ->
  jD (model X.prog X.w) X.A (eval iter X.env) (λv s1=>jD (model X.prog X.w) X.A (pyIter v) (PIE X pins σ tg R) X.xe s1) X.xe s
theorem zl2_ {M:Model}{A:jW}{E:iX->iY->Prop}{s:iY}{tg:jw}{it:i9}{u:iX}{o:qb}{n:String}{vs:Array iX}{Q:Unit->iY->Prop}(ho:s.heap.get? it=rP o)(hc:o.cls=.type n)(hd:o.data=.fields vs)
  (hn:["enumerate", "zip", "dict_itemiterator", "dict_reverseitemiterator", "odict_iterator", "itertools.zip_longest", "itertools.pairwise"].contains n=rS) (hQ:Q () s):jD M A (letOwnedTupleGo tg (.ref it) u) Q E s:=by
 unfold letOwnedTupleGo
 cases tg<;>first
  |exact jy hQ
  | (cases u<;>first
    |exact jy hQ
    | (refine iZ (wpAny_load ho ?_)
       rw[hc,hd];show jD M A (if(["enumerate", "zip", "dict_itemiterator", "dict_reverseitemiterator", "odict_iterator", "itertools.zip_longest", "itertools.pairwise"].contains n && vs[0]?==rP (rawInt _))=rR then _ else _) Q E s
       rw[if_neg (by intro h;rw[hn,Bool.false_and]at h;cases h)]
       exact jy hQ))
def Itl (K:Fgg)(a:i9):It:=
 ⟨λi H=>∃xs x,SqL K H a xs/\xs[i]?=rP x,λi H x H'=>H'=H/\∀xs,SqL K H a xs->xs[i]?=rP x,λi H=>∃xs,SqL K H a xs/\xs.length<=i⟩
def Itt (K:Fgg)(a:i9):It:=
 ⟨λi H=>∃xs x,SqT K H a xs/\xs[i]?=rP x,λi H x H'=>H'=H/\∀xs,SqT K H a xs->xs[i]?=rP x,λi H=>∃xs,SqT K H a xs/\xs.length<=i⟩
noncomputable def Itr (lo:Int)(n:Nat):It:=⟨λi _=>i<n,λi H x H'=>H'=H/\x=.int (lo+i),λi _=>n<=i⟩
theorem zgt_ {P:jL}{w:jU}{K:Fgg}{tg:jw}(a it:i9):Turn P w K tg (Itl K a) [it] it (λi h=>h.IsListIter it a i) where
 mem:=by simp
 obj:=λi h st b hb=>by
  have e:b=it:=by simpa using hb
  subst e;obtain⟨o,e,c,d⟩:=st;exact⟨o,e,λv z=>by rw[d]at z;cases z⟩
 keep:=λi h h' st k=>st.at λo e=>k it (by simp) o e
 item:=by
  intro X hP hw hK hc i pins s σ H E I hf st hg;subst hP hw hK;obtain⟨xs,x,hq,hx⟩:=hg;obtain⟨aa,rv,p,hz⟩:=I.list hq;obtain⟨u,hu,ru⟩:=rv.get hx;obtain⟨f0,f1,f2,f3,f4,f5⟩:=hf it (by simp)
  refine wpAny_pyNext_list_item st p.isList (x:=u) (by simpa using hu) λh' bq sb=>?_
  have I1:Inv X pins σ H {s with heap:=h'}:=I.turned (t':=s.toks) (λb o hb e=>(sb.2 b hb).trans e) f0 f1 f3 f4 f5
  obtain⟨o,e,c,d⟩:=id bq;exact⟨u,rfl,zl2_ (s:={s with heap:=h'}) e c d (by decide) ⟨x,H,I1,ru,⟨rfl,λys hy=>by rw[I.list_inj hy hq];exact hx⟩,bq,λb hb=>(hf b hb).1⟩⟩
 done:=by
  intro X hP hw hK hc i pins s σ H E I hf st hg;subst hP hw hK;obtain⟨xs,hq,hx⟩:=hg;obtain⟨aa,rv,p,hz⟩:=I.list hq;obtain⟨f0,f1,f2,f3,f4,f5⟩:=hf it (by simp)
  have hl:=rv.length;exact wpAny_pyNext_list_end (I.ok.hd hc) st p.isList (by simp;lia) λh' eb=>⟨rfl,I.turned (t':=s.toks) (λb o hb e=>eb b o hb e) f0 f1 f3 f4 f5⟩
 self:=λ_ _ _ _ _ st h=>wpAny_pyIter_listiter st h
theorem ze0_ {P:jL}{w:jU}{K:Fgg}{tg:jw}(a it:i9):Turn P w K tg (Itt K a) [it] it (λi h=>h.IsTupleIter it a i) where
 mem:=by simp
 obj:=λi h st b hb=>by
  have e:b=it:=by simpa using hb
  subst e;obtain⟨o,e,c,d⟩:=st;exact⟨o,e,λv z=>by rw[d]at z;cases z⟩
 keep:=λi h h' st k=>st.at λo e=>k it (by simp) o e
 item:=by
  intro X hP hw hK hc i pins s σ H E I hf st hg;subst hP hw hK;obtain⟨xs,x,hq,hx⟩:=hg;obtain⟨aa,rv,p,hz⟩:=I.tuple hq;obtain⟨u,hu,ru⟩:=rv.get hx;obtain⟨f0,f1,f2,f3,f4,f5⟩:=hf it (by simp)
  refine wpAny_pyNext_tuple_item st (show s.heap.IsTuple a aa.toArray from p) (x:=u) (by simpa using hu) λh' bq sb=>?_
  have I1:Inv X pins σ H {s with heap:=h'}:=I.turned (t':=s.toks) (λb o hb e=>(sb.2 b hb).trans e) f0 f1 f3 f4 f5
  obtain⟨o,e,c,d⟩:=id bq;exact⟨u,rfl,zl2_ (s:={s with heap:=h'}) e c d (by decide) ⟨x,H,I1,ru,⟨rfl,λys hy=>by rw[I.tuple_inj hy hq];exact hx⟩,bq,λb hb=>(hf b hb).1⟩⟩
 done:=by
  intro X hP hw hK hc i pins s σ H E I hf st hg;subst hP hw hK;obtain⟨xs,hq,hx⟩:=hg;obtain⟨aa,rv,p,hz⟩:=I.tuple hq;obtain⟨f0,f1,f2,f3,f4,f5⟩:=hf it (by simp)
  have hl:=rv.length;exact wpAny_pyNext_tuple_end (I.ok.hd hc) st (show s.heap.IsTuple a aa.toArray from p) (by simp;lia) λh' eb=>⟨rfl,I.turned (t':=s.toks) (λb o hb e=>eb b o hb e) f0 f1 f3 f4 f5⟩
 self:=λ_ _ _ _ _ st h=>wpAny_pyIter_tupleiter st h
theorem zen_ {P:jL}{w:jU}{K:Fgg}{tg:jw}(it:i9)(lo:Int)(n:Nat):Turn P w K tg (Itr lo n) [it] it (λi h=>IsRangeIter h it (lo+(i:Nat)*1) ((n:Int)-(i:Nat)) 1) where
 mem:=by simp
 obj:=λi h st b hb=>by
  have e:b=it:=by simpa using hb
  subst e;exact⟨_,st,λv z=>by
   have z':Data.fields _=Data.cell v:=z;cases z'⟩
 keep:=λi h h' st k=>k it (by simp) _ st
 item:=by
  intro X hP hw hK hc i pins s σ H E I hf st hg;subst hP hw hK;obtain⟨f0,f1,f2,f3,f4,f5⟩:=hf it (by simp)
  have W:=Walks.range (prog:=X.prog) (w:=X.w) (I.ok.hd hc) it lo 1 n;refine zz_ (W.item i s _ _ hg st λv h' tk hv bq kk hk=>?_)
  obtain⟨t,rfl⟩:=hv;have I1:Inv X pins σ H {s with heap:=h',toks:=tk}:=I.turned (λb o hb e=>kk b o (by simpa using hb) e) f0 f1 f3 f4 f5 (i6 I.tk hk)
  refine⟨_,rfl,zl2_ (s:={s with heap:=h',toks:=tk}) (n:="range_iterator") bq rfl rfl (by decide) ⟨.int (lo+i),H,I1,⟨t,?_⟩,⟨rfl,rfl⟩,bq,λb hb=>(hf b hb).1⟩⟩
  rw[Int.mul_one]
 done:=by
  intro X hP hw hK hc i pins s σ H E I hf st hg;subst hP hw hK;obtain⟨f0,f1,f2,f3,f4,f5⟩:=hf it (by simp)
  exact wpAny_pyNext_range_end (I.ok.hd hc) st (by have:n<=i:=hg;lia) λh' eb=>⟨rfl,I.turned (t':=s.toks) (λb o hb e=>eb b o hb e) f0 f1 f3 f4 f5⟩
 self:=λ_ _ _ _ _ st h=>wpAny_pyIter_rangeiter st h
section
variable {X:Cx}{tg:jw}
theorem zii_ {pins:Pnn}{σ:St}{H:Hp}{s:iY}{R:It->Hp->Prop}{E:iX->iY->Prop}{lo hi:Int}{t u v:Tok}{tk:Nat}(I:Inv X pins σ H s)(h1 : -(2 ^ 62)<=lo)(h2:lo<2 ^ 62)(h3 : -(2 ^ 62)<=hi)(h4:hi<2 ^ 62)
  (q:R (Itr lo (hi-lo).toNat) H) (hk:0<tk:=by first |assumption |exact Inv.tk ‹_› |exact kn _ |(refine i6 ?_ ‹_›;exact Inv.tk ‹_›)|exact i6 (Inv.tk ‹_›) (jZ _ _)):jD (model X.prog X.w) X.A (pyIter (.ref s.heap.objs.size)) (PIE X pins σ tg R) E {s with heap:=s.heap.push {cls:=.type "range",data:=.fields #[.int lo t,.int hi u,.int 1 v]},toks:=tk}:=by
 refine wpAny_pyIter_range (IsRange.new ..) (small_one h1 h2 h3 h4) ?_;have I1:Inv X pins σ H {s with heap:=s.heap.push {cls:=.type "range",data:=.fields #[.int lo t,.int hi u,.int 1 v]},toks:=tk}:=I.kept (λb o e=>jo _ e) hk
 refine⟨(s.heap.push {cls:=.type "range",data:=.fields #[.int lo t,.int hi u,.int 1 v]}).objs.size,[(s.heap.push {cls:=.type "range",data:=.fields #[.int lo t,.int hi u,.int 1 v]}).objs.size],_,_,H,rfl,
  I1.kept (t':=tk) λb o e=>jo _ e,zen_ _ lo (hi-lo).toNat,?_,λb hb=>?_,q⟩
 ·have e1:lo+((0:Nat):Int)*1=lo:=by simp
  have e2:(((hi-lo).toNat:Nat):Int)-((0:Nat):Int)=og lo hi 1:=by rw[rangeSize_one];split<;>omega
  show IsRangeIter _ _ (lo+((0:Nat):Int)*1) ((((hi-lo).toNat:Nat):Int)-((0:Nat):Int)) 1
  rw[e1,e2];exact jO _ rfl
 ·have e:b=(s.heap.push {cls:=.type "range",data:=.fields #[.int lo t,.int hi u,.int 1 v]}).objs.size:=by simpa using hb
  subst e;exact I1.fpOk (jt _) (I1.hok.fresh (jt _))
def tFor (wi:TI)(g:TG)(tb:TS):TS:=λD σ H=>wi σ H λJ H1=>∃W:Nat->Nat->St->Hp->Prop,(∃m,W 0 m σ H1)/\∀i m σ H,W i m σ H ->
 (J.stop i H/\D.nx σ H)\/(J.go i H/\∃N:St->Hp->Prop,(∀af H',N af H'->∃m',m'<m/\W (i+1) m' af H')/\∀x H',J.yld i H x H'->g x σ H' λbG H2=>tb {D with nx:=N,ct:=N,bk:=D.nx} bG H2)
def pinsAt (fp:List i9)(h:Heap):Pnn:=fp.filterMap λb=>(h.get? b).map λo=>(b,o)
theorem zaN_ {fp:List i9}{h:Heap}{b:i9}{o:qb}(hb:b∈fp)(e:h.get? b=rP o):(b,o)∈pinsAt fp h:=nH.mpr ⟨b,hb,by rw[e];rfl⟩
theorem zgg_ {fp:List i9}{h:Heap}{p:i9×qb}(hp:p∈pinsAt fp h):p.1∈fp/\h.get? p.1=rP p.2:=by
 obtain⟨b,hb,e⟩:=nH.mp hp;cases q:h.get? b with
 |none=>rw[q]at e;cases e|some o=>
  rw[q]at e;have e':(b,o)=p:=j8 e;subst e';exact⟨hb,q⟩
theorem Inv.pinned {pins:Pnn}{σ:St}{H:Hp}{s:iY}{fp:List i9}(I:Inv X pins σ H s)(hf:∀b∈fp,FpOk X pins H b)(ho:∀b∈fp,∃o,s.heap.get? b=rP o/\∀v,o.data≠.cell v):Inv X (pins++pinsAt fp s.heap) σ H s:=
 I.pins_of λp hp=>(kg.mp hp).elim (λz=>I.pin p (jr _ z)) λz=>by
  obtain⟨hb,e⟩:=zgg_ z;obtain⟨f0,f1,f2,_⟩:=hf p.1 hb;obtain⟨o,e',d⟩:=ho p.1 hb;rw[e]at e';cases e';exact⟨e,f0,f1,f2,d⟩
theorem Inv.unpinned {pins pl:Pnn}{σ:St}{H:Hp}{s:iY}(I:Inv X (pins++pl) σ H s):Inv X pins σ H s:=I.pins_of λp hp=>I.pin p (jr _ (kj _ hp))
theorem znm_ {iter:jw}{body:List kq}{wi:TI}{g:TG}{tb:TS}{pos:Pos}(hp:PassesOwn (model X.prog X.w) X.A X.env X.xe)(hc:X.calm=rR)(hi:PI X tg iter wi)(hg:PG X tg g)(hb:PSs X body tb)
  (hs:∀x,foldedSetIterable iter X.env x=pure x:=by intro _;rfl):PS X (.For tg iter body [] pos) (tFor wi g tb):=by
 intro pins s σ H D I h;refine wpAny_For (thn (hi pins s σ H _ I h) λv s1 h1=>thn h1 λd9 s2 h2=>?_) hs
 obtain⟨it,fp,tn,J,H2,e,I2,T,st2,f2,W,⟨m0,w0⟩,turn⟩:=h2;subst e;have aR:∀{H':Hp},(∀b∈fp,H' b=rQ)->∀b∈fp,FpOk X pins H' b:=λhn b hb=>⟨hn b hb,(f2 b hb).2⟩
 refine codeAny_forLoop_any (λn s'=>∃i af H',Inv X pins af H' s'/\tn i s'.heap/\(∀b∈fp,H' b=rQ)/\W i n af H') ?_ m0 ⟨0,σ,H2,I2,st2,λb hb=>(f2 b hb).1,w0⟩
 rintro n s3 ⟨i,bg,H3,I3,st3,fr3,w3⟩;rcases turn i n bg H3 w3 with⟨stop,qn⟩|⟨go,N,hN,step⟩
 ·refine mP hp (thn (T.done X rfl rfl rfl hc i pins s3 bg H3 X.xe I3 (aR fr3) st3 stop) λr s4 ah=>?_)
  obtain⟨hr,I4⟩:=ah;subst hr;exact wpAny_execs_nil ⟨bg,H3,I4,qn⟩
 ·refine mP hp (thn (T.item X rfl rfl rfl hc i pins s3 bg H3 X.xe I3 (aR fr3) st3 go) λr s4 ah=>?_)
  obtain⟨u,hr,h4⟩:=ah;subst hr;refine mP hp (thn h4 λ_ s5 ah=>?_)
  obtain⟨x,H5,I5,r5,y5,st5,fr5⟩:=ah;have fW:=I5.pinned (aR fr5) (T.obj _ _ st5);refine mP hp (thn (hg _ s5 bg H5 x u _ fW r5 (step x H5 y5)) λ_ s6 ah=>?_)
  obtain⟨bF,H6,I6,q6⟩:=ah;refine mP hp (thn (hb _ s6 bF H6 _ I6 q6) λf s7 q7=>?_)
  have again:∀{bo:St}{H7:Hp},Inv X (pins++pinsAt fp s5.heap) bo H7 s7->N bo H7->∃m,m<n/\∃i af H',Inv X pins af H' s7/\tn i s7.heap/\(∀b∈fp,H' b=rQ)/\W i m af H':=λ{bo H7} I7 n7=>by
   obtain⟨m',hm,w7⟩:=hN bo H7 n7;refine⟨m',hm,i+1,bo,H7,I7.unpinned,T.keep _ _ _ st5 λb hb o e=>(I7.pin (b,o) (jr _ (jr _ (zaN_ hb e)))).1,λb hb=>?_,w7⟩
   obtain⟨o,e,d⟩:=T.obj _ _ st5 b hb;exact(I7.pin (b,o) (jr _ (jr _ (zaN_ hb e)))).2.1
  cases f with
  |next=>obtain⟨bo,H7,I7,n7⟩:=q7;exact again I7 n7|cont=>obtain⟨bo,H7,I7,n7⟩:=q7;exact again I7 n7|brk=>obtain⟨bo,H7,I7,q7⟩:=q7;exact⟨bo,H7,I7.unpinned,q7⟩|ret v=>obtain⟨x7,bo,H7,I7,r7,q7⟩:=q7;exact⟨x7,bo,H7,I7.unpinned,r7,q7⟩
end
abbrev R2:=V->V->Hp->VK->Prop
def OpR (X:Cx)(f:iX->iX->Sem iX)(r:R2):Prop:=
 ∀(pins:Pnn) (s:iY) (σ:St) (H:Hp) (x y:V) (v u:iX) (Q:VK),Inv X pins σ H s->RelV x v->RelV y u->r x y H Q ->
  jD (model X.prog X.w) X.A (f v u) (EP X pins σ Q) X.xe s
def UnR (X:Cx)(f:iX->Sem iX)(r:V->Hp->VK->Prop):Prop:=
 ∀(pins:Pnn) (s:iY) (σ:St) (H:Hp) (x:V) (v:iX) (Q:VK),Inv X pins σ H s->RelV x v->r x H Q ->
  jD (model X.prog X.w) X.A (f v) (EP X pins σ Q) X.xe s
def CallR (X:Cx)(f:iX)(r:List V->Hp->VK->Prop):Prop:=
 ∀(pins:Pnn) (s:iY) (σ:St) (H:Hp) (xs:List V) (us:List iX) (Q:VK),Inv X pins σ H s->Vals xs us->r xs H Q ->
  jD (model X.prog X.w) X.A (call f us) (EP X pins σ Q) X.xe s
def tOp (r:R2)(ta tb:TE):TE:=λσ H Q=>ta σ H λx H1=>tb σ H1 λy H2=>r x y H2 Q
def tUn (r:V->Hp->VK->Prop)(ta:TE):TE:=λσ H Q=>ta σ H λx H1=>r x H1 Q
def rI (C:Int->Int->Prop)(g:Int->Int->V):R2:=λx y H Q=>∃i j,x=.int i/\y=.int j/\C i j/\Q (g i j) H
def rI0 (g:Int->Int->V):R2:=λx y H Q=>∃i j,x=.int i/\y=.int j/\Q (g i j) H
def rU (g:Int->V):V->Hp->VK->Prop:=λx H Q=>∃i,x=.int i/\Q (g i) H
section
variable {X:Cx}{a b:jw}{ta tb:TE}{pos:Pos}
theorem binT (ha:PE X a ta)(hb:PE X b tb){pins:Pnn}{s:iY}{σ:St}{H:Hp}{R:V->V->Hp->Prop}(I:Inv X pins σ H s)
  (h:ta σ H λx H1=>tb σ H1 λy H2=>R x y H2) {Q:iX->iY->Prop}{f:iX->iX->Sem iX}
  (hf:∀v u s2 x y H2,Inv X pins σ H2 s2->RelV x v->RelV y u->R x y H2->jD (model X.prog X.w) X.A (f v u) Q X.xe s2):
  jD (model X.prog X.w) X.A (eval a X.env) (λv ae=>jD (model X.prog X.w) X.A (eval b X.env) (λu ay=>jD (model X.prog X.w) X.A (f v u) Q X.xe ay) X.xe ae) X.xe s:=by
 refine thn (ha pins s σ H _ I h) λv s1 ah=>?_
 obtain⟨x,H1,I1,r1,q1⟩:=ah;refine thn (hb pins s1 σ H1 _ I1 q1) λu s2 ah=>?_
 obtain⟨y,H2,I2,r2,q2⟩:=ah;exact hf v u s2 x y H2 I2 r1 r2 q2
theorem zn8_ {op:Operator}{r:R2}(ho:OpR X (lO op) r)(ha:PE X a ta)(hb:PE X b tb):PE X (.BinOp a op b pos) (tOp r ta tb):=by
 intro pins s σ H Q I h;exact wpAny_BinOp (binT ha hb I h λv u s2 x y H2 I2 rx ry q=>ho pins s2 σ H2 x y v u Q I2 rx ry q)
theorem opI {f:iX->iX->Sem iX}{C:Int->Int->Prop}{g:Int->Int->Int}
  (rule:∀(i j:Int) (t u:Tok) (s:iY) (Q:iX->iY->Prop) (E:iX->iY->Prop),C i j->Q (.int (g i j) s.toks) {s with toks:=s.toks+1}->jD (model X.prog X.w) X.A (f (.int i t) (.int j u)) Q E s):
  OpR X f (rI C λi j=>.int (g i j)):=by
 intro pins s σ H x y v u Q I rx ry h;obtain⟨i,j,rfl,rfl,hc,q⟩:=h;obtain⟨t,rfl⟩:=rx;obtain⟨t',rfl⟩:=ry;exact rule i j t t' s _ _ hc ⟨.int (g i j),H,I.tok _,⟨_,rfl⟩,q⟩
theorem opI0 {f:iX->iX->Sem iX}{g:Int->Int->Int}
  (rule:∀(i j:Int) (t u:Tok) (s:iY) (Q:iX->iY->Prop) (E:iX->iY->Prop),Q (.int (g i j) s.toks) {s with toks:=s.toks+1}->jD (model X.prog X.w) X.A (f (.int i t) (.int j u)) Q E s):
  OpR X f (rI0 λi j=>.int (g i j)):=by
 intro pins s σ H x y v u Q I rx ry h;obtain⟨i,j,rfl,rfl,q⟩:=h;obtain⟨t,rfl⟩:=rx;obtain⟨t',rfl⟩:=ry;exact rule i j t t' s _ _ ⟨.int (g i j),H,I.tok _,⟨_,rfl⟩,q⟩
theorem opB0 {f:iX->iX->Sem iX}{g:Int->Int->Bool}
  (rule:∀(i j:Int) (t u:Tok) (s:iY) (Q:iX->iY->Prop) (E:iX->iY->Prop),Q (.bool (g i j)) s->jD (model X.prog X.w) X.A (f (.int i t) (.int j u)) Q E s):
  OpR X f (rI0 λi j=>.bl (g i j)):=by
 intro pins s σ H x y v u Q I rx ry h;obtain⟨i,j,rfl,rfl,q⟩:=h;obtain⟨t,rfl⟩:=rx;obtain⟨t',rfl⟩:=ry;exact rule i j t t' s _ _ ⟨.bl (g i j),H,I,rfl,q⟩
def CDiv (i j:Int):Prop:=0<j/\j<1073741824
def CPow (i j:Int):Prop:=0<=j/\j<=1000000/\i.natAbs<2 ^ 64
def CMul (i j:Int):Prop:=(-(2 ^ 64)<i/\i<2 ^ 64)\/(-(2 ^ 64)<j/\j<2 ^ 64)
theorem CMul.ok {i j:Int}(h:CMul i j):IntMulOk i j:=by
 rcases h with⟨h1,h2⟩|⟨h1,h2⟩
 ·exact .of_left (intBits_le_64 h1 h2)
 ·exact .of_right (intBits_le_64 h1 h2)
theorem zmH_:OpR X (lO .Add) (rI0 λi j=>.int (i+j)):=opI0 λ_ _ _ _ _ _ _ q=>add_int q
theorem zmX_:OpR X (lO .Mod) (rI (λ_ j=>0<j) λi j=>.int (i % j)):=opI λi j _ _ _ _ _ hc q=>by
 have h1:(0:Int)<j:=hc;exact mod_int' (by lia) (by rw[Int.fmod_eq_emod_of_nonneg i (by lia)];exact q)
theorem znQ_:OpR X (lO .Pow) (rI CPow λi j=>.int (i ^ j.toNat)):=opI λ_ _ _ _ _ _ _ hc q=>pow_int_small hc.1 hc.2.1 hc.2.2 q
theorem unI {f:iX->Sem iX}{g:Int->Int}
  (rule:∀(i:Int) (t:Tok) (s:iY) (Q:iX->iY->Prop) (E:iX->iY->Prop),Q (.int (g i) s.toks) {s with toks:=s.toks+1}->jD (model X.prog X.w) X.A (f (.int i t)) Q E s):
  UnR X f (rU λi=>.int (g i)):=by
 intro pins s σ H x v Q I rx h;obtain⟨i,rfl,q⟩:=h;obtain⟨t,rfl⟩:=rx;exact rule i t s _ _ ⟨.int (g i),H,I.tok _,⟨_,rfl⟩,q⟩
theorem zoC_:UnR X (unaryOp .USub) (rU λi=>.int (-i)):=unI λ_ _ _ _ _ q=>neg_int q
theorem zhN_ {pins:Pnn}{σ:St}{H:Hp}{s:iY}{Q:VK}{k k':Bool}(I:Inv X pins σ H s)(q:Q (.bl k) H)(e:k=k'):EP X pins σ Q (.bool k') s:=by
 subst e;exact⟨.bl k,H,I,rfl,q⟩
theorem op_lt:OpR X (jX .Lt) (rI0 λi j=>.bl (decide (i<j))):=opB0 λ_ _ _ _ _ _ _ q=>lt_int q
theorem op_le:OpR X (jX .LtE) (rI0 λi j=>.bl (decide (i<=j))):=opB0 λ_ _ _ _ _ _ _ q=>le_int q
theorem op_gt:OpR X (jX .Gt) (rI0 λi j=>.bl (decide (j<i))):=opB0 λ_ _ _ _ _ _ _ q=>gt_int q
theorem zfS_:OpR X (jX .In) (λx y H Q=>∃i j,x=.str i/\y=.str j/\Q (.bl (!(mf j i 0 j.length 1).isEmpty)) H):=by
 intro pins s σ H x y v u Q I rx ry h;obtain⟨i,j,rfl,rfl,q⟩:=h;obtain⟨t,rfl⟩:=rx;obtain⟨t',rfl⟩:=ry;exact in_str (zhN_ I q rfl)
theorem zkO_:OpR X (jX .IsNot) (λx y H Q=>y=.non/\Q (.bl (!decide (x=.non))) H):=by
 intro pins s σ H x y v u Q I rx ry h;obtain⟨rfl,q⟩:=h;cases ry;refine isnot_none_gen (zhN_ I q ?_)
 cases x<;>first
  |(cases rx;rfl)
  |(obtain⟨t,rfl⟩:=rx;rfl)
theorem zcB_:OpR X (jX .NotIn) (λx y H Q=>∃i j,x=.str i/\y=.str j/\Q (.bl (!(!(mf j i 0 j.length 1).isEmpty))) H):=by
 intro pins s σ H x y v u Q I rx ry h;obtain⟨i,j,rfl,rfl,q⟩:=h;obtain⟨t,rfl⟩:=rx;obtain⟨t',rfl⟩:=ry;exact notIn_str (zhN_ I q rfl)
theorem zjv_ {op:CmpOp}{r:R2}(ho:OpR X (jX op) r)(ha:PE X a ta)(hb:PE X b tb)(hm:behindInMarks op b=rS):PE X (.Compare a [op] [b] pos) (tOp r ta tb):=by
 intro pins s σ H Q I h;exact wpAny_Compare1 (binT ha hb I h λv u s2 x y H2 I2 rx ry q=>ho pins s2 σ H2 x y v u Q I2 rx ry q) hm
theorem line63:(jj:Nat)<2 ^ 63:=by rw[sizeLine_eq];decide
theorem zfi_:OpR X (lO .Add) (λx y H Q=>∃i j,x=.str i/\y=.str j/\i.length+j.length<=jj/\Q (.str (i++j)) H):=by
 intro pins s σ H x y v u Q I rx ry h;obtain⟨i,j,rfl,rfl,hz,q⟩:=h;obtain⟨t,rfl⟩:=rx;obtain⟨t',rfl⟩:=ry;exact zz_ (add_str (λt' tk hk=>⟨.str (i++j),H,I.tok _ (i6 I.tk hk),⟨_,rfl⟩,q⟩) hz)
theorem vals1 {x:V}{us:List iX}(r:Vals [x] us):∃u,us=[u]/\RelV x u:=by
 cases r with
 |cons r1 r2=>cases r2;exact⟨_,rfl,r1⟩
theorem vals2 {x y:V}{us:List iX}(r:Vals [x,y] us):∃u w',us=[u,w']/\RelV x u/\RelV y w':=by
 cases r with
 |cons r1 r2=>
  cases r2 with
  |cons r3 r4=>cases r4;exact⟨_,_,rfl,r1,r3⟩
theorem zcG_:CallR X (.type "str") (λxs H Q=>∃i,xs=[.int i]/\i.natAbs.log2<1920/\Q (.str (toString i)) H):=by
 intro pins s σ H xs us Q I r h;obtain⟨i,rfl,hz,q⟩:=h;obtain⟨u,rfl,t,rfl⟩:=vals1 r;exact PySem.P.str_of_int hz ⟨.str _,H,I.tok _,⟨_,rfl⟩,q⟩
end
structure ObjM (h:Heap)(x dx C:i9)(mA:Str->Option iX):Prop where
 obj:h.get? x=rP (m5 C dx)
 ns:h.Ns1 dx mA
 ne:dx≠x
theorem zga_ {h:Heap}{dx:i9}{mA:Str->Option iX}(n:h.Ns1 dx mA):∃od,h.get? dx=rP od/\∀name,qf name od=rP (mA name):=by
 obtain⟨o,es,ep,ho,hd,hk,_,hm⟩:=n;refine⟨o,ho,λname=>?_⟩
 have e:=hm name;unfold nsFind findBy at e;rw[<- Array.find?_toList]at e;unfold qf;rw[hd];dsimp only;split
 ·rename_i y q
  rw[q]at e;exact congrArg rP e
 ·rename_i q
  rw[q]at e;have a:es.toList.any (·.refKey)=rS:=by
   rw[pP];intro y hy;obtain⟨z,t,hkey⟩:=hk y (Array.mem_toList_iff.mp hy);simp[DictEntry.refKey,hkey]
  have a':¬es.toList.any (·.refKey)=rR:=by rw[a];exact kQ
  rw[if_neg a'];exact congrArg rP e
theorem ObjM.look {h:Heap}{x dx C:i9}{mA:Str->Option iX}(I:ObjM h x dx C mA):∃od,W.InstAt h x (m5 C dx) C (rP od)/\∀name,qf name od=rP (mA name):=
 let⟨od,ho,hl⟩:=zga_ I.ns
 ⟨od,⟨I.obj,rfl,rfl,ho⟩,hl⟩
section
variable {prog:jL}{w:jU}{A:jW}{E:iX->iY->Prop}{s:iY}{K:Fgg}{x dx C f:i9}{mA:Str->Option iX}{name:Str}{v:iX}
theorem zkT_ {expr:Bool}{Q:iX->iY->Prop}(X:K.In s.heap)(I:ObjM s.heap x dx C mA)(hg:nI K C name=rR)(hh:nq K C=rR)
  (ha:lE K (.ref C) name=rP rQ) (hv:mA name=rP v) (bX:W.handedIn v=rR) (h:Q v {s with toks:=s.toks+1}):
  jD (model prog w) A (getAttr (.ref x) name expr) Q E s:=by
 obtain⟨od,J,hl⟩:=I.look;exact W.get_value X J (pA hg).1 (W.findObj_own hh ha rfl (by rw[hl,hv])) bX h
theorem zhB_ {pl:Sem Bool}{Q:iX×List iX->iY->Prop}(X:K.In s.heap)(I:ObjM s.heap x dx C mA)(hg:nI K C name=rR)
  (hf:lE K (.ref C) name=rP (rP (.ref f))) (ht:qA K (.ref f)=rR) (hv:mA name=rQ) (h:Q (.ref f,[.ref x]) s):
  jD (model prog w) A (getMethod (.ref x) name pl) Q E s:=by
 obtain⟨od,J,hl⟩:=I.look;exact W.method_fn X J (pA hg).1 (pA hg).2 hf (beq_iff_eq.mp ht) (by show(qf name od).map (·.isSome)=rP rS;rw[hl,hv];rfl) h
theorem zlg_ {ns:List Str}{Q:Unit->iY->Prop}(X:K.In s.heap)(I:ObjM s.heap x dx C mA)
  (hs:lE K (.ref C) "__setattr__"=rP (rP (.builtin "object.__setattr__"))) (hp:o7 K C=rR) (ht:qu K C name=rP rQ) (hh:nq K C=rR)
  (hw:oF mA ns) (hsz:ns.length<=jj)
  (h:∀h',ObjM h' x dx C (λy=>if y=name then rP v else mA y)->oG dx s.heap h'->Q () {s with heap:=h',toks:=s.toks+2}):
  jD (model prog w) A (setAttr (.ref x) name v) Q E s:=by
 obtain⟨od,J,hl⟩:=I.look;refine W.set_plain X J hs (W.osa_open (s:={s with toks:=s.toks+1}) (r:=rQ) X J hp ht λb=>?_)
 obtain⟨cd,hc,hd'⟩:=W.any_some hh;have hx:s.heap.get? x=rP ⟨.ref C,rP dx,.plain,#[]⟩:=I.obj;refine iZ (jy (iZ (iZ (wpAny_loadPart hx (iZ (W.Looks.here (s:={s with toks:=s.toks+1}) (W.looks_clsIn X hc) ?_))))));rw[hd'];refine jy (a:=rP dx) (iZ (jy (iZ ?_)));refine wpAny_nsSet1 (s:={s with toks:=s.toks+1}) I.ns λh' cG bY=>?_
 obtain⟨oD,esD,epD,hoD,hdD,hcD⟩:=cG.count (rL name v hw);refine iZ (wpAny_lookBehind hoD (by rw[hdD];exact pastItsLine_dict (ki hcD (by rw[jg];lia))) ?_)
 exact jy (h _ ⟨(bY.2 _ (mO I.ne)).trans I.obj,cG,I.ne⟩ bY)
theorem ziw_ {R:Result->iY->Prop}{vs:List iX}{kw:List (Str×iX)}(X:K.In s.heap)(hm:pT K C=rR)
  (hi:lE K (.ref C) "__init__"=rP (rP (.ref f))) (hf:rq K (.ref f)=rP (.type "function"))
  (h:codeAny (model prog w) (A.under (.builtin "type.__call__" ⟨.ref C::vs,kw⟩)) (.call (.ref f) ⟨.ref (s.heap.objs.size+1)::vs,kw⟩) (W.InitBack (s.heap.objs.size+1) R)
   {s with heap:=(s.heap.push mm).push (m5 C s.heap.objs.size)}):
  codeAny (model prog w) A (.call (.ref C) ⟨vs,kw⟩) R s:=by
 obtain⟨hh,g,d,t,os⟩:=s;exact W.make_core (W.makes_of X hm) (W.looks_findIn X hi) (λself=>W.bind_fn X self hf) (.inl rfl) h
end
noncomputable def putF (f:Str)(v:V):List (Str×V)->List (Str×V)
 |[]=>[(f,v)]|(g,x)::r=>if g=f then(g,v)::r else(g,x)::putF f v r
theorem zbq_ (f g:Str)(v:V):∀fs:List (Str×V),(putF f v fs).lookup g=if g=f then rP v else fs.lookup g
 |[]=>by
  show mS g [(f,v)]=_
  by_cases h:g=f
  ·have hb:(g == f)=rR:=beq_iff_eq.mpr h
   simp only[mS,hb,if_pos h]
  ·have hb:(g == f)=rS:=beq_eq_false_iff_ne.mpr h
   simp only[mS,hb,if_neg h]
 |(k,x)::r=>by
  have ih:=zbq_ f g v r;rw[show putF f v ((k,x)::r)=(if k=f then(k,v)::r else(k,x)::putF f v r)from rfl]
  by_cases hk:k=f
  ·rw[if_pos hk]
   by_cases h:g=k
   ·have hb:(g == k)=rR:=beq_iff_eq.mpr h
    simp only[mS,hb,if_pos (h.trans hk)]
   ·have hb:(g == k)=rS:=beq_eq_false_iff_ne.mpr h
    simp only[mS,hb,if_neg (λe:g=f=>h (e.trans hk.symm))]
  ·rw[if_neg hk]
   by_cases h:g=k
   ·have hb:(g == k)=rR:=beq_iff_eq.mpr h
    simp only[mS,hb,if_neg (λe:g=f=>hk (h.symm.trans e))]
   ·have hb:(g == k)=rS:=beq_eq_false_iff_ne.mpr h
    simp only[mS,hb];exact ih
theorem zbB_ (f:Str)(v:V):∀fs:List (Str×V),f∈(putF f v fs).map (·.1)/\∀g,g∈fs.map (·.1)->g∈(putF f v fs).map (·.1)
 |[]=>⟨by simp[putF],λg h=>by simp at h⟩|(k,x)::r=>by
  obtain⟨i1,i2⟩:=zbB_ f v r;rw[show putF f v ((k,x)::r)=(if k=f then(k,v)::r else(k,x)::putF f v r)from rfl]
  by_cases hk:k=f
  ·rw[if_pos hk]
   subst hk;exact⟨by simp,λg h=>by simpa using h⟩
  ·rw[if_neg hk]
   refine⟨?_,λg h=>?_⟩
   ·rw[ju]
    exact ji _ i1
   ·rw[ju]at h ⊢
    rcases jK.mp h with e |e
    ·exact jK.mpr (.inl e)
    ·exact ji _ (i2 g e)
theorem zbt_ (f:Str)(v:V):∀fs:List (Str×V),(putF f v fs).length<=fs.length+1
 |[]=>by simp[putF]
 |(k,x)::r=>by
  have ih:=zbt_ f v r;rw[show putF f v ((k,x)::r)=(if k=f then(k,v)::r else(k,x)::putF f v r)from rfl]
  by_cases hk:k=f
  ·rw[if_pos hk,jg,jg];lia
  ·rw[if_neg hk,jg,jg];lia
theorem RelO.some_of {v:V}{o:Option iX}(r:RelO (rP v) o):∃u,o=rP u/\RelV v u:=by
 cases o with
 |none=>exact(show False from r).elim|some u=>exact⟨u,rfl,r⟩
theorem RelO.none_of {o:Option iX}(r:RelO rQ o):o=rQ:=by
 cases o with
 |none=>rfl|some u=>exact(show False from r).elim
theorem zfP_ {v:V}{u:iX}(r:RelV v u):W.handedIn u=rR:=by
 cases v with
 |non=>cases(show u=lK from r);rfl|bl b=>cases(show u=my b from r);rfl|int i=>obtain⟨t,e⟩:=(show∃t,u=nG i t from r);cases e;rfl|str x=>obtain⟨t,e⟩:=(show∃t,u=m4 x t from r);cases e;rfl|byt b=>obtain⟨t,e⟩:=(show∃t,u=rp b t from r);cases e;rfl|flt b=>obtain⟨t,e⟩:=(show∃t,u=pX b t from r);cases e;rfl|ref a=>cases(show u=jQ a from r);rfl|ty n=>cases(show u=pH n from r);rfl
section
variable {P:jL}{w:jU}{H:Hp}{h:Heap}{a C dx:i9}{fs:List (Str×V)}
theorem zc7_ (hok:HOk P w H h)(e:H a=rP (.ins C dx fs)):∃mA,ObjM h a dx C mA/\(∀f,RelO (fs.lookup f) (mA f))/\oF mA (fs.map (·.1))/\fs.length<=1000/\H dx=rP (.own a):=by
 obtain⟨d,z,ne,ob,mA,n,r,q⟩:=(show ObjOk P w H h a (.ins C dx fs)from hok a _ e)
 exact⟨mA,⟨ob,n,ne⟩,r,q,z,d⟩
end
structure Cls (K:Fgg)(C:i9):Prop where
 pg:nI K C pk=rR
 hd:nq K C=rR
 po:o7 K C=rR
 sa:lE K (.ref C) "__setattr__"=rP (rP (.builtin "object.__setattr__"))
theorem Cls.get {K:Fgg}{C:i9}(c:Cls K C)(f:Str):nI K C f=rR:=c.pg
def NoAttr (K:Fgg)(C:i9)(f:Str):Prop:=lE K (.ref C) f=rP rQ
theorem NoAttr.taker {K:Fgg}{C:i9}{f:Str}(n:NoAttr K C f):qu K C f=rP rQ:=by
 unfold qu;rw[show lE K (.ref C) f=rP rQ from n]
 rfl
structure Meth (K:Fgg)(C:i9)(m:Str)(f:i9):Prop where
 at_:lE K (.ref C) m=rP (rP (.ref f))
 fn:qA K (.ref f)=rR
 kp:mh K (.ref f)=rR
section
variable {X:Cx}{pins:Pnn}{σ:St}{H:Hp}{s:iY}{a C dx:i9}{fs:List (Str×V)}{f:Str}{v:V}{A:jW}{E:iX->iY->Prop}
theorem zet_ {b:Bool}{Q:iX->iY->Prop}(I:Inv X pins σ H s)(e:H a=rP (.ins C dx fs))(c:Cls X.K C)(n:NoAttr X.K C f)(l:fs.lookup f=rP v)
  (h:∀u s',Inv X pins σ H s'->RelV v u->Q u s'):jD (model X.prog X.w) A (getAttr (.ref a) f b) Q E s:=by
 obtain⟨mA,O,r,_,_,_⟩:=zc7_ I.hok e;obtain⟨u,hu,ru⟩:=RelO.some_of (v:=v) (o:=mA f) (by rw[<- l];exact r f)
 exact zkT_ I.kIn O (c.get f) c.hd n hu (zfP_ ru) (h u _ (I.tok _) ru)
theorem za8_ {m:Str}{g:i9}{pl:Sem Bool}{Q:iX×List iX->iY->Prop}(I:Inv X pins σ H s)(e:H a=rP (.ins C dx fs))(c:Cls X.K C)(k:Meth X.K C m g)(l:fs.lookup m=rQ)
  (h:Q (.ref g,[.ref a]) s):jD (model X.prog X.w) A (getMethod (.ref a) m pl) Q E s:=by
 obtain⟨mA,O,r,_,_,_⟩:=zc7_ I.hok e;have hn:mA m=rQ:=RelO.none_of (by rw[<- l];exact r m)
 exact zhB_ I.kIn O (c.get m) k.at_ k.fn hn h
theorem zeL_ {y:V}{u:iX}{Q:Unit->iY->Prop}(I:Inv X pins σ H s)(e:H a=rP (.ins C dx fs))(c:Cls X.K C)(n:NoAttr X.K C f)(hl:fs.length<1000)(ry:RelV y u)
  (h:∀s',Inv X pins σ (upd H a (.ins C dx (putF f y fs))) s'->Q () s'):jD (model X.prog X.w) A (setAttr (.ref a) f u) Q E s:=by
 obtain⟨mA,O,r,wi,_,ho⟩:=zc7_ I.hok e;have hz:(fs.map (·.1)).length<=jj:=by rw[i7,sizeLine_eq];lia
 refine zlg_ I.kIn O c.sa c.po n.taker c.hd wi hz λh' O' sb=>h _ ?_
 have hd:∃o,h'.get? dx=rP o:=let⟨o,_,_,e',_⟩:=O'.ns;⟨o,e'⟩
 refine I.write (x:=a) (e:=dx) (by rw[e];exact lx) (.inr ho) (λb q hb z=>(sb.2 b hb).trans z) hd ?_
 refine⟨by rw[zv_ O.ne];exact ho,?_,O.ne,O'.obj,_,O'.ns,λg=>?_,λg hg=>?_⟩
 ·have:=zbt_ f y fs;lia
 ·show RelO ((putF f y fs).lookup g) (if g=f then rP u else mA g)
  rw[zbq_];by_cases q:g=f
  ·rw[if_pos q,if_pos q];exact ry
  ·rw[if_neg q,if_neg q];exact r g
 ·by_cases q:g=f
  ·rw[q];exact(zbB_ f y fs).1
  ·refine(zbB_ f y fs).2 g (wi g λz=>hg ?_)
   show(if g=f then rP u else mA g)=rQ
   rw[if_neg q];exact z
theorem Inv.made (I:Inv X pins σ H s):Inv X pins σ (upd (upd H s.heap.objs.size (.own (s.heap.objs.size+1))) (s.heap.objs.size+1) (.ins C s.heap.objs.size []))
  {s with heap:=(s.heap.push mm).push (m5 C s.heap.objs.size)}:=by
 have e1:(s.heap.push mm).get? s.heap.objs.size=rP mm:=jO s.heap rfl;have e2:((s.heap.push mm).push (m5 C s.heap.objs.size)).get? (s.heap.objs.size+1)=rP (m5 C s.heap.objs.size):=by
  have:=jO (s.heap.push mm) (o:=m5 C s.heap.objs.size) rfl;rwa[o8]at this
 have e3:(s.heap.push mm).Ns s.heap.objs.size (λ_=>rQ):=⟨mm,#[],_,e1,rfl,(λe he=>absurd he (by simp)),λ_=>rfl⟩
 have I1:=I.laid (a:=s.heap.objs.size) (o:=.own (s.heap.objs.size+1)) (h':=s.heap.push mm) (t':=s.toks) (λb u q=>jo _ q) (jt _) ⟨_,e1⟩
 refine I1.laid (a:=s.heap.objs.size+1) (o:=.ins C s.heap.objs.size []) (t':=s.toks) (λb u q=>jo _ q) (nB (o8 _ _)) ?_
 have ne:s.heap.objs.size≠s.heap.objs.size+1:=jT (m6 _);refine⟨by rw[zv_ ne,zj_],lZ _,ne,e2,λ_=>rQ,(Heap.Ns1.of_empty e3).at λo q=>jo _ q,λ_=>lx,λy hy=>absurd rfl hy⟩
theorem zjR_ {prog:jL}{w:jU}{env:Env}{e:jw}{f:Str}{pos:Pos}{s:iY}{Q:iX->iY->Prop}(hb:attributeBase e f env (eval e env)=eval e env)
  (h:jD (model prog w) A (eval e env) (λo ae=>jD (model prog w) A (getAttr o f rR) Q E ae) E s):jD (model prog w) A (eval (.Attribute e f pos) env) Q E s:=
 Attribute_any_ h (by rw[arm_eval_Attribute,hb])
end
section
variable {X:Cx}{pins:Pnn}{σ:St}{H:Hp}{s:iY}{A:jW}{E Q:iX->iY->Prop}{c:iX}{b:Bool}
inductive TyOf (K:Fgg) (H:Hp):V->iX->Prop where
 |non:TyOf K H .non (.type "NoneType")
 |bl (x:Bool):TyOf K H (.bl x) (.type "bool")
 |int (i:Int):TyOf K H (.int i) (.type "int")
 |str (x:Str):TyOf K H (.str x) (.type "str")
 |flt (x:UInt64):TyOf K H (.flt x) (.type "float")
 |lst {a:i9}{xs:List V}(e:H a=rP (.lst xs)):TyOf K H (.ref a) (.type "list")
 |frz {a:i9}{o:qb}{xs:List V}(e:H a=rP (.frz o (.lst xs))):TyOf K H (.ref a) (.type "list")
 |tup {a:i9}{xs:List V}(e:H a=rP (.tup xs)):TyOf K H (.ref a) (.type "tuple")
 |dK {a:i9}{kvs:List (Key×V)}(e:H a=rP (.dK kvs)):TyOf K H (.ref a) (.type "dict")
 |dT {a:i9}{kvs:List (List Key×V)}(e:H a=rP (.dT kvs)):TyOf K H (.ref a) (.type "dict")
 | ins {a C dx:i9}{fs:List (Str×V)}(e:H a=rP (.ins C dx fs)) (cl:Cls K C) (ha:lE K (.ref C) "__class__"=rP (rP (.builtin "object.__class__")))
   (hn:o9 K (.builtin "object.__class__") "__get__"=rP (rP (.builtin "getset_descriptor.__get__"))) (cF:W.takesIn K (.builtin "object.__class__")=rP rR)
   (hm:pq K C (.type "object")=rP rR):TyOf K H (.ref a) (.ref C)
theorem zfM_ {x:V}{u t:iX}(I:Inv X pins σ H s)(rx:RelV x u)(ty:TyOf X.K H x t)(e:qg X.K t c=rP b)(h:∀tk,Q (.bool b) {s with toks:=tk}):
  jD (model X.prog X.w) A (call (.builtin "isinstance") [u,c]) Q E s:=by
 cases ty with
 |non=>cases(show u=lK from rx);exact mi W.kitx_none I.kIn lx e (λz=>nomatch z) h|bl y=>cases(show u=my y from rx);exact mi W.kitx_bool I.kIn lx e (λz=>nomatch z) h|int i=>obtain⟨t,q⟩:=(show∃t,u=nG i t from rx);cases q;exact mi W.kitx_int I.kIn lx e (λz=>nomatch z) h|str y=>obtain⟨t,q⟩:=(show∃t,u=m4 y t from rx);cases q;exact mi W.kitx_str I.kIn lx e (λz=>nomatch z) h|flt y=>obtain⟨t,q⟩:=(show∃t,u=pX y t from rx);cases q;exact mi W.kitx_float I.kIn lx e (λz=>nomatch z) h| @lst a xs ea=>
  cases(show u=jQ a from rx)
  obtain⟨_,_,n,_,h1⟩:=(show ObjOk X.prog X.w H s.heap a (.lst xs)from I.hok a _ ea)
  exact mi W.kitx_list I.kIn ⟨_,h1,rfl⟩ e (λz=>nomatch z) h
 | @frz a ob xs ea=>
  cases(show u=jQ a from rx)
  obtain⟨_,_,_,n,_,h1⟩:=(show ObjOk X.prog X.w H s.heap a (.frz ob (.lst xs))from I.hok a _ ea)
  exact mi W.kitx_list I.kIn ⟨_,h1,rfl⟩ e (λz=>nomatch z) h
 | @tup a xs ea=>
  cases(show u=jQ a from rx)
  obtain⟨_,_,_,p⟩:=(show ObjOk X.prog X.w H s.heap a (.tup xs)from I.hok a _ ea)
  obtain⟨o,h1,h2,_⟩:=p;exact mi W.kitx_tuple I.kIn ⟨o,h1,h2⟩ e (λz=>nomatch z) h
 | @dK a kvs ea=>
  cases(show u=jQ a from rx)
  obtain⟨_,_,vs,_,p⟩:=(show ObjOk X.prog X.w H s.heap a (.dK kvs)from I.hok a _ ea)
  obtain⟨o,es,ep,h1,h2,_⟩:=p;exact mi W.kitx_dict I.kIn ⟨o,h1,h2.1⟩ e (λz=>nomatch z) h
 | @dT a kvs ea=>
  cases(show u=jQ a from rx)
  obtain⟨_,_,xs,_,o,es,ep,h1,h2,_⟩:=(show ObjOk X.prog X.w H s.heap a (.dT kvs)from I.hok a _ ea)
  exact mi W.kitx_dict I.kIn ⟨o,h1,h2.1⟩ e (λz=>nomatch z) h
 | @ins a C dx fs ea cl ha hn cF hm=>
  cases(show u=jQ a from rx)
  obtain⟨mA,O,_⟩:=zc7_ I.hok ea;obtain⟨od,J,_⟩:=O.look;exact mi (W.kitx_own (cl.get _) cl.hd ha hn cF hm) I.kIn J e (λz=>nomatch z) h
end
structure Room (k:Nat)(A:jW):Prop where
 hd:A.handled=rQ
 dp:A.depth+3*k+5<recursionLimit
 un:A.units+16*k+200<cLine
theorem Room.mono {j k:Nat}{A:jW}(r:Room k A)(h:j<=k):Room j A:=⟨r.hd,by have:=r.dp;lia,by have:=r.un;lia⟩
theorem Room.deeper {k:Nat}{A:jW}(r:Room (k+1) A)(env:Env):Room k (A.deeper env):=
 ⟨r.hd,by have:=r.dp;show A.depth+1+3*k+5<_;lia,by have:=r.un;show A.units+3+16*k+200<_;lia⟩
theorem zfa_ {A:jW}{C:i9}{us:List iX}{kw:List (Str×iX)}:(A.under (.builtin "type.__call__" ⟨.ref C::us,kw⟩)).depth=A.depth+1:=by
 first |rfl |simp[Around.under,Code.weight,Code.isCreation,Code.isGuard,Code.isCaller,Code.frames,Code.isFrame,guardIds]
theorem zdZ_ {A:jW}{C:i9}{us:List iX}{kw:List (Str×iX)}:(A.under (.builtin "type.__call__" ⟨.ref C::us,kw⟩)).units=A.units+1:=by
 first |rfl |simp[Around.under,Code.cUnits,Code.frames,Code.isFrame]
theorem Room.make {k:Nat}{A:jW}(r:Room (k+1) A)(C:i9)(us:List iX)(kw:List (Str×iX)):Room k (A.under (.builtin "type.__call__" ⟨.ref C::us,kw⟩)):=
 ⟨r.hd,by have:=r.dp;rw[zfa_];lia,by have:=r.un;rw[zdZ_];lia⟩
theorem Room.depth {k:Nat}{A:jW}(r:Room k A):A.depth<recursionLimit:=by have:=r.dp;lia
def tNil:TA:=λ_ H Q=>Q [] H
def tCons (ta:TE)(tr:TA):TA:=λσ H Q=>ta σ H λx H1=>tr σ H1 λxs H2=>Q (x::xs) H2
section
variable {X:Cx}{e:jw}{es:List jw}{te:TE}{t:TA}{pos:Pos}
theorem zcw_:PA X [] tNil:=λ_ _ _ _ H Q I h=>Calls.spliced_nil ⟨[],H,I,.nil,h⟩
theorem zaa_ (ha:PE X e te)(hr:PA X es t)(hs:jE (e::es) X.env=(rS,eval e X.env)::jE es X.env:=by rfl):PA X (e::es) (tCons te t):=by
 intro pos pins s σ H Q I h;rw[hs];show jD _ _ (spliced ((rS,eval e X.env)::lh pos (jE es X.env))) _ _ s
 refine Calls.spliced_cons (thn (ha pins s σ H _ I h) λu s1 ah=>?_)
 obtain⟨x,H1,I1,r1,q1⟩:=ah;exact thn (hr pos pins s1 σ H1 _ I1 q1) λus s2 ⟨xs,H2,I2,r2,q2⟩=>⟨x::xs,H2,I2,.cons r1 r2,q2⟩
def tTup (t:TA):TE:=λσ H Q=>t σ H λxs H1=>xs.length<=jj/\∀p,H1 p=rQ->Q (.ref p) (upd H1 p (.tup xs))
def tLst (t:TA):TE:=λσ H Q=>t σ H λxs H1=>xs.length<=jj/\∀p,H1 p=rQ->Q (.ref p) (upd H1 p (.lst xs))
theorem ziQ_ {x1}(h:PA X es t):PE X (.Tuple es x1 pos) (tTup t):=by
 intro pins s σ H Q I hq;refine wpAny_Tuple_spliced (thn (h pos pins s σ H _ I hq) λus s1 ⟨xs,H1,I1,r,z,q⟩=>⟨by rw[<- r.length];exact z,?_⟩)
 have hf:H1 s1.heap.objs.size=rQ:=I1.hok.fresh (jt _);refine⟨.ref s1.heap.objs.size,upd H1 s1.heap.objs.size (.tup xs),I1.laid (t':=s1.toks) (λb u e=>jo _ e) (jt _) ?_,rfl,q _ hf⟩
 exact⟨z,us,r,⟨_,jO _ rfl,rfl,_,rfl⟩⟩
theorem zkU_ (h:PA X es t):PE X (.List es pos) (tLst t):=by
 intro pins s σ H Q I hq;refine wpAny_List_spliced (thn (h pos pins s σ H _ I hq) λus s1 ⟨xs,H1,I1,r,z,q⟩=>⟨by rw[<- r.length];exact z,?_⟩)
 have hf:H1 s1.heap.objs.size=rQ:=I1.hok.fresh (jt _);refine⟨.ref s1.heap.objs.size,upd H1 s1.heap.objs.size (.lst xs),I1.laid (t':=s1.toks) (λb u e=>jo _ e) (jt _) ?_,rfl,q _ hf⟩
 exact⟨z,us,0,r,jO _ rfl⟩
end
theorem zkq_ {α:Type}{p:Prop}{M:Model}{A:jW}{t:Sem α}{Q:α->iY->Prop}{E:iX->iY->Prop}{s:iY}(h:0<s.toks\/p)(m:p->Mints t)(q:jD M A t (λa s'=>0<s'.toks->Q a s') E s):jD M A t Q E s:=
 h.elim (λz=>zz_ (ke q (λ_ _ k l=>k (i6 z l)) λ_ _ k _=>k)) λz=>zgc_ (m z) q
abbrev Sp:=List V->Hp->VK->XK->Prop
abbrev CXT:=List Env->Hp->iY->XK->iX->iY->Prop
structure Env0 (P:jL)(w:jU)(K:Fgg)(mg:Str->Option iX)(base:Heap)(A:jW)(outer:List Env)(s:iY)(H:Hp):Prop where
 frames:A.frames=rP outer
 mod:Mod K mg base
 bs:∀b o,base.get? b=rP o->s.heap.get? b=rP o/\H b=rQ
 bsz:base.objs.size<=s.heap.objs.size
 funs:s.heap.FunFrames base outer
 frf:∀b∈frs outer,H b=rQ
 hok:HOk P w H s.heap
 bare:AllBare s.gens
 tb:Tb K H
def CE (outer:List Env)(P:jL)(w:jU)(H:Hp)(s:iY)(Q:VK)(u:iX)(s':iY):Prop:=
 ∃v H',s'.os=s.os/\AllBare s'.gens/\Un (frs outer) [] H H' s.heap s'.heap/\HOk P w H' s'.heap/\0<s'.toks/\RelV v u/\Q v H'
def CR (CX:CXT)(outer:List Env)(P:jL)(w:jU)(H:Hp)(s:iY)(Q:VK)(E:XK)(r:Result)(s':iY):Prop:=
 match r with
 |.ok (.ret u)=>CE outer P w H s Q u s'|.ok _=>False|.error e=>CX outer H s E e s'
abbrev lawPs:List Str:=["_law_script"]
structure FnOk (P:jL)(w:jU)(K:Fgg)(mg:Str->Option iX)(base:Heap)(CX:CXT)(k:Nat)(f:i9)(fd:kZ)(ps:List Str)(sp:Sp):Prop where
 len:∀vs H Q E,sp vs H Q E->vs.length=ps.length
 run:∀(A:jW) (outer:List Env) (s:iY) (H:Hp) (args:Args) (us:List iX) (vs:List V) (Q:VK) (E:XK),Room k A->Env0 P w K mg base A outer s H->0<s.toks\/ps=lawPs->BindsTo s fd args (ps.zip us)->Vals vs us->sp vs H Q E ->
  codeAny (model P w) A (.call (.ref f) args) (CR CX outer P w H s Q E) s
theorem Env0.make {P:jL}{w:jU}{K:Fgg}{mg:Str->Option iX}{base:Heap}{A:jW}{outer:List Env}{s:iY}{H:Hp}(e:Env0 P w K mg base A outer s H)(C:i9)(us:List iX)(kw:List (Str×iX)):
  Env0 P w K mg base (A.under (.builtin "type.__call__" ⟨.ref C::us,kw⟩)) outer s H:=⟨by first |exact e.frames |(simpa [Around.under,Code.envs,Code.isFrame,pushEnvs]using e.frames),e.mod,e.bs,e.bsz,e.funs,e.frf,e.hok,e.bare,e.tb⟩
section
variable {X:Cx}{pins:Pnn}{σ:St}{H:Hp}{s s':iY}
theorem Inv.env0 (I:Inv X pins σ H s):Env0 X.prog X.w X.K X.mg X.base X.A X.stack s H:=
 ⟨I.ok.frames,I.ok.mod,I.bs,ki I.ok.bsz I.sz,I.stack,I.stkFree,I.hok,I.bare,I.tb⟩
theorem Inv.after {Q:VK}{u:iX}(I:Inv X pins σ H s)(h:CE X.stack X.prog X.w H s Q u s'):EP X pins σ Q u s':=by
 obtain⟨v,H',os,bare,un,hok,ht,r,q⟩:=h;obtain⟨hh,g,d,t,aE⟩:=s';obtain rfl:aE=s.os:=os;exact⟨v,H',I.call (h':=hh) (g':=g) (d':=d) (t':=t) (ch:=[]) un hok bare (λb z=>absurd z (by simp)) ht,r,q⟩
end
def tCall (sp:Sp)(ax:List V)(E:XK)(t:TA):TE:=λσ H Q=>t σ H λvs H1=>sp (vs++ax) H1 Q E
def tMeth (C:i9)(m:Str)(sp:Sp)(ax:List V)(E:XK)(ta:TE)(t:TA):TE:=λσ H Q=>ta σ H λx H1=>∃a dx fs,x=.ref a/\H1 a=rP (.ins C dx fs)/\fs.lookup m=rQ /\
 t σ H1 λvs H2=>sp (x::(vs++ax)) H2 Q E
def tMake (C:i9)(sp:Sp)(ax:List V)(E:XK)(t:TA):TE:=λσ H Q=>t σ H λvs H1=>∀x dx,H1 x=rQ->H1 dx=rQ->dx≠x ->
 sp (.ref x::(vs++ax)) (upd (upd H1 dx (.own x)) x (.ins C dx [])) (λv H2=>v=.non/\Q (.ref x) H2) E
def Binds (K:Fgg)(fd:kZ)(ps:List Str)(ds:List iX):Prop:=
 ∀(s:iY) (us:List iX),K.In s.heap->(us++ds).length=ps.length->BindsTo s fd ⟨us,[]⟩ (ps.zip (us++ds))
theorem Binds.all {K:Fgg}{fd:kZ}{ps:List Str}(h:∀us:List iX,us.length=ps.length->bindArgs fd ⟨us,[]⟩=pure (ps.zip us)):Binds K fd ps []:=λs us _ hl=>by
 rw[ko]at hl ⊢;exact .of_eq (h us hl)
def Passes (CX:CXT)(X:Cx)(E:XK):Prop:=∀(pins:Pnn) (σ:St) (H:Hp) (s:iY) (e:iX) (s':iY),Inv X pins σ H s->CX X.stack H s E e s'->X.xe e s'
section
variable {X:Cx}{CX:CXT}{k:Nat}{f C:i9}{fd:kZ}{ps:List Str}{sp:Sp}{ax:List V}{ds:List iX}{E:XK}{x m:Str}{p pos apos:Pos}{e o:jw}{es:List jw}{ta:TE}{t:TA}
theorem zfI_ {pins:Pnn}{σ:St}{H:Hp}{s:iY}{Q:VK}{us:List iX}{vs:List V}(F:FnOk X.prog X.w X.K X.mg X.base CX k f fd ps sp)(hr:Room k X.A)(hb:Binds X.K fd ps ds)(hd:Vals ax ds)(hx:Passes CX X E)
  (I:Inv X pins σ H s) (r:Vals vs us) (h:sp (vs++ax) H Q E):jD (model X.prog X.w) X.A (call (.ref f) us) (EP X pins σ Q) X.xe s:=by
 have r2:Vals (vs++ax) (us++ds):=r.append hd;have hl:(us++ds).length=ps.length:=by rw[<- r2.length];exact F.len _ _ _ _ h
 refine wpAny_call (codeAny_mono (F.run X.A X.stack s H ⟨us,[]⟩ (us++ds) (vs++ax) Q E hr I.env0 (.inl I.tk) (hb s us I.kIn hl) r2 h) λr s' hq=>?_)
 cases r with
 |error e=>exact hx pins σ H s e s' I hq|ok fl=>
  cases fl with
  |ret u=>exact I.after hq|next=>exact jM hq|brk=>exact jM hq|cont=>exact jM hq
theorem zlF_ (F:FnOk X.prog X.w X.K X.mg X.base CX k f fd ps sp)(hr:Room k X.A)(hg:Gl X x)(hm:X.mg x=rP (.ref f))(hk:mh X.K (.ref f)=rR)(hb:Binds X.K fd ps ds)(hd:Vals ax ds)(hx:Passes CX X E)
  (ha:PA X (e::es) t) (az:(x==("__debug__":Str))=rS:=by decide) (he:jE (e::es) X.env=(rS,eval e X.env)::jE es X.env:=by rfl) (aw:(lh pos (jE es X.env)).any (·.1)=rS:=by rfl):
  PE X (.Call (.Name x p) (e::es) [] pos) (tCall sp ax E t):=by
 intro pins s σ H Q I h;refine ll (zaP_ I hg hm ?_ az);refine oH (h₀:=X.base) I.ok.mod.kin hk (thn (ha pos pins s σ H _ I h) λus s1 ⟨vs,H1,I1,r,q⟩=>⟨I1.kIn,?_⟩) he aw
 exact zfI_ F hr hb hd hx I1 r q
theorem ziU_ (F:FnOk X.prog X.w X.K X.mg X.base CX k f fd ps sp)(hr:Room k X.A)(hg:Gl X x)(hm:X.mg x=rP (.ref f))(hk:mh X.K (.ref f)=rR)(hb:Binds X.K fd ps ds)(hd:Vals ax ds)(hx:Passes CX X E)
  (az:(x==("__debug__":Str))=rS:=by decide):PE X (.Call (.Name x p) [] [] pos) (tCall sp ax E tNil):=by
 intro pins s σ H Q I h;refine ll (zaP_ I hg hm ?_ az);exact pB I.kIn hk (zfI_ (us:=[]) F hr hb hd hx I .nil h)
theorem zkk_ {pl:Sem Bool}(he:PE X o ta)(c:Cls X.K C)(hm:Meth X.K C m f)(F:FnOk X.prog X.w X.K X.mg X.base CX k f fd ps sp)(hr:Room k X.A)(hb:Binds X.K fd ps ds)(hd:Vals ax ds)(hx:Passes CX X E)(ha:PA X (e::es) t)
  (aD:jE (e::es) X.env=(rS,eval e X.env)::jE es X.env:=by rfl) (aw:(lh pos (jE es X.env)).any (·.1)=rS:=by rfl)
  (ht:eval (.Call (.Attribute o m apos) (e::es) [] pos) X.env=(do
   let ov <- eval o X.env
   standAt apos.atName
   let(f,first) <- holding [ov] (getMethod ov m pl)
   callWith pos f first (lh pos (jE (e::es) X.env)) (mH pos (lS [] X.env))):=by rfl):
  PE X (.Call (.Attribute o m apos) (e::es) [] pos) (tMeth C m sp ax E ta t):=by
 intro pins s σ H Q I h;refine p6 (pl:=pl) (thn (he pins s σ H _ I h) λu s1 ah=>?_) ht
 obtain⟨x,H1,I1,rx,a,dx,fs,ex,ea,l,q⟩:=ah;subst ex;obtain rfl:u=jQ a:=rx;refine za8_ I1 ea c hm l ?_;refine oH (first:=[.ref a]) (h₀:=X.base) I.ok.mod.kin hm.kp (thn (ha pos pins s1 σ H1 _ I1 q) λus s2 ⟨vs,H2,I2,r,q2⟩=>⟨I2.kIn,?_⟩) aD aw
 exact zfI_ (us:=.ref a::us) (vs:=.ref a::vs) F hr hb hd hx I2 (.cons rfl r) q2
theorem zhu_ {pl:Sem Bool}(he:PE X o ta)(c:Cls X.K C)(hm:Meth X.K C m f)(F:FnOk X.prog X.w X.K X.mg X.base CX k f fd ps sp)(hr:Room k X.A)(hb:Binds X.K fd ps ds)(hd:Vals ax ds)(hx:Passes CX X E)
  (ht:eval (.Call (.Attribute o m apos) [] [] pos) X.env=(do
   let ov <- eval o X.env
   standAt apos.atName
   let(f,first) <- holding [ov] (getMethod ov m pl)
   callWith pos f first (lh pos (jE [] X.env)) (mH pos (lS [] X.env))):=by rfl):
  PE X (.Call (.Attribute o m apos) [] [] pos) (tMeth C m sp ax E ta tNil):=by
 intro pins s σ H Q I h;refine p6 (pl:=pl) (thn (he pins s σ H _ I h) λu s1 ah=>?_) ht
 obtain⟨x,H1,I1,rx,a,dx,fs,ex,ea,l,q⟩:=ah;subst ex;obtain rfl:u=jQ a:=rx;refine za8_ I1 ea c hm l ?_;exact pB (first:=[.ref a]) I1.kIn hm.kp (zfI_ (us:=[.ref a]) (vs:=[.ref a]) F hr hb hd hx I1 (.cons rfl .nil) q)
structure Mk (K:Fgg)(C f:i9):Prop where
 makes:pT K C=rR
 init:lE K (.ref C) "__init__"=rP (rP (.ref f))
 fn:qA K (.ref f)=rR
 kp:mh K (.ref C)=rR
theorem zeC_ {pins:Pnn}{σ:St}{H:Hp}{s:iY}{Q:VK}{us:List iX}{vs:List V}(M:Mk X.K C f)(F:FnOk X.prog X.w X.K X.mg X.base CX k f fd ps sp)(hr:Room (k+1) X.A)(hb:Binds X.K fd ps ds)(hd:Vals ax ds)
  (hx:Passes CX X E) (I:Inv X pins σ H s) (r:Vals vs us)
  (h:∀x dx,H x=rQ->H dx=rQ->dx≠x->sp (.ref x::(vs++ax)) (upd (upd H dx (.own x)) x (.ins C dx [])) (λv H2=>v=.non/\Q (.ref x) H2) E):
  jD (model X.prog X.w) X.A (call (.ref C) us) (EP X pins σ Q) X.xe s:=by
 have hq:=h (s.heap.objs.size+1) s.heap.objs.size (I.hok.fresh (pb _)) (I.hok.fresh (jt _)) (jT (m6 _));have I2:=Inv.made (C:=C) I;have r2:Vals (V.ref (s.heap.objs.size+1)::(vs++ax)) (jQ (s.heap.objs.size+1)::(us++ds)):=.cons rfl (r.append hd);have hl:(jQ (s.heap.objs.size+1)::us++ds).length=ps.length:=by
  have e:=r2.length;rw[F.len _ _ _ _ hq]at e;exact e.symm
 refine wpAny_call (ziw_ (f:=f) I.kIn M.makes M.init (beq_iff_eq.mp M.fn) (codeAny_mono (F.run _ X.stack _ _ ⟨jQ (s.heap.objs.size+1)::us,[]⟩ (jQ (s.heap.objs.size+1)::(us++ds)) _ _ E (hr.make C us [])
  (I2.env0.make C us []) (.inl I2.tk) (hb _ (jQ (s.heap.objs.size+1)::us) I2.kIn hl) r2 hq) λr s' da=>?_))
 cases r with
 |error e=>exact hx pins σ _ _ e s' I2 da|ok fl=>
  cases fl with
  |ret u=>
   obtain⟨v,H',I3,rv,ev,q3⟩:=I2.after da;subst ev;exact⟨rv,⟨V.ref (s.heap.objs.size+1),H',I3,rfl,q3⟩⟩
  |next=>exact jM da|brk=>exact jM da|cont=>exact jM da
theorem zjF_ (M:Mk X.K C f)(F:FnOk X.prog X.w X.K X.mg X.base CX k f fd ps sp)(hr:Room (k+1) X.A)(hg:Gl X x)(hm:X.mg x=rP (.ref C))(hb:Binds X.K fd ps ds)(hd:Vals ax ds)(hx:Passes CX X E)
  (ha:PA X (e::es) t) (az:(x==("__debug__":Str))=rS:=by decide) (he:jE (e::es) X.env=(rS,eval e X.env)::jE es X.env:=by rfl) (aw:(lh pos (jE es X.env)).any (·.1)=rS:=by rfl):
  PE X (.Call (.Name x p) (e::es) [] pos) (tMake C sp ax E t):=by
 intro pins s σ H Q I h;refine ll (zaP_ I hg hm ?_ az);refine oH (h₀:=X.base) I.ok.mod.kin M.kp (thn (ha pos pins s σ H _ I h) λus s1 ⟨vs,H1,I1,r,q⟩=>⟨I1.kIn,?_⟩) he aw
 exact zeC_ M F hr hb hd hx I1 r q
theorem zif_ (M:Mk X.K C f)(F:FnOk X.prog X.w X.K X.mg X.base CX k f fd ps sp)(hr:Room (k+1) X.A)(hg:Gl X x)(hm:X.mg x=rP (.ref C))(hb:Binds X.K fd ps ds)(hd:Vals ax ds)(hx:Passes CX X E)
  (az:(x==("__debug__":Str))=rS:=by decide):PE X (.Call (.Name x p) [] [] pos) (tMake C sp ax E tNil):=by
 intro pins s σ H Q I h;refine ll (zaP_ I hg hm ?_ az);exact pB I.kIn M.kp (zeC_ (us:=[]) M F hr hb hd hx I .nil h)
end
structure FnScope (N P:List Str)(sc:Scope):Prop where
 kind:sc.kind=.function
 co:sc.isCoroutine=rS
 gen:sc.isGenerator=rS
 nd:N.Nodup
 pre:N.take P.length=P
 par:∀x∈P,sc.names.lookup x=rP .local\/sc.names.lookup x=rP .cell
 nofree:∀y∈sc.names,y.2≠.free
 loc:(!(P == lawPs)||P.any (λx=>sc.names.lookup x == rP .local))=rR
theorem FnScope.zip {N P:List Str}{sc:Scope}{us:List iX}(S:FnScope N P sc)(hp:P=lawPs)(h:us.length=P.length):∃b∈P.zip us,sc.names.lookup b.1=rP .local:=by
 have z:=S.loc;rw[show(P == lawPs)=rR from beq_iff_eq.mpr hp]at z
 obtain⟨x,hx,e⟩:=m8.mp (show P.any (λx=>sc.names.lookup x == rP .local)=rR from z)
 obtain⟨i,hi,rfl⟩:=mF hx;exact⟨_,m9 (l:=P.zip us) (n:=i) (by rw[lX];lia),by rw[List.getElem_zip];exact eq_of_beq e⟩
theorem zcT_ {kindOf:Str->Option lT}{x:Str}:∀{binds:List (Str×iX)}{m:Str->Option iX},(∀v,(x,v)∉binds)->bindL kindOf binds m x=m x
 |[],_,_=>rfl|(n,v)::r,m,h=>by
  unfold bindL;rw[zcT_ λw hw=>h w (ji _ hw)]
  split
  ·have:x≠n:=by rintro rfl;exact h v je
   simp[this]
  ·rfl
theorem zdj_ {kindOf:Str->Option lT}{x:Str}:∀{binds:List (Str×iX)}{m:Str->Option iX},(∀v,(x,v)∉binds)->bindC kindOf binds m x=m x
 |[],_,_=>rfl|(n,v)::r,m,h=>by
  unfold bindC;rw[zdj_ λw hw=>h w (ji _ hw)]
  split
  ·rfl
  ·have:x≠n:=by rintro rfl;exact h v je
   simp[this]
theorem zdi_ {kindOf:Str->Option lT}{x:Str}{v:iX}:∀{P:List Str}{vs:List iX}{i:Nat}{m:Str->Option iX},P.Nodup->P[i]?=rP x->vs[i]?=rP v->kindOf x=rP .local ->
  bindL kindOf (P.zip vs) m x=rP v
 |[],_,_,_,_,h,_,_=>by simp at h
 |_::_,[],_,_,_,_,h,_=>by simp at h
 |p::P,w::vs,0,m,nd,h1,h2,hk=>by
  simp at h1 h2;subst h1;subst h2;show bindL kindOf ((p,w)::P.zip vs) m p=_
  unfold bindL;rw[zcT_ λv hv=>(mw.mp nd).1 (lL hv).1,if_pos hk]
  simp
 |p::P,w::vs,i+1,m,nd,h1,h2,hk=>by
  show bindL kindOf ((p,w)::P.zip vs) m x=_
  unfold bindL;exact zdi_ (i:=i) (mw.mp nd).2 (by simpa using h1) (by simpa using h2) hk
theorem zdn_ {kindOf:Str->Option lT}{x:Str}{v:iX}:∀{P:List Str}{vs:List iX}{i:Nat}{m:Str->Option iX},P.Nodup->P[i]?=rP x->vs[i]?=rP v->kindOf x≠rP .local ->
  bindC kindOf (P.zip vs) m x=rP v
 |[],_,_,_,_,h,_,_=>by simp at h
 |_::_,[],_,_,_,_,h,_=>by simp at h
 |p::P,w::vs,0,m,nd,h1,h2,hk=>by
  simp at h1 h2;subst h1;subst h2;show bindC kindOf ((p,w)::P.zip vs) m p=_
  unfold bindC;rw[zdj_ λv hv=>(mw.mp nd).1 (lL hv).1,if_neg hk]
  simp
 |p::P,w::vs,i+1,m,nd,h1,h2,hk=>by
  show bindC kindOf ((p,w)::P.zip vs) m x=_
  unfold bindC;exact zdn_ (i:=i) (mw.mp nd).2 (by simpa using h1) (by simpa using h2) hk
def start (N:List Str)(vs:List V):St:=vs.map rP++i8 (N.length-vs.length) rQ
def cxOf (CX:CXT)(P:jL)(w:jU)(K:Fgg)(mg:Str->Option iX)(base:Heap)(N:List Str)(qual:Str)(scope:Scope)(f:i9)(cd:iX)(A:jW)(outer:List Env)(s:iY)(H:Hp)(E:XK):Cx where
 prog:=P
 w:=w
 K:=K
 mg:=mg
 base:=base
 A:=A.deeper (envOfC qual scope s.heap.objs.size f cd)
 N:=N
 s₀:=s
 H₀:=H
 env:=envOfC qual scope s.heap.objs.size f cd
 outer:=outer
 stack:=envOfC qual scope s.heap.objs.size f cd::outer
 ex:=[]
 calm:=rR
 fn:=λ_=>rR
 pn:=[]
 xe:=λe s'=>jD (model P w) (A.deeper (envOfC qual scope s.heap.objs.size f cd)) (leaving (envOfC qual scope s.heap.objs.size f cd) e) (λ_ eN=>CX outer H s E e eN) (λe' eN=>CX outer H s E e' eN) s'
theorem zcH_ {sc:Scope}{n:Nat}{x:Str}(h:sc.names.lookup x=rP .cell):∃c,(cellsFrom n sc.names []).lookup x=rP c:=by
 have q:=oh sc.names n [] (.inl h);exact j6.mp q
theorem zdc_ {CX:CXT}{P:jL}{w:jU}{K:Fgg}{mg:Str->Option iX}{base:Heap}{N ps:List Str}{qual:Str}{scope:Scope}{f:i9}{cd:iX}{A:jW}{outer:List Env}{s s1:iY}{H:Hp}{E:XK}{us:List iX}{vs:List V}
  (S:FnScope N ps scope) (hd:A.handled=rQ) (e0:Env0 P w K mg base A outer s H) (hl:vs.length=ps.length) (r:Vals vs us)
  (x:InCallC s s.heap.objs.size (bindL (envOfC qual scope s.heap.objs.size f cd).kindOf (ps.zip us) λ_=>rQ) (cellsFrom (s.heap.objs.size+1) scope.names []) (bindC (envOfC qual scope s.heap.objs.size f cd).kindOf (ps.zip us) λ_=>rQ) s1) (ht:0<s1.toks):
  Inv (cxOf CX P w K mg base N qual scope f cd A outer s H E) [] (start N vs) H s1:=by
 have aw:ps.length<=N.length:=by have:=congrArg nr S.pre;rw[j7]at this;lia
 obtain⟨h1,tk,rfl,hk⟩:=x.done;have cQ:∀b:i9,b∉(cxOf CX P w K mg base N qual scope f cd A outer s H E).ex:=λb z=>absurd (show b∈([]:List i9)from z) (by simp)
 refine⟨⟨e0.mod,S.kind,rfl,rfl,jt _,λy z c h1 h2=>?_,λy hy=>?_,λy c _ h=>?_,λ_=>hd,Around.frames_deeper e0.frames,.inr ⟨rfl,rfl⟩,λb z=>absurd z (cQ b),e0.bs,e0.bsz,λb _ _=>cQ b,λb z=>absurd z (cQ b),e0.funs,e0.frf,e0.tb⟩,
  rfl,e0.bare,Un.kept hk,⟨_,x.toInCall.ns,λi y v h1 h2 h3=>?_⟩,λy c h=>⟨_,x.cell y c h⟩,e0.hok.fresh (jt _),λy c h=>?_,λp hp=>absurd (show p∈([]:Pnn)from hp) (by simp),e0.hok.kept hk,?_,ht⟩
 ·exact name_of_addr x.apart (lB h1) (lB h2)
 ·have hy:scope.names.lookup y=rP .cell\/scope.names.lookup y=rP .free:=hy
  rcases hy with hy |hy
  ·exact zcH_ hy
  ·exact absurd rfl (S.nofree _ (lB hy))
 ·exact pN (x.above y c (lB h))
 ·have hi:i<vs.length:=by
   unfold start at h2;by_cases hi:i<vs.length
   ·exact hi
   ·rw[kR (by simpa using hi)]at h2
    rw[List.getElem?_replicate]at h2;split at h2<;>cases h2
  have ha:vs[i]?=rP v:=by
   unfold start at h2;rw[lD (by simpa using hi),jB]at h2
   cases e:vs[i]? with
   |none=>rw[e]at h2;cases h2|some a=>rw[e]at h2;cases h2;rfl
  obtain⟨u,hu,rv⟩:=r.get ha;have hp:ps[i]?=rP y:=by
   rw[<- S.pre,List.getElem?_take_of_lt (by lia)];exact h1
  have gd:ps.Nodup:=by rw[<- S.pre];exact S.nd.sublist (List.take_sublist _ _)
  refine⟨u,rv,?_⟩;rcases S.par y (l6 hp)with k |k
  ·exact .inl ⟨k,zdi_ gd hp hu k⟩
  ·obtain⟨c,e⟩:=zcH_ (n:=s.heap.objs.size+1) k
   refine .inr ⟨.inl k,c,e,?_⟩;have q:=x.cell y c e;rw[zdn_ gd hp hu (by show scope.names.lookup y≠_;rw[k];decide)]at q
   exact q
 ·exact e0.hok.fresh (pN (x.above y c (lB h)))
 ·unfold start
  show _=N.length
  rw[jC,i7,lg];lia
theorem fn_of {CX:CXT}{P:jL}{w:jU}{K:Fgg}{mg:Str->Option iX}{base:Heap}{k:Nat}{f:i9}{name qual:Str}{params:Arguments}{body:List kq}{scope:Scope}{dV kV doc pm ai ct oc:iX}{an od:Option i9}
  {aA:Array (Option iX)}{N ps:List Str}{sp:Sp}(lk:K.lookup f=rP ⟨oc,od,.func (W.fnOf name qual params body scope dV kV doc pm an ai ct),aA⟩) (bc:oj K ai qual=rR) (S:FnScope N ps scope)
  (len:∀vs H Q E,sp vs H Q E->vs.length=ps.length)
  (aO:∀(A:jW) (outer:List Env) (s:iY) (H:Hp) (vs:List V) (Q:VK) (E:XK),Room k (A.deeper (envOfC qual scope s.heap.objs.size f ai))->sp vs H Q E ->
   ∃t,PSs (cxOf CX P w K mg base N qual scope f ai A outer s H E) body t/\t {nx:=λ_ H'=>Q .non H',rt:=Q} (start N vs) H):
  FnOk P w K mg base CX (k+1) f (W.fnOf name qual params body scope dV kV doc pm an ai ct) ps sp:=by
 refine⟨len,λA outer s H args us vs Q E hr e0 c8 hb r bx=>?_⟩
 have hl:=len _ _ _ _ bx;have KX:K.In s.heap:=e0.mod.kin.keeps λb o e=>(e0.bs b o e).1
 have lim:s.heap.NoLimit:=e0.mod.nolimit.keeps λb o e=>(e0.bs b o e).1
 have bA:∀y∈ps.zip us,scope.names.lookup y.1=rP .local\/(scope.names.lookup y.1=rP .cell/\((cellsFrom (s.heap.objs.size+1) scope.names []).lookup y.1).isSome=rR):=λ⟨n,v⟩ hy=>by
  rcases S.par n (lL hy).1 with q |q
  ·exact .inl q
  ·exact .inr ⟨q,oh _ _ _ (.inl q)⟩
 refine codeAny_call_function hr.depth (KX _ _ lk) rfl S.co S.gen rfl (qB KX bc) (hb _ _ _ _ ?_);refine zkq_ c8 (λhp=>zdm_ S.kind (S.zip hp (r.length.symm.trans hl))) (wpAny_newFunctionEnv_cells S.kind bA λenv he s1 x hk=>?_)
 subst he;refine⟨lim.keeps x.toInCall.keep,codeAny_func ?_⟩;obtain⟨t,ht,hq⟩:=aO A outer s H vs Q E (hr.deeper _) bx;have I:Inv (cxOf CX P w K mg base N qual scope f ai A outer s H E) [] (start N vs) H s1:=zdc_ S hr.hd e0 hl r x hk;refine ke (ht [] s1 (start N vs) H _ I hq) (λfl s' hs=>?_) λe s' hs=>hs
 have fin:∀{af:St}{H':Hp}{v:V}{u:iX},Inv (cxOf CX P w K mg base N qual scope f ai A outer s H E) [] af H' s'->RelV v u->Q v H'->CE outer P w H s Q u s':=
  λ{af H' v u} J rv q=>⟨v,H',J.os,J.bare,J.base,J.hok,J.tk,rv,q⟩
 cases fl with
 |ret u=>
  obtain⟨v,af,H',J,rv,q⟩:=hs;exact fin J rv q
 |next=>
  obtain⟨af,H',J,q⟩:=hs;exact fin (v:=V.non) (u:=lK) J rfl q
 |brk=>
  obtain⟨_,_,_,q⟩:=hs;exact jM q
 |cont=>
  obtain⟨_,_,_,q⟩:=hs;exact jM q
section
variable {X:Cx}{x:Str}{p pos:Pos}{e:jw}{es:List jw}{t:TA}{id T:String}{r:List V->Hp->VK->Prop}
def tCB (r:List V->Hp->VK->Prop)(t:TA):TE:=λσ H Q=>t σ H λvs H1=>r vs H1 Q
theorem ziv_ (hc:CallR X (.builtin id) r)(hg:Gl X x)(hm:X.mg x=rQ)(hv:lP x=rP (.builtin id))(ha:PA X (e::es) t)(hn:x ≠ "__name__":=by decide)(az:(x==("__debug__":Str))=rS:=by decide)
  (he:jE (e::es) X.env=(rS,eval e X.env)::jE es X.env:=by rfl) (aw:(lh pos (jE es X.env)).any (·.1)=rS:=by rfl):PE X (.Call (.Name x p) (e::es) [] pos) (tCB r t):=by
 intro pins s σ H Q I h;refine ll (zgj_ I hg hm hv ?_ hn az);exact pU (thn (ha pos pins s σ H _ I h) λus s1 ⟨vs,H1,I1,r1,q1⟩=>hc pins s1 σ H1 vs us Q I1 r1 q1) he aw
theorem zf0_ (hc:CallR X (.type T) r)(hg:Gl X x)(hm:X.mg x=rQ)(hv:lP x=rP (.type T))(ha:PA X (e::es) t)(hn:x ≠ "__name__":=by decide)(az:(x==("__debug__":Str))=rS:=by decide)
  (he:jE (e::es) X.env=(rS,eval e X.env)::jE es X.env:=by rfl) (aw:(lh pos (jE es X.env)).any (·.1)=rS:=by rfl):PE X (.Call (.Name x p) (e::es) [] pos) (tCB r t):=by
 intro pins s σ H Q I h;refine ll (zgj_ I hg hm hv ?_ hn az);exact nC (thn (ha pos pins s σ H _ I h) λus s1 ⟨vs,H1,I1,r1,q1⟩=>hc pins s1 σ H1 vs us Q I1 r1 q1) he aw
end
end L2
namespace HT
open PySem PyProof.Rows
section
open PySem.SeqAt
open PySem.AutoSeq1 (wpAny_loadPart')
open PySem.MeetsSeq PySem.MeetsSeq2 PySem.MeetsSeq3
end
section
variable {prog:jL}{w:jU}{A:jW}{E:iX->iY->Prop}{s:iY}
theorem cat_tup {t b:i9}{vs ws:List iX}{Q:iX->iY->Prop}(ht:IsTup s.heap t vs.toArray)(hb:IsTup s.heap b ws.toArray)(hv:vs≠[])
  (h1:ws=[]->Q (.ref t) s) (h2:ws≠[]->Q (.ref s.heap.objs.size) {s with heap:=s.heap.push {cls:=.type "tuple",data:=.seq (vs++ws).toArray}})
  (hsz:vs.length+ws.length<=jj):jD (model prog w) A (lO .Add (.ref t) (.ref b)) Q E s:=by
 obtain⟨⟨cls,dd,data,sl⟩,ho,hc,n,hd⟩:=id ht;obtain⟨⟨iN,dd2,data2,sl2⟩,ho2,eF,n2,hd2⟩:=id hb;simp only at hc hd eF hd2;subst hc hd eF hd2;have e:vs.toArray++ws.toArray=(vs++ws).toArray:=by simp
 by_cases hw:ws=[]
 ·exact concat_meets ⟨_,ho,rfl⟩ ⟨_,ho2,rfl⟩ noFill_tuple_add seq_tuple_add oI om (nY _ _)
   (tuple_addW1 t b vs.toArray ws.toArray n n2 dd dd2 sl sl2 (by simpa using hv) (by simp[hw])) ⟨ho,ho2,h1 hw⟩
 ·refine concat_meets ⟨_,ho,rfl⟩ ⟨_,ho2,rfl⟩ noFill_tuple_add seq_tuple_add oI om (nY _ _)
   (tuple_addW2 t b vs.toArray ws.toArray n n2 dd dd2 sl sl2 (by simpa using hv) (by simpa using hw) (by rw[jq,jq];exact hsz)) ⟨ho,ho2,?_⟩
  rw[e];exact h2 hw
noncomputable def sIx (n d:Nat):Option Int->Nat
 |none=>d|some v=>if v<0 then(v+(n:Int)).toNat else min v.toNat n
theorem sIx_le (n d:Nat)(hd:d<=n)(o:Option Int):sIx n d o<=n:=by
 cases o with
 |none=>exact hd|some v=>
  show(if v<0 then(v+(n:Int)).toNat else min v.toNat n)<=n
  by_cases hv:v<0
  ·rw[if_pos hv];lia
  ·rw[if_neg hv];exact Nat.min_le_right _ _
theorem zgH_ (v:Int)(n d:Nat):(if v<0 then max (v+(n:Int)) 0 else min v (n:Int))=((sIx n d (rP v):Nat):Int):=by
 show(if v<0 then max (v+(n:Int)) 0 else min v (n:Int))=(((if v<0 then(v+(n:Int)).toNat else min v.toNat n):Nat):Int)
 by_cases hv:v<0
 ·simp only[if_pos hv];lia
 ·simp only[if_neg hv];lia
theorem zeZ_ (lo hi:Option Int)(n:Nat):mD lo hi 1 (n:Int)=(((sIx n 0 lo:Nat):Int),((sIx n n hi:Nat):Int)):=by
 have h1:¬((1:Int)<0):=by lia
 unfold mD;simp only[h1,if_false];refine Prod.ext ?_ ?_
 ·cases lo with
  |none=>rfl|some v=>exact zgH_ v n 0
 ·cases hi with
  |none=>rfl|some v=>exact zgH_ v n n
theorem zef_ (i j:Nat):lW (i:Int) (j:Int) 1=j-i:=by
 unfold lW;have h1:(1:Int) > 0:=by lia
 simp only[h1,if_true,qC];split<;>lia
theorem zb6_ {v:iX}{o:Option Int}{Q:Option Int->iY->Prop}(p:IsPart v o)(h:Q o s):jD (model prog w) A (p7 v) Q E s:=by
 cases p with
 |none=>exact slicePart_none h|int i t=>exact slicePart_int h
theorem zbn_ {sl:i9}{vl vu:iX}{lo hi:Option Int}{n:Nat}{Q:Int×Int×Nat->iY->Prop}(hs:s.heap.IsSliceOf sl vl vu .none)(pl:IsPart vl lo)(pu:IsPart vu hi)
  (h:Q (((sIx n 0 lo:Nat):Int),1,sIx n n hi-sIx n 0 lo) s):jD (model prog w) A (nJ (.ref sl) (pure (n:Int))) Q E s:=by
 obtain⟨os,hos,hcs,hds⟩:=id hs;unfold nJ qo;refine iZ (iZ (mT hos hds (x:=vl) rfl (iZ (mT hos hds (x:=vu) rfl (iZ (mT hos hds (x:=.none) rfl (jy ?_)))))));refine iZ (slicePart_none ?_);show jD _ _ (if((1:Int) == 0)=rR then _ else _) _ _ s
 rw[if_neg (by decide)]
 refine iZ (zb6_ pl (iZ (zb6_ pu (iZ (jy ?_)))));show jD _ _ (match mD lo hi 1 (n:Int)with |(lo,hi)=>pure (lo,(1:Int),lW lo hi 1)) _ _ s
 rw[zeZ_ lo hi n];show jD _ _ (pure (((sIx n 0 lo:Nat):Int),(1:Int),lW ((sIx n 0 lo:Nat):Int) ((sIx n n hi:Nat):Int) 1)) _ _ s
 rw[zef_];exact jy h
theorem zim_ (xs:Array iX)(i k:Nat):((jV k).filterMap λ(m:Nat)=>xs[((i:Int)+(m:Int)*1).toNat]?).toArray=((xs.toList.drop i).take k).toArray:=by
 have e:(λ(m:Nat)=>xs[((i:Int)+(m:Int)*1).toNat]?)=λm=>xs[i+m]?:=by
  funext m;have:((i:Int)+(m:Int)*1).toNat=i+m:=by lia
  rw[this]
 rw[e];have:=pick_run xs i k;rw[mQ]at this;have e2:((λx=>xs[x]?)∘λx=>i+x)=λm=>xs[i+m]?:=rfl
 rw[e2]at this;rw[this]
theorem getItem_tuple_cut {t sl:i9}{items:Array iX}{vl vu:iX}{lo hi:Option Int}{Q:iX->iY->Prop}(ht:IsTup s.heap t items)(hs:s.heap.IsSliceOf sl vl vu .none)(pl:IsPart vl lo)(pu:IsPart vu hi)
  (hw:¬(sIx items.size 0 lo=0/\sIx items.size items.size hi=items.size))
  (h:Q (.ref s.heap.objs.size) {s with heap:=s.heap.push {cls:=.type "tuple",data:=.seq ((items.toList.drop (sIx items.size 0 lo)).take (sIx items.size items.size hi-sIx items.size 0 lo)).toArray}})
  (hsz:items.size<=jj):jD (model prog w) A (getItem (.ref t) (.ref sl)) Q E s:=by
 have aW:sizeOk (.seq ((items.toList.drop (sIx items.size 0 lo)).take (sIx items.size items.size hi-sIx items.size 0 lo)).toArray):=by
  show((items.toList.drop (sIx items.size 0 lo)).take (sIx items.size items.size hi-sIx items.size 0 lo)).toArray.size<=jj
  rw[jq,j7,kx,lM];lia
 have hj:sIx items.size items.size hi<=items.size:=sIx_le _ _ (jt _) hi;obtain⟨os,hos,hcs,hds⟩:=id hs;have ie:s.TypeIs (.ref sl) "slice":=⟨os,hos,hcs⟩;unfold getItem
 try with_reducible refine wpAny_holding ?_
 first |refine iZ (jy ?_)|skip
 refine iZ (wpAny_sequenceKey ht.typeIs (by decide) ?_)
 refine iZ (wpAny_callSpecial?_slot (name:=oJ "__getitem__") ht.typeIs ma
  (wpAny_call_entry ma ht.typeIs entry_tuple_getitem ?_ (args_tuple_getitem _ _)))
 show jD _ _ (qh (.ref t)>>=_) _ _ s
 refine iZ (tupleItemsOf_ ht ?_);refine iZ (wpAny_typeOf ie ?_);rw[if_pos (by decide)]
 refine iZ (zbn_ hs pl pu ?_);have gW:¬((((sIx items.size 0 lo:Nat):Int) == 0 && (1:Int) == 1 && (sIx items.size items.size hi-sIx items.size 0 lo) == items.size)=rR):=by
  intro q;rw[iP,iP]at q;have q1:((sIx items.size 0 lo:Nat):Int)=0:=eq_of_beq q.1.1;have q2:sIx items.size items.size hi-sIx items.size 0 lo=items.size:=eq_of_beq q.2;exact hw ⟨by lia,by lia⟩
 show jD _ _ (if(((sIx items.size 0 lo:Nat):Int) == 0 && (1:Int) == 1 && (sIx items.size items.size hi-sIx items.size 0 lo) == items.size)=rR then _ else _) _ _ s
 rw[if_neg gW,zim_]
 first
  |exact iZ (m:=l9 _) (wpAny_newObj_type (jy ⟨_,rfl,jy h⟩) aW)
  |exact iZ (m:=l9 _) (wpAny_newObj_type (iZ (jy (jy ⟨_,rfl,jy h⟩))) aW)
  |exact iZ (iZ (m:=l9 _) (wpAny_newObj_type (jy (jy ⟨_,rfl,jy h⟩)) aW))
  |exact iZ (iZ (m:=l9 _) (wpAny_newObj_type (jy ⟨_,rfl,jy h⟩) aW))
end
end HT
namespace L2
open PySem PySem.Spec PyProof.Rows
abbrev TO:=St->Hp->(Option Int->Hp->Prop)->Prop
def PO (X:Cx)(e:Option jw)(t:TO):Prop:=
 ∀(pins:Pnn) (s:iY) (σ:St) (H:Hp) (Q:Option Int->Hp->Prop),Inv X pins σ H s->t σ H Q ->
  jD (model X.prog X.w) X.A (evalPart e X.env) (λu s'=>∃o H',Inv X pins σ H' s'/\IsPart u o/\Q o H') X.xe s
def tNoPart:TO:=λ_ H Q=>Q rQ H
section
variable {X:Cx}{e:jw}{te:TE}{lo hi:Option jw}{tl th:TO}{pos p2:Pos}
theorem zlx_:PO X rQ tNoPart:=by
 intro pins s σ H Q I h;rw[evalPart_none];exact jy ⟨rQ,H,I,.none,h⟩
def SlR (X:Cx)(r:V->Option Int->Option Int->Hp->VK->Prop):Prop:=
 ∀(pins:Pnn) (s:iY) (σ:St) (H:Hp) (x:V) (v vl vu:iX) (lo hi:Option Int) (sl:i9) (Q:VK),Inv X pins σ H s->RelV x v->s.heap.IsSliceOf sl vl vu .none->IsPart vl lo->IsPart vu hi->r x lo hi H Q ->
  ∃T id,typeLookup (.type T) "__getitem__"=pure (rP (.builtin id))/\s.TypeIs v T/\jD (model X.prog X.w) X.A (getItem v (.ref sl)) (EP X pins σ Q) X.xe s
theorem SlR.or {r r':V->Option Int->Option Int->Hp->VK->Prop}(h:SlR X r)(h':SlR X r'):SlR X (λx lo hi H Q=>r x lo hi H Q\/r' x lo hi H Q):=by
 intro pins s σ H x v vl vu lo hi sl Q I rx hs pl pu q;rcases q with q |q
 ·exact h pins s σ H x v vl vu lo hi sl Q I rx hs pl pu q
 ·exact h' pins s σ H x v vl vu lo hi sl Q I rx hs pl pu q
def tSl (r:V->Option Int->Option Int->Hp->VK->Prop)(te:TE)(tl th:TO):TE:=λσ H Q=>te σ H λx H1=>tl σ H1 λl H2=>th σ H2 λu H3=>r x l u H3 Q
theorem zhF_ {r:V->Option Int->Option Int->Hp->VK->Prop}(hr:SlR X r)(he:PE X e te)(hl:PO X lo tl)(hu:PO X hi th):PE X (.Subscript e (.Slice lo hi rQ p2) pos) (tSl r te tl th):=by
 intro pins s σ H Q I h;refine Subscript_ (thn (he pins s σ H _ I h) λv s1 ah=>?_)
 obtain⟨x,H1,I1,r1,q1⟩:=ah;refine wpAny_Slice (thn (hl pins s1 σ H1 _ I1 q1) λvl s2 ⟨l,H2,I2,pl,q2⟩=>thn (hu pins s2 σ H2 _ I2 q2) λvu s3 ah=>?_)
 obtain⟨u,H3,I3,pu,q3⟩:=ah;rw[evalPart_none];refine jy ?_;have I4:Inv X pins σ H3 {s3 with heap:=s3.heap.push {cls:=.type "slice",data:=.fields #[vl,vu,.none]}}:=I3.kept (t':=s3.toks) λb ob q=>jo _ q
 obtain⟨T,id,hT,ht,hg⟩:=hr pins {s3 with heap:=s3.heap.push {cls:=.type "slice",data:=.fields #[vl,vu,.none]}} σ H3 x v vl vu l u s3.heap.objs.size Q I4 r1 (rJ ..) pl pu q3;show jD (model X.prog X.w) X.A (subscriptTail e (.Slice lo hi rQ p2) v (.ref s3.heap.objs.size)) (EP X pins σ Q) X.xe {s3 with heap:=s3.heap.push {cls:=.type "slice",data:=.fields #[vl,vu,.none]}}
 exact tail_any (ops:=[.ref s3.heap.objs.size,v]) ht hT hg (by with_unfolding_all rfl)
def cutV (xs:List V)(lo hi:Option Int):List V:=(xs.drop (HT.sIx xs.length 0 lo)).take (HT.sIx xs.length xs.length hi-HT.sIx xs.length 0 lo)
theorem zbw_ (xs:List V)(lo hi:Option Int):(cutV xs lo hi).length<=xs.length:=by
 unfold cutV;rw[j7,kx];lia
def rSlT (K:Fgg):V->Option Int->Option Int->Hp->VK->Prop:=λx lo hi H Q=>∃a xs,x=.ref a/\SqT K H a xs /\
 ¬(HT.sIx xs.length 0 lo=0/\HT.sIx xs.length xs.length hi=xs.length)/\∀p,H p=rQ->Q (.ref p) (upd H p (.tup (cutV xs lo hi)))
theorem zmR_:SlR X (rSlT X.K):=by
 intro pins s σ H x v vl vu lo hi sl Q I rx hs pl pu h;obtain⟨a,xs,rfl,hx,hw,q⟩:=h;cases rx;obtain⟨aa,r,ht,hz⟩:=I.tuple hx;have hlen:aa.toArray.size=xs.length:=by rw[jq];exact r.length.symm
 refine⟨"tuple",_,ma.lookup,ht.typeIs,?_⟩;refine HT.getItem_tuple_cut ht hs pl pu (by rw[hlen];exact hw) ?_ (by rw[hlen];exact hz)
 rw[hlen];refine⟨.ref s.heap.objs.size,_,I.laid (t':=s.toks) (o:=.tup (cutV xs lo hi)) (λb ob q=>jo _ q) (jt _) ?_,rfl,q _ (I.hok.fresh (jt _))⟩
 exact⟨ki (zbw_ xs lo hi) hz,_,(r.drop (HT.sIx xs.length 0 lo)).take (HT.sIx xs.length xs.length hi-HT.sIx xs.length 0 lo),IsTup.new _ _⟩
def rCatT (K:Fgg):R2:=λx y H Q=>∃a b xs ys,x=.ref a/\y=.ref b/\SqT K H a xs/\SqT K H b ys/\xs≠[]/\xs.length+ys.length<=jj /\
 (ys=[]->Q (.ref a) H)/\(ys≠[]->∀p,H p=rQ->Q (.ref p) (upd H p (.tup (xs++ys))))
theorem Vals.nil_iff {xs:List V}{us:List iX}(r:Vals xs us):us=[]↔xs=[]:=by
 cases r with
 |nil=>simp|cons _ _=>simp
theorem zkW_:OpR X (lO .Add) (rCatT X.K):=by
 intro pins s σ H x y v u Q I rx ry h;obtain⟨a,b,xs,ys,rfl,rfl,ha,hb,hx,hz,q1,q2⟩:=h;cases rx;cases ry;obtain⟨aa,r1,p1,_⟩:=I.tuple ha;obtain⟨au,r2,p2,_⟩:=I.tuple hb;refine HT.cat_tup p1 p2 (λz=>hx (r1.nil_iff.mp z)) (λz=>⟨.ref a,H,I,rfl,q1 (r2.nil_iff.mp z)⟩) (λz=>?_) (by rw[<- r1.length,<- r2.length];exact hz)
 refine⟨.ref s.heap.objs.size,_,I.laid (t':=s.toks) (o:=.tup (xs++ys)) (λb ob q=>jo _ q) (jt _) ?_,rfl,q2 (λw=>z (r2.nil_iff.mpr w)) _ (I.hok.fresh (jt _))⟩
 exact⟨by rw[jC];exact hz,_,r1.append r2,IsTup.new _ _⟩
end
noncomputable def ixN (n:Nat)(i:Int):Option Nat:=if 0<=i then(if i<n then rP i.toNat else rQ)else if -(n:Int)<=i then rP (i+n).toNat else rQ
def atI {α:Type}(xs:List α)(i:Int):Option α:=(ixN xs.length i).bind λj=>xs[j]?
theorem ze3_ {n:Nat}{i:Int}{j:Nat}(h:ixN n i=rP j):seqIndex? i n=rP j/\j<n /\ -(n:Int)<=i/\i<n:=by
 unfold ixN at h;by_cases h0:0<=i
 ·rw[if_pos h0]at h
  by_cases h1:i<n
  ·rw[if_pos h1]at h
   have e:i.toNat=j:=j8 h;exact⟨by rw[seqIndex_of h0 h1,e],by lia,by lia,h1⟩
  ·rw[if_neg h1]at h;cases h
 ·rw[if_neg h0]at h
  by_cases h1 : -(n:Int)<=i
  ·rw[if_pos h1]at h
   have e:(i+n).toNat=j:=j8 h;exact⟨by rw[seqIndex_neg (by lia) h1,e],by lia,h1,by lia⟩
  ·rw[if_neg h1]at h;cases h
theorem zdU_ {α:Type}{xs:List α}{i:Int}{v:α}(h:atI xs i=rP v):∃j,seqIndex? i xs.length=rP j/\xs[j]?=rP v/\j<xs.length /\ -(xs.length:Int)<=i/\i<xs.length:=by
 unfold atI at h;cases e:ixN xs.length i with
 |none=>rw[e]at h;cases h|some j=>
  rw[e]at h;obtain⟨h1,h2,h3,h4⟩:=ze3_ e;exact⟨j,h1,h,h2,h3,h4⟩
def PlainIx (b:jw):Prop:=∀o i,subscripted b rS o i=operate [o,i] (getItem o i)
def IxR (X:Cx)(r:R2):Prop:=
 ∀(value slice:jw) (pins:Pnn) (s:iY) (σ:St) (H:Hp) (x y:V) (v u:iX) (Q:VK),Inv X pins σ H s->RelV x v->RelV y u->r x y H Q ->
  subscripted slice rS v u=operate [v,u] (getItem v u)->jD (model X.prog X.w) X.A (subscriptTail value slice v u) (EP X pins σ Q) X.xe s
def MtR (X:Cx)(id:String)(r:V->List V->Hp->VK->Prop):Prop:=
 ∀(pins:Pnn) (s:iY) (σ:St) (H:Hp) (x:V) (xs:List V) (v:iX) (us:List iX) (Q:VK),Inv X pins σ H s->RelV x v->Vals xs us->r x xs H Q ->
  jD (model X.prog X.w) X.A (call (.builtin id) (v::us)) (EP X pins σ Q) X.xe s
section
variable {X:Cx}{a b:jw}{ta tb:TE}{pos:Pos}
theorem zmN_ {r:R2}(hr:IxR X r)(ha:PE X a ta)(hb:PE X b tb)(hs:PlainIx b):PE X (.Subscript a b pos) (tOp r ta tb):=by
 intro pins s σ H Q I h;exact Subscript_ (binT ha hb I h λv u s2 x y H2 I2 rx ry q=>hr a b pins s2 σ H2 x y v u Q I2 rx ry q (hs _ _))
def rIxL (K:Fgg):R2:=λx y H Q=>∃p xs i v,x=.ref p/\y=.int i/\SqL K H p xs/\atI xs i=rP v/\Q v H
def rIxT (K:Fgg):R2:=λx y H Q=>∃p xs i v,x=.ref p/\y=.int i/\SqT K H p xs/\atI xs i=rP v/\Q v H
def rIxS:R2:=λx y H Q=>∃z i c,x=.str z/\y=.int i/\z.length<=jj/\atI z.cps.toList i=rP c/\Q (.str ⟨#[c]⟩) H
theorem zkt_:IxR X (rIxL X.K):=by
 intro value slice pins s σ H x y v u Q I rx ry h hs;obtain⟨p,xs,i,z,rfl,rfl,hq,he,q⟩:=h;cases rx;obtain⟨t,rfl⟩:=ry;obtain⟨aa,r,pl,hz⟩:=I.list hq;obtain⟨j,h1,h2,h3,h4,h5⟩:=zdU_ he;obtain⟨w,ew,a8⟩:=r.get h2;have hl:=r.length;have hn:=line63;have fin:EP X pins σ Q w s:=⟨z,H,I,a8,q⟩;by_cases h0:0<=i
 ·have hj:i.toNat=j:=by
   rw[seqIndex_of h0 h5]at h1;exact j8 h1
  exact item_listR pl.isList h0 (by lia) (by rw[hj];simpa using ew) fin hs
 ·have hj:(i+(aa.toArray.size:Int)).toNat=j:=by
   rw[seqIndex_neg (by lia) h4]at h1
   rw[jq,<- hl];exact j8 h1
  exact subscriptTail_builtinR (x:=w) pl.isList.typeIs slot_list_getitem.lookup
   (wpAny_getItem_list_neg (Q:=λr s'=>r=w/\EP X pins σ Q r s') pl.isList (by lia) (by rw[jq]<;>lia) (by lia) (by rw[hj];simpa using ew) ⟨rfl,fin⟩) hs
theorem zop_:IxR X (rIxT X.K):=by
 intro value slice pins s σ H x y v u Q I rx ry h hs;obtain⟨p,xs,i,z,rfl,rfl,hq,he,q⟩:=h;cases rx;obtain⟨t,rfl⟩:=ry;obtain⟨aa,r,pl,hz⟩:=I.tuple hq;obtain⟨j,h1,h2,h3,h4,h5⟩:=zdU_ he;obtain⟨w,ew,a8⟩:=r.get h2;have hl:=r.length;have hn:=line63;have fin:EP X pins σ Q w s:=⟨z,H,I,a8,q⟩
 exact subscriptTail_builtinR (x:=w) pl.typeIs slot_tuple_getitem.lookup
  (getItem_tuple (j:=j) (Q:=λr s'=>r=w/\EP X pins σ Q r s') pl (by lia) (by lia) (by rw[jq,<- hl];exact h1) (by simpa using ew) ⟨rfl,fin⟩) hs
theorem znN_:IxR X rIxS:=by
 intro value slice pins s σ H x y v u Q I rx ry h hs;obtain⟨z,i,c,rfl,rfl,hz,he,q⟩:=h;obtain⟨t,rfl⟩:=rx;obtain⟨t',rfl⟩:=ry;obtain⟨j,h1,h2,h3,h4,h5⟩:=zdU_ he;have hl:z.cps.toList.length=z.length:=by simp[k9]
 rw[hl]at h1 h4 h5;have hn:=line63;exact tail_any (typeIs_str s z t) slot_str_getitem.lookup (getItem_str (c:=c) (by
  have e1:decide (i < -(2 ^ 63:Int))=rS:=decide_eq_false (by lia)
  have e2:decide (i ≥ 2 ^ 63)=rS:=decide_eq_false (by lia)
  rw[e1,e2,Bool.or_false]) (by rw[h1];simpa using h2) ⟨.str ⟨#[c]⟩,H,I.tok _,⟨_,rfl⟩,q⟩) hs
theorem zed_ (aa:List iX)(n j:Nat)(u:iX):oK (·.setIfInBounds j u) {cls:=.type "list",data:=.seq aa.toArray n}={cls:=.type "list",data:=.seq (aa.set j u).toArray n}:=by
 simp[oK]
theorem Inv.lst {pins:Pnn}{σ:St}{H:Hp}{s:iY}{p:i9}{xs:List V}(I:Inv X pins σ H s)(h:H p=rP (.lst xs)):
  ∃(aa:List iX) (n:Nat),Vals xs aa/\s.heap.get? p=rP {cls:=.type "list",data:=.seq aa.toArray n}/\xs.length<=jj:=by
 obtain⟨z,aa,n,r,e⟩:=I.hok p _ h;exact⟨aa,n,r,e,z⟩
theorem Inv.lstUpd {pins:Pnn}{σ:St}{H:Hp}{s:iY}{p:i9}{xs ys:List V}{aa its':List iX}{n n':Nat}{f:qb->qb}(I:Inv X pins σ H s)(h:H p=rP (.lst xs))
  (ho:s.heap.get? p=rP {cls:=.type "list",data:=.seq aa.toArray n}) (hf:f {cls:=.type "list",data:=.seq aa.toArray n}={cls:=.type "list",data:=.seq its'.toArray n'}) (r:Vals ys its') (hz:ys.length<=jj) (t:Nat) (ht:0<t:=by first |assumption |exact Inv.tk ‹_› |exact kn _ |(refine i6 ?_ ‹_›;exact Inv.tk ‹_›)|exact i6 (Inv.tk ‹_›) (jZ _ _)):
  Inv X pins σ (upd H p (.lst ys)) {s with heap:=s.heap.update p f,toks:=t}:=by
 have e:(s.heap.update p f).get? p=rP {cls:=.type "list",data:=.seq its'.toArray n'}:=by
  rw[mY f ho (by rw[hf]<;>rfl),hf]
 refine I.write (x:=p) (e:=p) (by rw[h];trivial) (.inl rfl) (λb u hb q=>(ly _ _ (mO hb)).trans q) ⟨_,e⟩ ?_ ht
 exact⟨hz,its',n',r,e⟩
def rSetL:V->V->V->Hp->(Hp->Prop)->Prop:=λo i v H Q=>∃p xs k j,o=.ref p/\i=.int k/\H p=rP (.lst xs)/\ixN xs.length k=rP j/\Q (upd H p (.lst (xs.set j v)))
theorem ziJ_:PSet X rSetL:=by
 intro pins s σ H o i v ov iv u Q I ro ri rv h;obtain⟨p,xs,k,j,rfl,rfl,hp,hj,q⟩:=h;cases ro;obtain⟨t,rfl⟩:=ri;obtain⟨aa,n,r,ho,hz⟩:=I.lst hp;obtain⟨h1,h2,h3,h4⟩:=ze3_ hj;have hl:=r.length;have hn:=line63;have I':Inv X pins σ (upd H p (.lst (xs.set j v))) {s with heap:=s.heap.update p (oK (·.setIfInBounds j u))}:=
  I.lstUpd hp ho (zed_ aa n j u) (r.set rv j) (by rw[lj];exact hz) s.toks
 by_cases h0:0<=k
 ·have hk:k.toNat=j:=by
   rw[seqIndex_of h0 h4]at h1;exact j8 h1
  exact W.ki_setAt ho h0 (by lia) (by rw[jq,<- hl];exact h4) (by rw[hk];exact⟨_,I',q⟩)
 ·have hk:(k+(aa.toArray.size:Int)).toNat=j:=by
   rw[seqIndex_neg (by lia) h3]at h1
   rw[jq,<- hl];exact j8 h1
  exact W.ki_setBack ho (by lia) (by rw[jq,<- hl];exact h3) (by lia) (by rw[hk];exact⟨_,I',q⟩)
theorem zcn_ (lo hi:Option Int)(n:Nat):(sliceBounds lo hi rQ n).1=((HT.sIx n 0 lo:Nat):Int)/\(sliceBounds lo hi rQ n).2.1=((HT.sIx n n hi:Nat):Int)/\(sliceBounds lo hi rQ n).2.2=1:=by
 refine⟨?_,?_,rfl⟩
 ·cases lo with
  |none=>simp[sliceBounds,HT.sIx]|some i=>
   simp only[sliceBounds,HT.sIx,pV,show(1:Int) > 0 by decide,if_true]
   by_cases h:i<0
   ·simp only[h,if_true]<;>lia
   ·simp only[h,if_false]<;>lia
 ·cases hi with
  |none=>simp[sliceBounds,HT.sIx]|some i=>
   simp only[sliceBounds,HT.sIx,pV,show(1:Int) > 0 by decide,if_true]
   by_cases h:i<0
   ·simp only[h,if_true]<;>lia
   ·simp only[h,if_false]<;>lia
theorem zcd_ (aa:List iX)(lo hi:Option Int):slicePick aa.toArray lo hi rQ=((aa.drop (HT.sIx aa.length 0 lo)).take (HT.sIx aa.length aa.length hi-HT.sIx aa.length 0 lo)).toArray:=by
 obtain⟨h1,h2,h3⟩:=zcn_ lo hi aa.toArray.size;unfold slicePick;rw[h1,h2,h3];simp only[sliceRange_one,pick_run,jq]<;>rfl
def rSlL (K:Fgg):V->Option Int->Option Int->Hp->VK->Prop:=λx lo hi H Q=>∃a xs,x=.ref a/\SqL K H a xs/\∀p,H p=rQ->Q (.ref p) (upd H p (.lst (cutV xs lo hi)))
theorem zjw_:SlR X (rSlL X.K):=by
 intro pins s σ H x v vl vu lo hi sl Q I rx hs pl pu h;obtain⟨a,xs,rfl,hx,q⟩:=h;cases rx;obtain⟨aa,r,ht,hz⟩:=I.list hx;have hlen:=r.length;refine⟨"list",_,slot_list_getitem.lookup,ht.isList.typeIs,?_⟩;refine wpAny_getItem_list_slice ht.isList hs pl pu .none (by simp) ?_ (by rw[jq]<;>lia)
 rw[zcd_,<- hlen];refine⟨.ref s.heap.objs.size,_,I.laid (t':=s.toks) (o:=.lst (cutV xs lo hi)) (λb ob q=>jo _ q) (jt _) ?_,rfl,q _ (I.hok.fresh (jt _))⟩
 exact⟨ki (zbw_ xs lo hi) hz,_,0,(r.drop (HT.sIx xs.length 0 lo)).take (HT.sIx xs.length xs.length hi-HT.sIx xs.length 0 lo),jO _ rfl⟩
noncomputable def flatV:V->Bool
 |.non=>rR|.bl _=>rR|.int _=>rR|.str _=>rR|_=>rS
noncomputable def eqV:V->V->Bool
 |.non,.non=>rR|.bl a,.bl b=>a == b|.bl a,.int b=>(if a then 1 else 0) == b|.int a,.bl b=>a == (if b then 1 else 0)|.int a,.int b=>a == b|.str a,.str b=>a == b|_,_=>rS
theorem zjn_ {A:jW}{s:iY}{y x:V}{u v:iX}(ry:RelV y u)(rx:RelV x v)(fy:flatV y=rR)(fx:flatV x=rR):qi A s u v (eqV y x):=by
 cases y with
 |non=>
  cases ry;cases x with
  |non=>cases rx;exact oS _|bl b=>cases rx;exact SeqAt.EqAt.none_bool b|int b=>obtain⟨t,rfl⟩:=rx;exact SeqAt.EqAt.none_int b t|str b=>obtain⟨t,rfl⟩:=rx;exact SeqAt.EqAt.none_str b t|_=>exact absurd (show rS=rR from fx) kQ
 |bl a=>
  cases ry;cases x with
  |non=>cases rx;exact SeqAt.EqAt.bool_none a|bl b=>cases rx;exact SeqAt.EqAt.bool_bool a b|int b=>obtain⟨t,rfl⟩:=rx;exact SeqAt.EqAt.bool_int a b t|str b=>obtain⟨t,rfl⟩:=rx;exact SeqAt.EqAt.bool_str a b t|_=>exact absurd (show rS=rR from fx) kQ
 |int a=>
  obtain⟨t',rfl⟩:=ry;cases x with
  |non=>cases rx;exact SeqAt.EqAt.int_none a t'|bl b=>cases rx;exact SeqAt.EqAt.int_bool a t' b|int b=>obtain⟨t,rfl⟩:=rx;exact SeqAt.EqAt.int_int a t' b t|str b=>obtain⟨t,rfl⟩:=rx;exact pF a t' b t|_=>exact absurd (show rS=rR from fx) kQ
 |str a=>
  obtain⟨t',rfl⟩:=ry;cases x with
  |non=>cases rx;exact SeqAt.EqAt.str_none a t'|bl b=>cases rx;exact SeqAt.EqAt.str_bool a t' b|int b=>obtain⟨t,rfl⟩:=rx;exact pG a t' b t|str b=>obtain⟨t,rfl⟩:=rx;exact SeqAt.EqAt.str_str a t' b t|_=>exact absurd (show rS=rR from fx) kQ
 |_=>exact absurd (show rS=rR from fy) kQ
def eqU (x:V)(u:iX):Bool:=match u with
 |.none=>eqV .non x|.bool b=>eqV (.bl b) x|.int i _=>eqV (.int i) x|.str z _=>eqV (.str z) x|_=>rS
theorem zko_ {x y:V}{u:iX}(r:RelV y u)(f:flatV y=rR):eqU x u=eqV y x:=by
 cases y with
 |non=>cases r;rfl|bl b=>cases r;rfl|int i=>obtain⟨t,rfl⟩:=r;rfl|str z=>obtain⟨t,rfl⟩:=r;rfl|_=>exact absurd (show rS=rR from f) kQ
theorem zb5_ {x:V}:∀{xs:List V}{us:List iX},Vals xs us->xs.all flatV=rR->us.any (eqU x)=xs.any λy=>eqV y x
 |_,_,.nil,_=>rfl|y::xs,u::us,.cons r t,f=>by
  rw[jY,iP]at f;rw[mJ,mJ,zko_ r f.1,zb5_ t f.2]
theorem zbl_ {A:jW}{s:iY}{x:V}{v:iX}(rx:RelV x v)(fx:flatV x=rR):∀{xs:List V}{us:List iX},Vals xs us->xs.all flatV=rR->∀u∈us,qi A s u v (eqU x u)
 |_,_,.nil,_=>λu hu=>by cases hu
 |y::xs,u::us,.cons r t,f=>λu' hu=>by
  rw[jY,iP]at f;rcases jK.mp hu with rfl |hu
  ·rw[zko_ r f.1];exact zjn_ r rx f.1 fx
  ·exact zbl_ rx fx t f.2 u' hu
def inV (x:V)(xs:List V):Bool:=xs.any λy=>eqV y x
def rIn (K:Fgg)(neg:Bool):R2:=λx y H Q=>∃p xs,y=.ref p/\(SqL K H p xs\/SqT K H p xs)/\flatV x=rR/\xs.all flatV=rR/\Q (.bl (if neg then !inV x xs else inV x xs)) H
theorem zgh_:OpR X (jX .In) (rIn X.K rS):=by
 intro pins s σ H x y v u Q I rx ry h;obtain⟨p,xs,rfl,hq,fx,fs,q⟩:=h;cases ry;rcases hq with hq |hq
 ·obtain⟨aa,r,pl,hz⟩:=I.list hq
  refine SeqAt.in_listAt (eqU x) pl.isList (λw hw=>zbl_ rx fx r fs w (by simpa using hw)) ⟨.bl _,H,I,rfl,?_⟩
  rw[show aa.toArray.any (eqU x)=aa.any (eqU x) by simp,zb5_ r fs]
  exact q
 ·obtain⟨aa,r,pl,hz⟩:=I.tuple hq
  refine SeqAt.in_tupleAt (eqU x) pl (λw hw=>zbl_ rx fx r fs w (by simpa using hw)) ⟨.bl _,H,I,rfl,?_⟩
  rw[show aa.toArray.any (eqU x)=aa.any (eqU x) by simp,zb5_ r fs]
  exact q
theorem zcN_:OpR X (jX .NotIn) (rIn X.K rR):=by
 intro pins s σ H x y v u Q I rx ry h;obtain⟨p,xs,rfl,hq,fx,fs,q⟩:=h;cases ry;rcases hq with hq |hq
 ·obtain⟨aa,r,pl,hz⟩:=I.list hq
  refine SeqAt.notIn_listAt (eqU x) pl.isList (λw hw=>zbl_ rx fx r fs w (by simpa using hw)) ⟨.bl _,H,I,rfl,?_⟩
  rw[show aa.toArray.any (eqU x)=aa.any (eqU x) by simp,zb5_ r fs]
  exact q
 ·obtain⟨aa,r,pl,hz⟩:=I.tuple hq
  refine SeqAt.notIn_tupleAt (eqU x) pl (λw hw=>zbl_ rx fx r fs w (by simpa using hw)) ⟨.bl _,H,I,rfl,?_⟩
  rw[show aa.toArray.any (eqU x)=aa.any (eqU x) by simp,zb5_ r fs]
  exact q
theorem zcA_:CallR X (.builtin "len") (λxs H Q=>∃p ys,xs=[.ref p]/\(SqL X.K H p ys\/SqT X.K H p ys)/\Q (.int ys.length) H):=by
 intro pins s σ H xs us Q I r h;obtain⟨p,ys,rfl,hq,q⟩:=h;obtain⟨u,rfl,rx⟩:=vals1 r;cases rx;have hn:=line63;rcases hq with hq |hq
 ·obtain⟨aa,r',pl,hz⟩:=I.list hq
  have hlen:=r'.length;exact Calls.call_len_list pl.isList (by simp only[jq]<;>lia) ⟨.int ys.length,H,I.tok _,⟨s.toks+1,by rw[jq,hlen]⟩,q⟩
 ·obtain⟨aa,r',pl,hz⟩:=I.tuple hq
  have hlen:=r'.length;exact len_tuple pl (by simp only[jq]<;>lia) ⟨.int ys.length,H,I.tok _,⟨s.toks+1,by rw[jq,hlen]⟩,q⟩
theorem zcx_:CallR X (.builtin "len") (λxs H Q=>∃z,xs=[.str z]/\z.length<=jj/\Q (.int z.length) H):=by
 intro pins s σ H xs us Q I r h;obtain⟨z,rfl,hz,q⟩:=h;obtain⟨u,rfl,t,rfl⟩:=vals1 r;have hn:=line63;exact len_str (by lia) ⟨.int z.length,H,I.tok _,⟨_,rfl⟩,q⟩
theorem zcr_:CallR X (.type "list") (λxs H Q=>∃p ys,xs=[.ref p]/\(SqL X.K H p ys\/SqT X.K H p ys)/\∀l,H l=rQ->Q (.ref l) (upd H l (.lst ys))):=by
 intro pins s σ H xs us Q I r h;obtain⟨p,ys,rfl,hq,q⟩:=h;obtain⟨u,rfl,rx⟩:=vals1 r;cases rx
 have fin:∀(aa:List iX),Vals ys aa->ys.length<=jj->∀(h':Heap) (c':Nat),(∀b o',s.heap.get? b=rP o'->h'.get? b=rP o') ->
   h'.get? s.heap.objs.size=rP {cls:=.type "list",dict:=rQ,data:=.seq aa.toArray c',slots:=#[]}->EP X pins σ Q (.ref s.heap.objs.size) {s with heap:=h'}:=λaa r' hz h' c' kp e=>
  ⟨.ref s.heap.objs.size,_,I.laid (t':=s.toks) kp (jt _) (show ObjOk X.prog X.w _ h' _ (.lst ys)from⟨hz,aa,c',r',e⟩),rfl,q _ (I.hok.fresh (jt _))⟩
 rcases hq with hq |hq
 ·obtain⟨aa,r',pl,hz⟩:=I.list hq
  have hlen:=r'.length;obtain⟨o,ho,hc,n,hd⟩:=pl.isList;exact call_list_seq p (.inl rfl) ho hc hd (λh' c' kp e=>fin aa r' hz h' c' kp e) (by simp only[jq]<;>lia)
 ·obtain⟨aa,r',pl,hz⟩:=I.tuple hq
  have hlen:=r'.length;obtain⟨o,ho,hc,n,hd⟩:=pl;exact call_list_seq p (.inr rfl) ho hc hd (λh' c' kp e=>fin aa r' hz h' c' kp e) (by simp only[jq]<;>lia)
def tyV (K:Fgg)(T:String)(x:V)(H:Hp):Prop:=match x with
 |.str _=>T="str"|.int _=>T="int"| .ref p=>(T="list" /\ ∃xs,SqL K H p xs)\/(T="tuple" /\ ∃o,K.lookup p=rP o/\o.cls=.type "tuple" /\ o.dict=rQ) \/
   (T="dict" /\ ((∃kvs,H p=rP (.dK kvs))\/∃kvs,H p=rP (.dT kvs)))\/(T="set" /\ ∃S n,H p=rP (.set S n))
 |_=>False
theorem zkx_ {pins:Pnn}{σ:St}{H:Hp}{s:iY}{T:String}{x:V}{v:iX}(I:Inv X pins σ H s)(r:RelV x v)(ty:tyV X.K T x H):
  s.TypeIs v T/\∀a,v=.ref a->∃ob,s.heap.get? a=rP ob/\ob.dict=rQ:=by
 cases x with
 |str z=>
  obtain⟨t,rfl⟩:=r;cases(show T="str" from ty)
  exact⟨typeIs_str s z t,λ_ e=>nomatch e⟩
 |int i=>
  obtain⟨t,rfl⟩:=r;cases(show T="int" from ty)
  exact⟨typeIs_int s i t,λ_ e=>nomatch e⟩
 |ref p=>
  cases r;rcases ty with⟨rfl,xs,hq⟩|⟨rfl,o,hk,hc,hd⟩|⟨rfl,hk⟩|⟨rfl,S,n,hk⟩
  ·obtain⟨aa,_,pl,_⟩:=I.list hq
   refine⟨pl.isList.typeIs,λa e=>?_⟩
   cases e;obtain⟨o,n,e,c,hd,_⟩:=pl;exact⟨o,e,hd⟩
  ·refine⟨⟨o,I.kIn p o hk,hc⟩,λa e=>?_⟩
   cases e;exact⟨o,I.kIn _ o hk,hd⟩
  ·have z:∃o,s.heap.get? p=rP o/\o.ExactDict:=by
    rcases hk with⟨kvs,hk⟩|⟨kvs,hk⟩
    ·obtain⟨_,_,_,_,o,_,_,e,ex,_⟩:=I.hok p _ hk
     exact⟨o,e,ex⟩
    ·obtain⟨_,_,_,_,o,_,_,e,ex,_⟩:=I.hok p _ hk
     exact⟨o,e,ex⟩
   obtain⟨o,e,ex⟩:=z;refine⟨⟨o,e,ex.1⟩,λa e2=>?_⟩
   cases e2;exact⟨o,e,ex.2.1⟩
  ·obtain⟨o,_,_,_,e,ex,_⟩:=I.hok p _ hk
   refine⟨⟨o,e,ex.1⟩,λa e2=>?_⟩
   cases e2;exact⟨o,e,ex.2.1⟩
 |_=>exact jM ty
def tBM0 (K:Fgg)(T:String)(r:V->List V->Hp->VK->Prop)(to:TE):TE:=λσ H Q=>to σ H λx H1=>tyV K T x H1/\r x [] H1 Q
def tBM (K:Fgg)(T:String)(r:V->List V->Hp->VK->Prop)(to:TE)(t:TA):TE:=λσ H Q=>to σ H λx H1=>tyV K T x H1/\t σ H1 λxs H2=>r x xs H2 Q
variable {o e:jw}{es:List jw}{to:TE}{t:TA}{name:Str}{apos aj:Pos}{T id:String}{r:V->List V->Hp->VK->Prop}
theorem zhM_ (pa:PlainAttrs T)(slot:Slot T name id)(c7:typeOf (.builtin id)=pure (.type "method_descriptor"))(hm:MtR X id r)(ho:PE X o to)
  (bD:attributeBase o name X.env (eval o X.env)=eval o X.env:=by rfl) (bz:(apos.endLine == aj.line)=rR:=by rfl):PE X (.Call (.Attribute o name apos) [] [] aj) (tBM0 X.K T r to):=by
 intro pins s σ H Q I h;refine wpAny_Call_method0_late bD bz (thn (ho pins s σ H _ I h) λv s1 ah=>?_)
 obtain⟨x,H1,I1,r1,ty,q1⟩:=ah;obtain⟨h1,h2⟩:=zkx_ I1 r1 ty;exact⟨T,id,pa,slot,c7,h1,h2,Calls.callWith_builtin rfl (PySem.evalArgs_none (hm pins s1 σ H1 x [] v [] Q I1 r1 .nil q1))⟩
theorem zn9_ (pa:PlainAttrs T)(slot:Slot T name id)(c7:typeOf (.builtin id)=pure (.type "method_descriptor"))(hm:MtR X id r)(ho:PE X o to)(ha:PA X (e::es) t)
  (bD:attributeBase o name X.env (eval o X.env)=eval o X.env:=by rfl)
  (fJ:((lh aj (jE (e::es) X.env)).all (λx=>!x.1) && (mH aj (lS [] X.env)).all (λx=>x.1.isSome)
   && decide ((e::es).length+([]:List Keyword).length+(if([]:List Keyword).isEmpty then 0 else 1)<30))=rR:=by rfl)
  (bz:(apos.endLine == aj.line)=rR:=by rfl) (hs:jE (e::es) X.env=(rS,eval e X.env)::jE es X.env:=by rfl) (cb:(lh aj (jE es X.env)).any (·.1)=rS:=by rfl):
  PE X (.Call (.Attribute o name apos) (e::es) [] aj) (tBM X.K T r to t):=by
 intro pins s σ H Q I h;refine wpAny_Call_method_late bD fJ bz rfl (thn (ho pins s σ H _ I h) λv s1 ah=>?_)
 obtain⟨x,H1,I1,r1,ty,q1⟩:=ah;obtain⟨h1,h2⟩:=zkx_ I1 r1 ty;refine⟨T,id,pa,slot,c7,h1,h2,?_⟩;have hA:=ha aj pins s1 σ H1 _ I1 q1;rw[hs]at hA ⊢;refine Calls.callWith_builtin (by show(rS ||(lh aj (jE es X.env)).any (·.1))=rS;rw[cb]<;>rfl) (Calls.evalArgs_plain ?_)
 exact thn hA λus s2 ⟨vs,H2,I2,r2,q2⟩=>hm pins s2 σ H2 x vs v us Q I2 r1 r2 q2
end
def MtM (X:Cx)(id:String)(r:V->List V->Hp->VK->Prop):Prop:=
 ∀(pins:Pnn) (s:iY) (σ:St) (H:Hp) (x:V) (xs:List V) (v:iX) (us:List iX) (Q:VK),Inv X pins σ H s->RelV x v->Vals xs us->r x xs H Q ->
  jD (model X.prog X.w) X.A (call (.builtin id) (v::us)) (EP X pins σ Q) X.xe s
theorem Vals.one:∀{x:V}{us:List iX},Vals [x] us->∃u,us=[u]/\RelV x u
 |_,_,.cons r .nil=>⟨_,rfl,r⟩
theorem Vals.dropLast {xs:List V}{us:List iX}(h:Vals xs us):Vals xs.dropLast us.dropLast:=by
 induction h with
 |nil=>exact .nil|cons r t ih=>
  cases t with
  |nil=>exact .nil|cons q t'=>exact .cons r ih
theorem Vals.rep {xs:List V}{us:List iX}(h:Vals xs us):∀k:Nat,Vals (i8 k xs).flatten (i8 k us).flatten
 |0=>.nil|k+1=>by
  rw[ka,ka,lI,lI];exact Vals.append h (Vals.rep h k)
theorem zi9_ {α:Type}(l:List α):l.eraseIdx (l.length-1)=l.dropLast:=by
 induction l with
 |nil=>rfl|cons a r ih=>
  cases r with
  |nil=>rfl|cons b r=>
   have e:(a::b::r).length-1=((b::r).length-1)+1:=by
    have h1:(a::b::r).length=r.length+2:=rfl;have h2:(b::r).length=r.length+1:=rfl;lia
   rw[e,kE,ih]
   all_goals rfl
theorem zc3_ (aa:List iX):∀(k:Nat) (acc:List iX),
  oM (λx1 x2=>x1++x2) acc.toArray (i8 k aa.toArray)=(acc++(i8 k aa).flatten).toArray
 |0,acc=>by simp
 |k+1,acc=>by
  have e:acc.toArray++aa.toArray=(acc++aa).toArray:=by simp
  have e2:(acc++aa)++(i8 k aa).flatten=acc++(i8 (k+1) aa).flatten:=by
   rw[ka,lI,mx]
  rw[<- e2,<- zc3_ aa k (acc++aa),<- e,ka,nv]
section
variable {X:Cx}{pins:Pnn}{σ:St}{H:Hp}{s:iY}{l:i9}{xs ys:List V}
theorem Inv.lset {aa its':List iX}{n:Nat}{f:Array iX->Array iX}{t':Nat}(I:Inv X pins σ H s)(hH:H l=rP (.lst xs))
  (e:s.heap.get? l=rP {cls:=.type "list",data:=.seq aa.toArray n}) (hf:f aa.toArray=its'.toArray) (hv:Vals ys its') (hz:ys.length<=jj) (ht:0<t':=by first |assumption |exact Inv.tk ‹_› |exact kn _ |(refine i6 ?_ ‹_›;exact Inv.tk ‹_›)|exact i6 (Inv.tk ‹_›) (jZ _ _)):
  Inv X pins σ (upd H l (.lst ys)) {s with heap:=s.heap.update l (oK f),toks:=t'}:=by
 have q:=PySem.IsL.update e f;rw[hf]at q;refine I.write (x:=l) (e:=l) (by rw[hH];exact trivial) (.inl rfl) (λb' u hb hu=>(ly s.heap (oK f) (mO hb)).trans hu) ⟨_,q⟩ ?_ ht
 exact⟨hz,its',_,hv,q⟩
theorem Inv.lnew {aa:List iX}{t':Nat}(I:Inv X pins σ H s)(hv:Vals ys aa)(hz:ys.length<=jj)(ht:0<t':=by first |assumption |exact Inv.tk ‹_› |exact kn _ |(refine i6 ?_ ‹_›;exact Inv.tk ‹_›)|exact i6 (Inv.tk ‹_›) (jZ _ _)):
  Inv X pins σ (upd H s.heap.objs.size (.lst ys)) {s with heap:=s.heap.push {cls:=.type "list",data:=.seq aa.toArray},toks:=t'}:=
 I.laid (λ_ _ q=>jo _ q) (jt _) ⟨hz,aa,0,hv,jO _ rfl⟩ ht
theorem Inv.fresh (I:Inv X pins σ H s):H s.heap.objs.size=rQ:=I.hok.fresh (jt _)
theorem Inv.lstM (I:Inv X pins σ H s)(hH:H l=rP (.lst xs)):xs.length<=jj/\∃(aa:List iX) (n:Nat),Vals xs aa/\xs.length=aa.length/\s.heap.get? l=rP {cls:=.type "list",data:=.seq aa.toArray n}:=by
 obtain⟨z,aa,n,r,e⟩:=I.hok l _ hH;exact⟨z,aa,n,r,r.length,e⟩
theorem notLongL {n:Nat}(h:n<=jj):mK n=rS:=by
 unfold mK;exact decide_eq_false (by lia)
end
section
variable {X:Cx}
def rAppend:V->List V->Hp->VK->Prop:=λx vs H Q=>∃l xs y,x=.ref l/\vs=[y]/\H l=rP (.lst xs)/\xs.length<jj/\Q .non (upd H l (.lst (xs++[y])))
theorem zbW_:MtM X "list.append" rAppend:=by
 intro pins s σ H x vs v us Q I rx rv h;obtain⟨l,xs,y,rfl,rfl,hH,hz,q⟩:=h;cases rx;obtain⟨u,rfl,ru⟩:=rv.one;obtain⟨z,aa,n,r,hl,e⟩:=I.lstM hH;refine call_meets F.slot_list_append ⟨_,e,rfl⟩ F.entry_list_append (F.args_list_append_2 _ _) (PySem.list_append l aa.toArray n u (by rw[jq];lia)) ⟨e,?_⟩
 refine⟨.non,_,I.lset (its':=aa++[u]) hH e (by simp) (r.append (.cons ru .nil)) ?_,rfl,q⟩
 rw[jC,oX];lia
def rCat:R2:=λx y H Q=>∃l b xs zs,x=.ref l/\y=.ref b/\H l=rP (.lst xs)/\H b=rP (.lst zs)/\xs.length+zs.length<=jj/\∀p,H p=rQ->Q (.ref p) (upd H p (.lst (xs++zs)))
theorem zm3_:OpR X (lO .Add) rCat:=by
 intro pins s σ H x y v u Q I rx ry h;obtain⟨l,b,xs,zs,rfl,rfl,hH,hB,hz,q⟩:=h;cases rx;cases ry;obtain⟨z,aa,n,r,hl,e⟩:=I.lstM hH;obtain⟨z2,au,n2,r2,hl2,e2⟩:=I.lstM hB;refine PySem.P.add_list e e2 ?_ (by rw[jq,jq];lia)
 have ea:aa.toArray++au.toArray=(aa++au).toArray:=by simp
 rw[ea];exact⟨.ref _,_,I.lnew (t':=s.toks) (r.append r2) (by rw[jC];lia),rfl,q _ I.fresh⟩
def rRep:R2:=λx y H Q=>∃l k xs,x=.ref l/\y=.int k/\H l=rP (.lst xs) /\ -(2 ^ 63)<=k/\k<2 ^ 63/\xs.length*k.toNat<=jj /\
 ∀p,H p=rQ->Q (.ref p) (upd H p (.lst (i8 k.toNat xs).flatten))
theorem zg6_ {α:Type}(xs:List α)(k:Nat):(i8 k xs).flatten.length=k*xs.length:=by
 induction k with
 |zero=>simp|succ k ih=>rw[ka,lI,jC,ih,Nat.succ_mul,Nat.add_comm]
theorem zok_:OpR X (lO .Mult) rRep:=by
 intro pins s σ H x y v u Q I rx ry h;obtain⟨l,k,xs,rfl,rfl,hH,h1,h2,hz,q⟩:=h;cases rx;obtain⟨t,rfl⟩:=ry;obtain⟨z,aa,n,r,hl,e⟩:=I.lstM hH;have hlen:aa.toArray.size*k.toNat<=jj:=by rw[jq,<- hl];exact hz
 have fM:¬aa.toArray.size*k.toNat > (2 ^ 63-1) / 8:=by
  have:(jj:Nat)<=(2 ^ 63-1) / 8:=by decide
  lia
 have fI:¬(!Builtin.List.listFitsIndex k)=rR:=by
  rw[fitsIndex_both h1 h2];exact kQ
 have dw:¬mK (aa.toArray.size*k.toNat)=rR:=by
  rw[notLongL hlen];exact kQ
 have fv:oM (λx1 x2=>x1++x2) #[] (i8 (if aa.toArray.isEmpty=rR then 0 else k.toNat) aa.toArray)=(i8 k.toNat aa).flatten.toArray:=by
  have f0:∀m:Nat,oM (λx1 x2=>x1++x2) #[] (i8 m aa.toArray)=(i8 m aa).flatten.toArray:=λm=>by
   have:=zc3_ aa m [];rw[lY]at this;exact this
  rw[f0];cases aa with
  |nil=>simp|cons a r'=>rw[if_neg (by simp)]
 refine wpAny_binaryOp_repeat_ref (T:="list") (U:="int") (by decide) ⟨_,e,rfl⟩ (λs'=>typeIs_int s' k t) noFill_list_mul F.fills_int_mul p8 repeat_list F.slot_int_index.lookup
  (call_meets p8 (typeIs_int s k t) F.entry_int_rmul (F.args_int_rmul_2 _ _) (int___rmul___int_list k t l aa.toArray n)
   ⟨e,rfl,⟨_,e,rfl⟩,call_meets F.slot_list_mul ⟨_,e,rfl⟩ F.entry_list_mul (F.args_list_mul_2 _ _) (AutoListH.list___mul___list_int_3 l aa.toArray n k t fI fM dw) ⟨e,?_⟩⟩)
 rw[fv];exact⟨.ref _,_,I.lnew (t':=s.toks) (r.rep k.toNat) (by rw[zg6_,qE];exact hz),rfl,q _ I.fresh⟩
end
end L2
namespace Att
open PySem PySem.W PySem.Calls PyProof.Rows
theorem zbo_ {P:Params}{h:Heap}:∀(ns:List Int) (vs:List iX),WellAll P h vs (ns.map WData.int)->IntsAre vs ns:=by
 intro ns;induction ns with
 |nil=>
  intro vs w;rw[mn]at w;cases w;exact .nil
 |cons n ns ih=>
  intro vs w;rw[ju]at w;cases w with
  |cons a b=>
   cases a;exact .cons _ _ (ih _ b)
theorem zge_ {l:OpenLaw}{n:Nat}(hn:l.most=rP n){P:Params}{h:Heap}{args:List WData}{vals:List iX}
  (bM:l.row.toRowW.claim.pre args=rR) (e_:WellAll P h vals args):
  ∃a vs ns,vals=[jQ a]/\args=[WData.list (ns.map WData.int)]/\h.get? a=rP {cls:=.type "list",data:=.seq vs.toArray}/\IntsAre vs ns/\ns.length<=n:=by
 have fj:WShape.hasAll [] args [.list .int]=rR:=(pre_splitW bM).1;have hc:l.pre.holds [] {args:=args}=rR:=(pre_splitW bM).2;obtain⟨d,r,rfl,h1,h2⟩:=hasAllW_cons fj;obtain rfl:=hasAllW_nil h2;obtain⟨xs,rfl,h3⟩:=hasW_list h1;obtain⟨ns,rfl⟩:=items_int h3;have hlen:ns.length<=n:=by
  unfold OpenLaw.pre at hc;have h4:(WTm.not (.lt (.lit (.int (n:Int))) (.len (.arg 0)))).holds [] {args:=[.list (ns.map .int)]}=rR:=by
   have h4:=(holds_andW hc).1;rw[hn]at h4;exact h4
  have h5:=condW_of h4 (w_not (w_lt w_lit (w_len_list (w_arg rfl))));rw[i7]at h5;refine pW λq=>?_
  have q':(n:Int)<((ns.length:Nat):Int):=by lia
  first
   |(rw[decide_eq_true q']at h5;exact absurd h5 (by decide))
   |(simp at h5;lia)
 cases e_ with
 |cons w1 w2=>
  cases w2;cases w1 with
  |list ho cp=>exact⟨_,_,ns,rfl,rfl,ho,zbo_ ns _ cp,hlen⟩
theorem zf4_ (l:OpenLaw)(args:List WData):l.row.toRowW.claim.post args (.bool rR) args=rR:=
 postW_of (r:=l.row.toRowW) (X:=(rR == rR))
  (show WShape.has [] (.bool rR) .bool=rR by first |rfl |decide |simp[WShape.has,WShape.arms,WShape.armsAll])
  (show(WTm.eq .res (.lit (.bool rR))).value [] {args:=args,res:=rP (.bool rR),after:=args}=rP (.bool (rR == rR))from w_eq_bool (w_res rfl) w_lit) rfl
section
end
end Att
namespace L2
open PySem PySem.Spec PyProof.Rows
theorem zdt_:∀{vs:List iX}{ns:List Int},IntsAre vs ns->Vals (ns.map V.int) vs
 |_,_,.nil=>.nil|_,_,.cons n t h=>.cons ⟨t,rfl⟩ (zdt_ h)
def Only (H:Hp):Prop:=∀b,H b=rQ\/(∃o xs,H b=rP (.frz o (.lst xs)))\/∃p q,H b=rP (.tbl p q)
theorem zhC_ {P:jL}{w:jU}{K:Fgg}{mg mb:Str->Option iX}{CX:CXT}{k:Nat}{fa a:i9}{fd:kZ}{x:Str}{sp:Sp}{ae:iY}{vs:List iX}{ns:List Int}
  (KX:K.In ae.heap) (a_:ae.heap.Ns jJ mg) (hb:ae.heap.Ns builtinsNs mb) (ia:∀x:Str,x ≠ "__name__" -> mb x=lP x) (fB:ae.heap.NoLimit) (h_:∃bm ob,mg "__builtins__"=rP (.ref bm)/\bm≠builtinsNs/\ae.heap.get? bm=rP ob/\ob.cls=.type "module" /\ ob.dict=rP builtinsNs/\ob.data=.plain) (hg:ae.gens=#[])
  (ha:ae.heap.get? a=rP {cls:=.type "list",data:=.seq vs.toArray}) (hi:IntsAre vs ns) (hl:ns.length<=jj) (hr:Room k callerA) (hx:[x]=lawPs)
  (F:∀base:Heap,K.In base->base.Ns jJ mg->FnOk P w K mg base CX k fa fd [x] sp) (dI:∀(s:iY) (u:iX),BindsTo s fd ⟨[u],[]⟩ [(x,u)])
  (bx:∀H:Hp,Only H->SqL K H a (ns.map V.int)->sp [.ref a] H (λv _=>v=.bl rR) λ_ _ _=>False)
  (fP:∀H e s',CX [] H ae (λ_ _ _=>False) e s'->False)
  (hT:∀Pt pos q,lamK K=rP (Pt,pos,q)->K.lookup Pt=rQ/\isCodeTable ae.heap Pt/\ae.heap.get? Pt=rP {cls:=.none,data:=.fields #[]}):
  codeAny (model P w) callerA (.call (.ref fa) ⟨[.ref a],[]⟩) (λr s'=>r=.ok (.ret (.bool rR))/\OldK ae.heap s'.heap/\s'.os=ae.os/\AllBare s'.gens) ae:=by
 have rv:=zdt_ hi;have eW:=hi.length
 have core:∀H:Hp,Only H->SqL K H a (ns.map V.int)->HOk P w H ae.heap->Tb K H->(∀b,H b≠rQ->b=a\/∃p q,lamK K=rP (b,p,q))->(H a≠rQ->K.lookup a=rQ) ->
   codeAny (model P w) callerA (.call (.ref fa) ⟨[.ref a],[]⟩) (λr s'=>r=.ok (.ret (.bool rR))/\OldK ae.heap s'.heap/\s'.os=ae.os/\AllBare s'.gens) ae:=by
  intro H hO hS hok ig hA hK;have aI:∀{b:i9}{o:qb},ae.heap.get? b=rP o->H b=rQ->(hidT ae.heap H).get? b=rP o:=λe n=>zhw_ e n
  have cQ:∀{b:i9}{o:qb}{es:Array DictEntry}{ep:Nat},ae.heap.get? b=rP o->o.data=.dict es ep->H b=rQ:=λ{b o es ep} e d=>by
   cases q:H b with
   |none=>rfl|some u=>
    rcases hA b (by rw[q];simp)with e' |⟨p',q',e'⟩
    ·subst e'
     rw[ha]at e;cases e;have d':Data.seq vs.toArray _=Data.dict es ep:=d;cases d'
    ·have z:=(hT _ _ _ e').2.2
     rw[z]at e;cases e;cases d
  have d7:∀{b:i9}{m:Str->Option iX},ae.heap.Ns b m->(hidT ae.heap H).Ns b m:=λ{b m} ⟨o,es,ep,e,d,r⟩=>⟨o,es,ep,aI e (cQ e d),d,r⟩
  have gm:K.In (hidT ae.heap H):=λb o e=>aI (KX b o e) (by
   cases q:H b with
   |none=>rfl|some u=>
    rcases hA b (by rw[q];simp)with e' |⟨p',q',e'⟩
    ·subst e'
     rw[hK (by rw[q];simp)]at e;cases e
    ·rw[(hT _ _ _ e').1]at e;cases e)
  have hM:Mod K mg (hidT ae.heap H):=⟨gm,d7 a_,⟨mb,d7 hb,ia⟩,let⟨mc,h1,h2⟩:=fB;⟨mc,d7 h1,h2⟩,by
   obtain⟨bm,ob,b1,b2,b3,b4,b5,b6⟩:=h_;refine⟨bm,ob,b1,b2,aI b3 ?_,b4,b5,b6⟩;cases q:H bm with
   |none=>rfl|some u=>
    rcases hA bm (by rw[q];simp)with e' |⟨p',q',e'⟩
    ·subst e'
     rw[ha]at b3;cases b3;have z:pH "list"=pH "module":=b4;injection z with z;exact absurd z (by decide)
    ·have z:=(hT _ _ _ e').2.2
     rw[z]at b3;cases b3;cases b4⟩
  have e0:Env0 P w K mg (hidT ae.heap H) callerA [] ae H:=⟨rfl,hM,λb o e=>zjX_ e,nB (zfw_ _ _),trivial,λb hb=>absurd (show b∈([]:List i9)from hb) (by simp),hok,.of_eq hg,ig⟩
  refine codeAny_mono ((F _ gm (d7 a_)).run callerA [] ae H ⟨[.ref a],[]⟩ [.ref a] [.ref a] _ _ hr e0 (.inr hx) (dI ae (.ref a)) (.cons rfl .nil) (bx H hO hS)) λr s' h=>?_
  cases r with
  |error e=>exact(fP H e s' h).elim|ok fl=>
   cases fl with
   |next=>exact jM h|brk=>exact jM h|cont=>exact jM h|ret u=>
    obtain⟨v,H',os,bare,un,hok',_,r',q⟩:=h;have q':v=.bl rR:=q;subst q';obtain rfl:u=my rR:=r';have both:∀b o,ae.heap.get? b=rP o->asItWas ae.heap s'.heap b o/\∃o',s'.heap.get? b=rP o':=λb o e=>by
     cases q:H b with
     |none=>
      have z:=un.keep b o e q (by intro z;exact absurd (show b∈([]:List i9)from z) (by simp)) (by simp)
      exact⟨.inl z,_,z⟩
     |some u=>
      rcases hO b with z |⟨ob,xs,z⟩|⟨p',q',z⟩
      ·rw[q]at z;cases z
      ·have z2:=un.frzs b ob _ z
       obtain⟨e1,_⟩:=hok b _ z;obtain⟨e2,_⟩:=hok' b _ z2;rw[e]at e1;cases e1;exact⟨.inl e2,_,e2⟩
      ·obtain⟨ps,e2,_⟩:=hok' b _ (un.tbls b p' q' z)
       rcases hA b (by rw[q];simp)with e' |⟨p1,q1,e'⟩
       ·subst e'
        obtain⟨iQ,e3,_⟩:=hok b _ z;rw[ha]at e3;cases e3
       ·obtain⟨_,ht,e3⟩:=hT _ _ _ e'
        rw[e]at e3;cases e3;exact⟨.inr (.inl ⟨ht,rfl,#[],ps,rfl,by rw[Array.empty_append];exact e2⟩),_,e2⟩
    exact⟨rfl,⟨λb o e=>(both b o e).1,λb o e=>(both b o e).2⟩,os,bare⟩
 obtain⟨T,t1,t2,t3⟩:∃T:Hp,Tb K T/\(∀b u,T b=rP u->∃p q,lamK K=rP (b,p,q)/\u=.tbl p q)/\T a=rQ:=by
  cases hq:lamK K with
  |none=>exact⟨λ_=>rQ,λ_ _ _ e=>(by rw[hq]at e;cases e),λ_ _ e=>(by cases e),rfl⟩|some z=>
   obtain⟨Pt,pos,q⟩:=z;have na:a≠Pt:=λz=>by
    have e:=(hT _ _ _ hq).2.2;rw[<- z,ha]at e;cases e
   refine⟨λb=>if b=Pt then rP (.tbl pos q)else rQ,λ_ _ _ e=>(by rw[hq]at e;cases e;exact if_pos rfl),λb u e=>?_,if_neg na⟩
   by_cases hb:b=Pt
   ·have e':=(if_pos hb).symm.trans e
    cases e';exact⟨pos,q,by rw[hb],rfl⟩
   ·have e':=(if_neg hb).symm.trans e
    cases e'
 have de:∀(H:Hp) b p q,lamK K=rP (b,p,q)->ObjOk P w H ae.heap b (.tbl p q):=λH b p q e=>
  ⟨#[],(hT _ _ _ e).2.2,lx,λcv z=>by cases z⟩
 cases hk:K.lookup a with
 |some o=>
  have e:=KX a o hk;rw[ha]at e;cases e;refine core T (λb=>?_) (.inr ⟨_,vs.toArray,_,hk,rfl,rfl,rfl,by rw[jq,eW];exact hl,by simpa using rv⟩) (λb u z=>?_) t1 (λb z=>?_) λz=>absurd t3 z
  ·cases q:T b with
   |none=>exact .inl rfl|some u=>obtain⟨p',q',_,rfl⟩:=t2 b u q;exact .inr (.inr ⟨p',q',rfl⟩)
  ·obtain⟨p',q',e1,rfl⟩:=t2 b u z;exact de _ _ _ _ e1
  ·cases q:T b with
   |none=>exact absurd q z|some u=>obtain⟨p',q',e1,rfl⟩:=t2 b u q;exact .inr ⟨p',q',e1⟩
 |none=>
  refine core (upd T a (.frz {cls:=.type "list",data:=.seq vs.toArray} (.lst (ns.map V.int)))) (λb=>?_) (.inl (.inr ⟨{cls:=.type "list",data:=.seq vs.toArray},zj_⟩)) (λb u z=>?_) (λp' pos q e=>?_) (λb z=>?_) λ_=>hk
  ·by_cases hb:b=a
   ·rw[hb];exact .inr (.inl ⟨_,_,zj_⟩)
   ·rw[zv_ hb]
    cases q:T b with
    |none=>exact .inl rfl|some u=>obtain⟨p',q',_,rfl⟩:=t2 b u q;exact .inr (.inr ⟨p',q',rfl⟩)
  ·by_cases hb:b=a
   ·subst hb
    rw[zj_]at z;cases z;exact⟨ha,by rw[i7];exact hl,vs,_,rv,ha⟩
   ·rw[zv_ hb]at z
    obtain⟨p',q',e1,rfl⟩:=t2 b u z;exact de _ _ _ _ e1
  ·have z:=t1 p' pos q e
   rw[zv_ (λw=>by rw[w,t3]at z;cases z)];exact z
  ·by_cases hb:b=a
   ·exact .inl hb
   ·rw[zv_ hb]at z
    cases q:T b with
    |none=>exact absurd q z|some u=>obtain⟨p',q',e1,rfl⟩:=t2 b u q;exact .inr ⟨p',q',e1⟩
def lamOk (q:jL)(K:Fgg):Bool:=match lamK K with
 |none=>rR|some (P,_,_)=>(K.lookup P).isNone && ((recsOf q).find? λe=>e.name==(oJ "put_in_order")).isSome
theorem zi6_ {p:jL}{K:Fgg}{h:Heap}{loose:List Str}{eV:ExcName->Option iX}{mg mb:Str->Option iX}(T:Top p loose eV mg mb h)(X:K.In h)(hq:lamOk p K=rR):
  ∀Pt pos q,lamK K=rP (Pt,pos,q)->K.lookup Pt=rQ/\isCodeTable h Pt/\h.get? Pt=rP {cls:=.none,data:=.fields #[]}:=λPt pos q e=>by
 unfold lamOk at hq;rw[e]at hq;obtain⟨h1,h2⟩:=jP.mp hq;obtain⟨d,hd⟩:=j6.mp h2;obtain⟨c,ht⟩:∃c,W.tabIn K "put_in_order"=rP (c,Pt):=by
  obtain⟨q',h3,e⟩:=jv.mp e;obtain⟨fd,_,e⟩:=jv.mp e;obtain⟨p',_,e⟩:=jz.mp e;cases e;exact⟨_,h3⟩
 obtain⟨a,b⟩:=W.tab_of T X hd ht;exact⟨kf.mp h1,(a.tab b).isCodeTable,b⟩
noncomputable def inClass (s:kq)(j:Nat):kq:=match s with
 |.ClassDef _ _ _ body _ _ _ _ _ _ _=>body.getD j (.Pass ⟨0,0,0,0⟩)|_=>.Pass ⟨0,0,0,0⟩
noncomputable def defArgs (s:kq):Arguments:=match s with
 |.FunctionDef _ a _ _ _ _ _ _ _ _=>a|_=>{posonlyargs:=[],args:=[],vararg:=rQ,kwonlyargs:=[],kw_defaults:=[],kwarg:=rQ,defaults:=[]}
noncomputable def defBody (s:kq):List kq:=match s with
 |.FunctionDef _ _ b _ _ _ _ _ _ _=>b|_=>[]
noncomputable def defScope (s:kq):Scope:=match s with
 |.FunctionDef _ _ _ _ _ _ sc _ _ _=>sc|_=>{kind:=.function,names:=[],isGenerator:=rS,isCoroutine:=rS}
abbrev CX0:CXT:=λ_ _ _ _ _ _=>False
abbrev E0:XK:=λ_ _ _=>False
structure Fun (K:Fgg)(x qual:Str)(st:kq)(f:i9)(fd:kZ):Prop where
 ex:∃(oc:iX) (od:Option i9) (kV doc pm:iX) (an:Option i9) (ai ct:iX) (aA:Array (Option iX)),
  fd=W.fnOf x qual (defArgs st) (defBody st) (defScope st) .none kV doc pm an ai ct/\K.lookup f=rP ⟨oc,od,.func fd,aA⟩/\oj K ai qual=rR
 kp:mh K (.ref f)=rR
section
variable {K:Fgg}
theorem Fun.binds {x qual:Str}{st:kq}{f:i9}{fd:kZ}{ps:List Str}(F:Fun K x qual st f fd)
  (h:∀(kV doc pm:iX) (an:Option i9) (ai ct:iX) (us:List iX),us.length=ps.length->bindArgs (W.fnOf x qual (defArgs st) (defBody st) (defScope st) .none kV doc pm an ai ct) ⟨us,[]⟩=pure (ps.zip us)):Binds K fd ps []:=by
 obtain⟨oc,od,kV,doc,pm,an,ai,ct,aA,rfl,lk,bc⟩:=F.ex;exact .all (h kV doc pm an ai ct)
theorem zlK_ {x qual:Str}{st:kq}{f:i9}{oc:iX}{od an:Option i9}{aA:Array (Option iX)}{kV doc pm ai ct:iX}(l:K.lookup f=rP ⟨oc,od,.func (W.fnOf x qual (defArgs st) (defBody st) (defScope st) .none kV doc pm an ai ct),aA⟩)
  (c:oj K ai qual=rR) (k:mh K (.ref f)=rR):Fun K x qual st f (W.fnOf x qual (defArgs st) (defBody st) (defScope st) .none kV doc pm an ai ct):=⟨⟨oc,od,kV,doc,pm,an,ai,ct,aA,rfl,l,c⟩,k⟩
end
def Same (H H':Hp):Prop:=∀b o,H b=rP o->H' b=rP o
theorem Same.refl (H:Hp):Same H H:=λ_ _ h=>h
theorem Same.trans {H H1 H2:Hp}(a:Same H H1)(b:Same H1 H2):Same H H2:=λc o h=>b c o (a c o h)
theorem Same.free {H H':Hp}(e:Same H H'){l:i9}(h:H' l=rz):H l=rz:=by
 cases q:H l with
 |none=>rfl|some o=>
  rw[e l o q]at h;cases h
theorem Same.seq {K:Fgg}{H H':Hp}{a:i9}{xs:List V}(e:Same H H')(h:SqL K H a xs):SqL K H' a xs:=by
 rcases h with(h |⟨o,h⟩)|h
 ·exact .inl (.inl (e _ _ h))
 ·exact .inl (.inr ⟨o,e _ _ h⟩)
 ·exact .inr h
noncomputable def Itp (n:Nat)(f:Nat->V):It:=⟨λi _=>i<n,λi H x H'=>H'=H/\x=f i,λi _=>n<=i⟩
noncomputable def ownTups:List String:=["enumerate", "zip", "dict_itemiterator", "dict_reverseitemiterator", "odict_iterator", "itertools.zip_longest", "itertools.pairwise"]
theorem zfY_ {P:jL}{w:jU}{K:Fgg}{tg:jw}{it:i9}{n:Nat}{f:Nat->V}{Pw:Nat->iX->Prop}{St:Nat->Heap->Prop}
  (W:∀A:jW,A.handled=rQ->Walks P w A it [it] [it] n Pw St) (hv:∀i v,i<n->Pw i v->RelV (f i) v)
  (ho:∀i h,St i h->∃o nm vs,h.get? it=rP o/\o.cls=.type nm/\o.data=.fields vs/\ownTups.contains nm=rS)
  (c_:∀(A:jW) (i:Nat) (s:iY) (Q:iX->iY->Prop) (E:iX->iY->Prop),St i s.heap->Q (.ref it) s->jD (model P w) A (pyIter (.ref it)) Q E s)
  (dA:∀i h h',St i h->(∀b∈[it],∀o,h.get? b=rP o->h'.get? b=rP o)->St i h'):
  Turn P w K tg (Itp n f) [it] it (λi h=>i<=n/\St i h) where
 mem:=by simp
 obj:=λi h st b hb=>by
  grind
 keep:=λi h h' st k=>⟨st.1,dA i h h' st.2 k⟩
 item:=by
  intro X hP hw hK hc i pins s σ H E I hf st hg;subst hP hw hK;obtain⟨f0,f1,f2,f3,f4,f5⟩:=hf it (by simp)
  have hi:i<n:=hg;refine zz_ ((W X.A (I.ok.hd hc)).item i s _ _ hi st.2 λv h' tk bX bq kk hk=>?_)
  have I1:Inv X pins σ H {s with heap:=h',toks:=tk}:=I.turned (λb o hb e=>kk b o (by simpa using hb) e) f0 f1 f3 f4 f5
  obtain⟨o,nm,vs,e,c,d,hn⟩:=ho _ _ bq;exact⟨_,rfl,zl2_ (s:={s with heap:=h',toks:=tk}) (n:=nm) e c d hn ⟨f i,H,I1,hv i v hi bX,⟨rfl,rfl⟩,⟨hi,bq⟩,λb hb=>(hf b hb).1⟩⟩
 done:=by
  intro X hP hw hK hc i pins s σ H E I hf st hg;subst hP hw hK;obtain⟨f0,f1,f2,f3,f4,f5⟩:=hf it (by simp)
  have hi:n<=i:=hg;have e:i=n:=Nat.le_antisymm st.1 hi;subst e;exact zz_ ((W X.A (I.ok.hd hc)).done s _ _ st.2 λh' tk kk hk=>⟨rfl,I.turned (λb o hb e=>kk b o (by simpa using hb) e) f0 f1 f3 f4 f5⟩)
 self:=λA i s Q E st h=>c_ A i s Q E st.2 h
def sgn (x:Str)(i:Nat):V:=.str ⟨#[x.cps.getD i 0]⟩
theorem zfX_ {P:jL}{w:jU}{it:i9}{x:Str}{t:Tok}(A:jW)(hA:A.handled=rQ):Walks P w A it [it] [it] x.cps.size (SignAt x) (λi h=>h.IsStrIter it (lH x) x t i):=by
 cases ha:x.cps.all (·<128)
 ·have e:lH x="str_iterator":=by simp[lH,ha]
  rw[e];exact Walks.strWide hA it x t
 ·have e:lH x="str_ascii_iterator":=by simp[lH,ha]
  rw[e];exact Walks.strAscii hA it x t
theorem zdK_ {x:Str}{i:Nat}{v:iX}(h:SignAt x i v):RelV (sgn x i) v:=by
 obtain⟨c,u,e,rfl⟩:=h;refine⟨u,?_⟩;have:x.cps.getD i 0=c:=by simp[nD,e]
 rw[this]
theorem zbU_ (x:Str):ownTups.contains (lH x)=rS:=by
 unfold lH;split<;>decide
theorem zhj_ {P:jL}{w:jU}{K:Fgg}{tg:jw}(it:i9)(x:Str)(t:Tok):Turn P w K tg (Itp x.cps.size (sgn x)) [it] it (λi h=>i<=x.cps.size/\h.IsStrIter it (lH x) x t i):=by
 refine zfY_ (Pw:=SignAt x) (λA hA=>zfX_ A hA) (λi v _ h=>zdK_ h) (λi h st=>?_) (λA i s Q E st h=>?_) (λi h h' st k=>?_)
 ·obtain⟨o,e,c,d⟩:=st
  exact⟨o,_,_,e,c,d,zbU_ x⟩
 ·cases ha:x.cps.all (·<128)
  ·have e:lH x="str_iterator":=by simp[lH,ha]
   rw[e]at st;exact wpAny_pyIter_striter_wide st h
  ·have e:lH x="str_ascii_iterator":=by simp[lH,ha]
   rw[e]at st;exact wpAny_pyIter_striter_ascii st h
 ·obtain⟨o,e,r⟩:=st
  exact⟨o,k it (by simp) o e,r⟩
section
variable {prog:jL}{w:jU}{A:jW}{R:Result->iY->Prop}{s:iY}
theorem zdy_ {elt target iter:jw}{ifs:List jw}{scope:Scope}{pos:Pos}{it acc:iX}{env:Env}(I:Nat->iY->Prop)
  (turn:∀n s,I n s->jD (model prog w) A (pyNext it) (λr ae=>match r with
   |none=>R (.ok .next) ae| some v=>jD (model prog w) A (letOwnedTupleGo target it v) (λ_ ay=>jD (model prog w) A (assign target env v) (λ_ av=>
     jD (model prog w) A (forIn ifs rR λc r=>if r=rR then do let ok <- isTrue c env (eval c env);pure (ForInStep.yield ok)else pure (ForInStep.yield r)) (λok bp=>
      if ok=rR then jD (model prog w) A (eval elt env) (λx cK=>
       jD (model prog w) A (call (.builtin "list.append") [acc,x]) (λ_ cJ=>∃m,m<n/\I m cJ) (λ_ _=>False) cK) (λ_ _=>False) bp
      else∃m,m<n/\I m bp) (λ_ _=>False) av) (λ_ _=>False) ay) (λ_ _=>False) ae) (λ_ _=>False) s)
  (n:Nat) (h:I n s):
  codeAny (model prog w) A (.compLoop (.ListComp elt [⟨target,iter,ifs,0⟩] scope pos) 0 it acc env) R s:=by
 refine codeAny_loop rfl I (λn s hI=>?_) n h
 show jD _ A ((compTurn (.ListComp elt [⟨target,iter,ifs,0⟩] scope pos) 0 it acc env).onRaise (λx=>do noteFrame x env;theTreesLotGoes x)) _ _ s
 refine wpAny_noted ?_;rw[compTurn_list];refine iZ (wpAny_standAt (iZ (ke (turn n s hI) (λr ae aF=>?_) λ_ _ h'=>h'.elim)))
 cases r with
 |none=>exact jy aF|some v=>
  refine iZ (ke aF (λ_ ay bw=>?_) λ_ _ h'=>h'.elim)
  refine iZ (ke bw (λ_ av bu=>iZ (ke bu (λok bp cY=>?_) λ_ _ h'=>h'.elim)) λ_ _ h'=>h'.elim)
  cases ok with
  |false=>exact jy ⟨rfl,cY⟩|true=>
   exact iZ (iZ (ke cY (λx cK eZ=>iZ (ke eZ (λ_ cJ eY=>jy (jy ⟨rfl,eY⟩)) λ_ _ h'=>h'.elim)) λ_ _ h'=>h'.elim))
end
noncomputable def closeL (cells:List (Str×i9)):List (Str×lT)->List (Str×i9)->Option (List (Str×i9))
 |[],acc=>rP acc|(n,k)::r,acc=>if(k == .free)=rR then(match cells.lookup n with |some c=>closeL cells r ((n,c)::acc)|none=>rQ)else closeL cells r acc
theorem zbi_ {env:Env}{f:Str×lT->List (Str×i9)->Sem (ForInStep (List (Str×i9)))}
  (hf:∀n k cs,f (n,k) cs=if(k == NameKind.free)=rR then(do let c <- cellOf env n;pure (ForInStep.yield ((n,c)::cs)))else pure (ForInStep.yield cs)):
  ∀(names:List (Str×lT)) (acc cl:List (Str×i9)),closeL env.cells names acc=rP cl->(forIn names acc f:Sem (List (Str×i9)))=pure cl
 |[],acc,cl,h=>by cases h;rfl
 |(n,k)::r,acc,cl,h=>by
  rw[p5,hf];unfold closeL at h;by_cases hk:(k == NameKind.free)=rR
  ·rw[if_pos hk]at h
   rw[if_pos hk];cases hc:env.cells.lookup n with
   |none=>rw[hc]at h;cases h|some c=>
    rw[hc]at h;have e:cellOf env n=pure c:=by unfold cellOf;rw[hc]
    rw[e];simp only[pure_bind];exact zbi_ hf r _ cl h
  ·rw[if_neg hk]at h
   rw[if_neg hk];simp only[pure_bind];exact zbi_ hf r _ cl h
theorem zdl_ {env:Env}{scope:Scope}{cl:List (Str×i9)}(h:closeL env.cells scope.names []=rP cl):closureFor scope env=pure cl:=by
 unfold closureFor;dsimp only;rw[zbi_ (env:=env) (λn k cs=>rfl) scope.names [] cl h]
 rfl
theorem zaI_ {cells:List (Str×i9)}:∀(names:List (Str×lT)) (acc cl:List (Str×i9)),closeL cells names acc=rP cl->(∀x c,acc.lookup x=rP c->cells.lookup x=rP c) ->
  (∀x c,cl.lookup x=rP c->cells.lookup x=rP c)
 |[],acc,cl,h,ha=>by cases h;exact ha
 |(n,k)::r,acc,cl,h,ha=>by
  unfold closeL at h;by_cases hk:(k == NameKind.free)=rR
  ·rw[if_pos hk]at h
   cases hc:cells.lookup n with
   |none=>rw[hc]at h;cases h|some c=>
    rw[hc]at h;refine zaI_ r _ cl h λx c' e=>?_
    grind
  ·rw[if_neg hk]at h
   exact zaI_ r _ cl h ha
theorem zaJ_ {cells:List (Str×i9)}:∀(names:List (Str×lT)) (acc cl:List (Str×i9)),closeL cells names acc=rP cl->∀x,((x,NameKind.free)∈names\/∃c,acc.lookup x=rP c)->∃c,cl.lookup x=rP c
 |[],acc,cl,h,x,hx=>by
  cases h;rcases hx with hx |hx
  ·cases hx
  ·exact hx
 |(n,k)::r,acc,cl,h,x,hx=>by
  unfold closeL at h;by_cases hk:(k == NameKind.free)=rR
  ·rw[if_pos hk]at h
   cases hc:cells.lookup n with
   |none=>rw[hc]at h;cases h|some c=>
    rw[hc]at h;refine zaJ_ r _ cl h x ?_;grind
  ·rw[if_neg hk]at h
   refine zaJ_ r _ cl h x ?_;grind
theorem zan_ {scope:Scope}{env:Env}{x:Str}{k:lT}(h:(relabel scope env).names.lookup x=rP k)(hk:k=.cell\/k=.free)(bC:∀y∈scope.names,y.2≠.cell):(x,NameKind.free)∈scope.names:=by
 have m:=lB h;obtain⟨⟨n,k0⟩,hm,e⟩:=j4.mp m;grind
def cxComp (X:Cx)(scope:Scope)(cl:List (Str×i9))(C:i9)(N:List Str)(fp:List i9)(s2:iY)(H2:Hp):Cx where
 prog:=X.prog
 w:=X.w
 K:=X.K
 mg:=X.mg
 base:=X.base
 A:=X.A
 N:=N
 s₀:=s2
 H₀:=H2
 env:=compEnvC scope cl C X.env
 outer:=X.stack
 stack:=X.stack
 ex:=fp
 fn:=λ_=>rS
 calm:=X.calm
 pn:=[]
 xe:=λ_ _=>False
structure CScope (X:Cx)(scope:Scope)(cl:List (Str×i9))(lv:List Str)(fr:List (Str×Nat)):Prop where
 clos:closeL X.env.cells scope.names []=rP cl
 cell:∀y∈scope.names,y.2≠.cell
 kind:scope.kind=.function
 names:∀z∈scope.names,z.2=.local->scope.names.lookup z.1=rP .local
 fr:∀q∈fr,X.N[q.2]?=rP q.1/\(q.1,NameKind.free)∈scope.names/\(X.env.kindOf q.1=rP .cell\/X.env.kindOf q.1=rP .free) /\
  ((relabel scope X.env).names.lookup q.1=rP .cell\/(relabel scope X.env).names.lookup q.1=rP .free)
noncomputable def cN (lv:List Str)(fr:List (Str×Nat)):List Str:=lv++fr.map (·.1)
def cS (lv:List Str)(fr:List (Str×Nat))(σ:St):St:=lv.map (λ_=>rQ)++fr.map λq=>(σ[q.2]?).join
theorem zib_ {X:Cx}{pins:Pnn}{σ:St}{H2:Hp}{s2:iY}{scope:Scope}{cl:List (Str×i9)}{lv:List Str}{fr:List (Str×Nat)}{fp:List i9}{h4:Heap}{tk:Nat}{m:Str->Option iX}{n:Nat}
  (I:Inv X pins σ H2 s2) (S:CScope X scope cl lv fr) (hf:∀b∈fp,FpOk X pins H2 b) (aN:∀b∈fp,b<s2.heap.objs.size) (hC:h4.Ns (s2.heap.objs.size+1) m) (hD:h4.get? s2.heap.objs.size=rP {cls:=.type "list",data:=.seq #[] n})
  (hk:∀b o,s2.heap.get? b=rP o->h4.get? b=rP o) (ht:0<tk:=by first |assumption |exact Inv.tk ‹_› |exact kn _ |(refine i6 ?_ ‹_›;exact Inv.tk ‹_›)|exact i6 (Inv.tk ‹_›) (jZ _ _)):
  Inv (cxComp X scope cl (s2.heap.objs.size+1) (cN lv fr) fp s2 H2) [] (cS lv fr σ) (upd H2 s2.heap.objs.size (.lst [])) {s2 with heap:=h4,toks:=tk}:=by
 have aY:=zaI_ scope.names [] cl S.clos (λx c e=>by cases e)
 have dB:=zaJ_ scope.names [] cl S.clos;have iq:H2 s2.heap.objs.size=rQ:=I.hok.fresh (jt _);have eG:H2 (s2.heap.objs.size+1)=rQ:=I.hok.fresh (pb _);have iu:s2.heap.objs.size+1≠s2.heap.objs.size:=pO (m6 _);have iG:∀b∈fp,(b∈X.ex\/X.s₀.heap.objs.size<=b):=λb hb=>(hf b hb).2.2.2.1
 have cA:∀x c,cl.lookup x=rP c->c<s2.heap.objs.size:=λx c e=>by
  obtain⟨v,o,ho,_⟩:=I.cell x c (aY x c e);exact jF ho
 refine⟨⟨I.ok.mod,S.kind,I.ok.glob,I.ok.blt,pb _,λx y c h1 h2=>I.ok.inj x y c (aY x c h1) (aY y c h2),λx hx=>?_,λx c dC=>(by cases dC),I.ok.hd,I.ok.frames,.inl rfl,λb hb=>?_,I.bs,ki I.ok.bsz I.sz,λb o e hb=>?_,λb hb z=>?_,I.stack,I.stkFree,I.tb⟩,
  rfl,I.bare,?_,⟨m,hC,λi x v h1 h2 h3=>?_⟩,λx c e=>?_,?_,λx c e=>?_,λp hp=>absurd (show p∈([]:Pnn)from hp) (by simp),?_,?_,ht⟩
 ·-- has
  have gQ:(relabel scope X.env).names.lookup x=rP .cell\/(relabel scope X.env).names.lookup x=rP .free:=hx;have hm:(x,NameKind.free)∈scope.names:=gQ.elim (λz=>zan_ z (.inl rfl) S.cell) λz=>zan_ z (.inr rfl) S.cell
  exact dB x (.inl hm)
 ·-- exf
  obtain⟨f0,f1,f2,f3,f4,f5⟩:=hf b hb;refine⟨λz=>?_,λx c e=>f4 x c (aY x c e)⟩
  have z':b=s2.heap.objs.size+1:=z;have:=aN b hb;grind
 ·rcases iG b hb with z |z
  ·exact I.ok.noex b o e z
  ·exact absurd (i6 (i6 (jF e) I.ok.bsz) z) (mG _)
 ·obtain⟨f0,f1,f2,_⟩:=hf b hb
  rcases jK.mp (I.stkSub b z)with q |q
  ·exact f1 q
  ·exact f2 q
 ·exact Un.laid hk (jt _) iq
 ·-- loc
  have h1':(lv++fr.map (·.1))[i]?=rP x:=h1;have dO:(lv.map (λ_=>rQ)++fr.map λq=>(σ[q.2]?).join:St)[i]?=rP (rP v):=h2
  by_cases hi:i<lv.length
  ·grind
  ·rw [kR (by simpa using hi),jB]at dO
   rw[kR (by lia),jB]at h1'
   simp only[i7]at dO;cases hq:fr[i-lv.length]? with
   |none=>rw[hq]at h1';cases h1'|some q=>
    rw[hq]at h1' dO;have e1:q.1=x:=j8 h1';have e2:(σ[q.2]?).join=rP v:=j8 dO;have e3:σ[q.2]?=rP (rP v):=by
     grind
    obtain⟨g1,g2,g3,g4⟩:=S.fr q (l6 hq);obtain⟨m0,hn0,dz⟩:=I.loc;have gJ:Vis X.env.scope q.1:=by
     rcases g3 with g3 |g3
     ·exact .inr (.inl g3)
     ·exact .inr (.inr g3)
    obtain⟨u,r,l⟩:=dz q.2 q.1 v g1 e3 gJ;refine⟨u,r,.inr ⟨?_,?_⟩⟩
    ·rw[<- e1];exact g4
    ·rcases l with⟨lk,_⟩|⟨_,c,ec,ic⟩
     ·rcases g3 with g3 |g3<;>(rw[lk]at g3;cases g3)
     ·obtain⟨c',ec'⟩:=dB q.1 (.inl g2)
      have:c'=c:=by
       grind
      subst this;obtain⟨o,ho,hd⟩:=ic;exact⟨c',by rw[<- e1];exact ec',o,hk _ _ ho,hd⟩
 ·obtain⟨v,o,ho,hd⟩:=I.cell x c (aY x c e)
  exact⟨v,o,hk _ _ ho,hd⟩
 ·show upd H2 _ _ (s2.heap.objs.size+1)=rQ
  rw[zv_ iu];exact eG
 ·have:=cA x c e
  rw[zv_ (jT this)];exact I.freeC x c (aY x c e)
 ·exact I.hok.laid hk (jt _) ⟨lZ _,[],n,.nil,hD⟩
 ·show(cS lv fr σ).length=(cN lv fr).length
  simp[cS,cN]
def PIf (X:Cx)(ifs:List jw)(t:TT):Prop:=
 ∀(pins:Pnn) (s:iY) (σ:St) (H:Hp) (Q:Bool->Hp->Prop),Inv X pins σ H s->t σ H Q ->
  jD (model X.prog X.w) X.A (forIn ifs rR λc r=>if r=rR then do let ok <- isTrue c X.env (eval c X.env);pure (ForInStep.yield ok)else pure (ForInStep.yield r)) (TP X pins σ Q) X.xe s
def tTrue:TT:=λ_ H Q=>Q rR H
theorem zkI_ {X:Cx}:PIf X [] tTrue:=λpins s σ H Q I h=>wpAny_tests_nil ⟨H,I,h⟩
theorem zlc_ {X:Cx}{c:jw}{t:TT}(h:PT X c t):PIf X [c] t:=λpins s σ H Q I hw=>wpAny_tests_one (h pins s σ H Q I hw)
def tCompR (J:It)(g:TG)(tt:TT)(te:TE)(gH:St)(H1:Hp)(Q:VK):Prop:=
 ∀ D,H1 D=rQ->∃W:Nat->Nat->List V->St->Hp->Prop,(∃m,W 0 m [] gH (upd H1 D (.lst [])))/\∀i m ys σ H,W i m ys σ H ->
  (J.stop i H/\Q (.ref D) H)\/(J.go i H/\∃N:List V->St->Hp->Prop,(∀cB af H',N cB af H'->∃m',m'<m/\W (i+1) m' cB af H') /\
   ∀x H',J.yld i H x H'->g x σ H' λbG H2=>tt bG H2 λb H3=>if b=rR then te bG H3 λv H4=>H4 D=rP (.lst ys)/\ys.length<jj/\N (ys++[v]) bG (upd H4 D (.lst (ys++[v])))else N ys bG H3)
section
variable {X:Cx}{scope:Scope}{cl:List (Str×i9)}{lv:List Str}{fr:List (Str×Nat)}{elt tg iter:jw}{ifs:List jw}{pos:Pos}{g:TG}{tt:TT}{te:TE}
theorem zci_ {pins:Pnn}{σ:St}{H2:Hp}{s2:iY}{it:i9}{fp:List i9}{tn:Nat->Heap->Prop}{J:It}{Q:VK}{E:iX->iY->Prop}{use:Option (iX->Sem Unit)}{Q':iX->iY->Prop}
  (I:Inv X pins σ H2 s2) (S:CScope X scope cl lv fr) (T:Turn X.prog X.w X.K tg J fp it tn) (st:tn 0 s2.heap) (hf:∀b∈fp,FpOk X pins H2 b) (hc:X.calm=rR)
  (hg:∀C fp s2 H2,PG (cxComp X scope cl C (cN lv fr) fp s2 H2) tg g) (ht:∀C fp s2 H2,PIf (cxComp X scope cl C (cN lv fr) fp s2 H2) ifs tt) (he:∀C fp s2 H2,PE (cxComp X scope cl C (cN lv fr) fp s2 H2) elt te)
  (hq:tCompR J g tt te (cS lv fr σ) H2 Q)
  (fin:∀D C oC H' s',Inv X (pins++[(C,oC)]) σ H' s'->(∀h:Heap,h.get? C=rP oC->∃m,h.Ns C m)->FpOk X pins H' C->Q (.ref D) H'->compPost (model X.prog X.w) X.A E use Q' (.ref D) C (.ok .next) s'):
  jD (model X.prog X.w) X.A (newList []) (λacc av=>jD (model X.prog X.w) X.A (newFunctionEnv scope X.env.globals cl [] X.env.qual rQ .none (rP X.env)) (λdR bp=>
   codeAny (model X.prog X.w) X.A (.compStart (.ListComp elt [⟨tg,iter,ifs,0⟩] scope pos) 0 (.ref it) acc {dR with scope:=relabel scope X.env}) (compPost (model X.prog X.w) X.A E use Q' acc dR.locals) bp) E av) E s2:=by
 have aN:∀b∈fp,b<s2.heap.objs.size:=λb hb=>by
  obtain⟨o,ho,_⟩:=T.obj 0 _ st b hb;exact jF ho
 refine wpAny_newList (wpAny_newFunctionEnv S.cell (by intro y hy;simp at hy) (λaF aS aH=>?_) S.kind)
 dsimp only at aS aH ⊢;have hsz:(s2.heap.push {cls:=.type "list",data:=.seq ([]:List iX).toArray}).objs.size=s2.heap.objs.size+1:=o8 ..;rw[hsz]at aS aH ⊢;have old:∀b o,s2.heap.get? b=rP o->aF.get? b=rP o:=λb o e=>aH.extBut b o (jT (pQ (jF e))) (jo _ (jo _ e))
 have bR:aF.get? s2.heap.objs.size=rP {cls:=.type "list",data:=.seq #[]}:=aH.extBut _ _ (jT (m6 _)) (jo _ (jO _ rfl));have I4:Inv (cxComp X scope cl (s2.heap.objs.size+1) (cN lv fr) fp s2 H2) [] (cS lv fr σ) (upd H2 s2.heap.objs.size (.lst [])) {s2 with heap:=aF,toks:=s2.toks+([]:List (Str×iX)).length}:=
  zib_ I S hf aN aS bR old
 generalize aP:cxComp X scope cl (s2.heap.objs.size+1) (cN lv fr) fp s2 H2=X' at I4
 have eP:X'.prog=X.prog:=by rw[<- aP];rfl
 have ew:X'.w=X.w:=by rw[<- aP];rfl
 have eK:X'.K=X.K:=by rw[<- aP];rfl
 have eA:X'.A=X.A:=by rw[<- aP];rfl
 have ec:X'.calm=rR:=by rw[<- aP];exact hc
 have ex:X'.xe=λ_ _=>False:=by rw[<- aP];rfl
 have cy:X'.env=compEnvC scope cl (s2.heap.objs.size+1) X.env:=by rw[<- aP];rfl
 have hJ:PG X' tg g:=aP ▸ hg _ _ _ _;have gS:PIf X' ifs tt:=aP ▸ ht _ _ _ _;have hW:PE X' elt te:=aP ▸ he _ _ _ _;obtain⟨W,⟨m0,w0⟩,turn⟩:=hq s2.heap.objs.size (I.hok.fresh (jt _));have fZ:tn 0 aF:=T.keep _ _ _ st λb _ o e=>old b o e
 have f4:∀b∈fp,FpOk X' [] (upd H2 s2.heap.objs.size (.lst [])) b:=λb hb=>by
  obtain⟨f0,f1,f2,f3,f4,f5⟩:=hf b hb;have:=aN b hb;refine⟨?_,?_,?_,.inl ?_,?_,?_⟩
  ·rw[zv_ (jT this)];exact f0
  ·rw[cy];exact jT (pQ this)
  ·intro z
   have z':b∈frs X.stack:=by rw[<- aP]at z;exact z
   rcases jK.mp (I.stkSub b z')with q |q
   ·exact f1 q
   ·exact f2 q
  ·rw[<- aP];exact hb
  ·intro x c e
   rw[cy]at e;exact f4 x c (zaI_ scope.names [] cl S.clos (λx c e=>by cases e) x c e)
  ·intro p hp
   rw[<- aP]at hp;exact absurd (show p∈([]:Pnn)from hp) (by simp)
 have aR:∀{H':Hp},(∀b∈fp,H' b=rQ)->∀b∈fp,FpOk X' [] H' b:=λhn b hb=>⟨hn b hb,(f4 b hb).2⟩
 have loop:∀av:iY,av={s2 with heap:=aF,toks:=s2.toks+([]:List (Str×iX)).length} ->
   codeAny (model X.prog X.w) X.A (.compLoop (.ListComp elt [⟨tg,iter,ifs,0⟩] scope pos) 0 (.ref it) (.ref s2.heap.objs.size) (compEnvC scope cl (s2.heap.objs.size+1) X.env))
    (compPost (model X.prog X.w) X.A E use Q' (.ref s2.heap.objs.size) (s2.heap.objs.size+1)) av:=by
  rintro av rfl;refine zdy_ (λn s'=>∃i ys af H',Inv X' [] af H' s'/\tn i s'.heap/\(∀b∈fp,H' b=rQ)/\W i n ys af H') ?_ m0 ⟨0,[],_,_,I4,fZ,λb hb=>(f4 b hb).1,w0⟩
  rintro n s3 ⟨i,ys,bg,H3,I3,st3,fr3,w3⟩;rcases turn i n ys bg H3 w3 with⟨stop,qn⟩|⟨go,N,hN,step⟩
  ·have a0:=T.done X' eP ew eK ec i [] s3 bg H3 (λ_ _=>False) I3 (aR fr3) st3 stop
   rw[eA]at a0;refine thn a0 λr s4 ah=>?_
   obtain⟨hr,I4'⟩:=ah;subst hr;have un:Un (frs X.stack) fp H2 H3 s2.heap s4.heap:=by
    have:=I4'.base;rw[<- aP]at this;exact this
   have os:s4.os=s2.os:=by
    have:=I4'.os;rw[<- aP]at this;exact this
   have hok:HOk X.prog X.w H3 s4.heap:=by
    have:=I4'.hok;rw[<- aP]at this;exact this
   have J1:Inv X pins σ H3 s4:=I.call' os un hok I4'.bare λb hb=>by
    obtain⟨f0,f1,f2,f3,f4,f5⟩:=hf b hb;exact⟨f3,f1,f4,f5⟩
   obtain⟨m,hn,_⟩:=I4'.loc;have fw:s4.heap.Ns (s2.heap.objs.size+1) m:=by rw[cy]at hn;exact hn
   have eG:H3 (s2.heap.objs.size+1)=rQ:=by
    have:=I4'.free;rw[cy]at this;exact this
   have fC:FpOk X pins H3 (s2.heap.objs.size+1):=I.fpOk (pb _) eG;obtain⟨oC,es,ep,hoC,hdC,rC⟩:=id fw;have J2:Inv X (pins++[(s2.heap.objs.size+1,oC)]) σ H3 s4:=J1.pins_of λp hp=>by
    rcases kg.mp hp with hp |hp
    ·exact J1.pin p (jr _ hp)
    ·have e:p=(s2.heap.objs.size+1,oC):=by simpa using hp
     subst e;exact⟨hoC,eG,fC.2.1,fC.2.2.1,λv z=>by rw[hdC]at z;cases z⟩
   exact fin _ _ oC H3 s4 J2 (λh e=>⟨m,oC,es,ep,e,hdC,rC⟩) fC qn
  ·have a0:=T.item X' eP ew eK ec i [] s3 bg H3 (λ_ _=>False) I3 (aR fr3) st3 go
   rw[eA]at a0;refine thn a0 λr s4 ah=>?_
   obtain⟨u,hr,h4⟩:=ah;subst hr;refine thn h4 λ_ s5 ah=>?_
   obtain⟨x,H5,I5,r5,y5,st5,fr5⟩:=ah;have fW:=I5.pinned (aR fr5) (T.obj _ _ st5);have a1:=hJ _ s5 bg H5 x u _ fW r5 (step x H5 y5);rw[eP,ew,eA,cy,ex]at a1;refine thn a1 λ_ s6 ah=>?_
   obtain⟨bF,H6,I6,q6⟩:=ah;have a2:=gS _ s6 bF H6 _ I6 q6;rw[eP,ew,eA,cy,ex]at a2;refine thn a2 λok s7 ah=>?_
   obtain⟨H7,I7,q7⟩:=ah;have again:∀{dU:List V}{H7:Hp}{s7:iY},Inv X' ([]++pinsAt fp s5.heap) bF H7 s7->N dU bF H7->∃m,m<n/\∃i ys af H',Inv X' [] af H' s7/\tn i s7.heap/\(∀b∈fp,H' b=rQ)/\W i m ys af H':=λ{dU H7 s7} I7 n7=>by
    obtain⟨m',hm,w7⟩:=hN dU bF H7 n7;refine⟨m',hm,i+1,dU,bF,H7,I7.unpinned,T.keep _ _ _ st5 λb hb o e=>(I7.pin (b,o) (jr _ (jr _ (zaN_ hb e)))).1,λb hb=>?_,w7⟩
    obtain⟨o,e,d⟩:=T.obj _ _ st5 b hb;exact(I7.pin (b,o) (jr _ (jr _ (zaN_ hb e)))).2.1
   cases ok with
   |false=>exact again I7 q7|true=>
    have a3:=hW _ s7 bF H7 _ I7 q7;rw[eP,ew,eA,cy,ex]at a3;refine thn a3 λy s8 ah=>?_
    obtain⟨v,H8,I8,r8,hD8,hl8,n8⟩:=ah;have a4:=zbW_ (X:=X') _ s8 bF H8 (.ref s2.heap.objs.size) [v] (.ref s2.heap.objs.size) [y] (λ_ H9=>N (ys++[v]) bF H9) I8 rfl (.cons r8 .nil) ⟨_,_,_,rfl,rfl,hD8,hl8,n8⟩
    rw[eP,ew,eA,ex]at a4;refine thn a4 λ_ s9 ah=>?_
    obtain⟨v9,H9,I9,_,n9⟩:=ah;exact again I9 n9
 exact codeAny_compStart_list (loop _ rfl) (T.self _ 0 _ _ _ fZ (loop _ rfl))
def tComp (lv:List Str)(fr:List (Str×Nat))(wi:TI)(g:TG)(tt:TT)(te:TE):TE:=λσ H Q=>wi σ H λJ H1=>tCompR J g tt te (cS lv fr σ) H1 Q
theorem zj5_ {wi:TI}(hc:X.calm=rR)(S:CScope X scope cl lv fr)(hi:PI X tg iter wi)
  (hg:∀C fp s2 H2,PG (cxComp X scope cl C (cN lv fr) fp s2 H2) tg g) (ht:∀C fp s2 H2,PIf (cxComp X scope cl C (cN lv fr) fp s2 H2) ifs tt) (he:∀C fp s2 H2,PE (cxComp X scope cl C (cN lv fr) fp s2 H2) elt te)
  (hs:∀x,foldedSetIterable iter X.env x=pure x:=by intro _;rfl):PE X (.ListComp elt [⟨tg,iter,ifs,0⟩] scope pos) (tComp lv fr wi g tt te):=by
 intro pins s σ H Q I h;rw[eval_ListComp];refine wpAny_comprehension_free (use:=rQ) rfl hs (zdl_ S.clos) S.kind S.names ?_;refine thn (hi pins s σ H _ I h) λv s1 h1=>thn h1 λd9 s2 h2=>?_
 obtain⟨it,fp,tn,J,H2,e,I2,T,st2,f2,q⟩:=h2;subst e;refine zci_ I2 S T st2 f2 hc hg ht he q λD C oC H' s' J1 fO fC qD=>?_
 have hp:=J1.pin (C,oC) (jr _ (jr _ (jS.mpr rfl)));obtain⟨m,hm⟩:=fO s'.heap hp.1;refine⟨m,hm,λh' fm=>?_⟩
 exact⟨.ref D,H',J1.unpinned.turned (t':=s'.toks) (λb o hb e=>(fm.2 b hb).trans e) fC.1 fC.2.1 fC.2.2.2.1 fC.2.2.2.2.1 fC.2.2.2.2.2,rfl,qD⟩
theorem zez_ {wi:TI}{j:Nat}{y:Str}{py cM:Pos}(hc:X.calm=rR)(S:CScope X scope cl lv fr)(hi:PI X tg iter wi)
  (hg:∀C fp s2 H2,PG (cxComp X scope cl C (cN lv fr) fp s2 H2) tg g) (ht:∀C fp s2 H2,PIf (cxComp X scope cl C (cN lv fr) fp s2 H2) ifs tt) (he:∀C fp s2 H2,PE (cxComp X scope cl C (cN lv fr) fp s2 H2) elt te)
  (hy:PG X (.Name y py) (gName j))
  (gT:swapsWith (.ListComp elt [⟨tg,iter,ifs,0⟩] scope pos) (rP (.Name y py)) cM.line X.env=pure rR:=by rfl)
  (hs:∀x,foldedSetIterable iter X.env x=pure x:=by intro _;rfl):PS X (.Assign [.Name y py] (.ListComp elt [⟨tg,iter,ifs,0⟩] scope pos) cM) (tAsg (tComp lv fr wi g tt te) (gName j)):=by
 intro pins s σ H D I h;rw[exec_Assign_Name_used _ _ _ _ gT];refine iZ (wpAny_standAt (iZ ?_));show jD _ X.A (do let _ <- comprehension (.ListComp elt [⟨tg,iter,ifs,0⟩] scope pos) scope X.env _ (newList []) rS (eval iter X.env) (rP (assign (.Name y py) X.env))) _ _ s
 refine iZ (ke (wpAny_comprehension_free (use:=rP (assign (.Name y py) X.env)) (Q:=λ_ s'=>SP X pins D .next s') rfl hs (zdl_ S.clos) S.kind S.names ?_) (λ_ s' hq=>jy (jy hq)) λ_ _ e=>e)
 refine thn (hi pins s σ H _ I h) λv s1 h1=>thn h1 λd9 s2 h2=>?_
 obtain⟨it,fp,tn,J,H2,e,I2,T,st2,f2,q⟩:=h2;subst e;refine zci_ I2 S T st2 f2 hc hg ht he q λD' C oC H' s' J1 fO fC qD=>?_
 show jD _ X.A (assign (.Name y py) X.env (.ref D')) _ _ _
 refine thn (hy _ s' σ H' (.ref D') (.ref D') _ J1 rfl qD) λ_ s3 ah=>?_
 obtain⟨bg,H3,I3,q3⟩:=ah;have hp:=I3.pin (C,oC) (jr _ (jr _ (jS.mpr rfl)));obtain⟨m,hm⟩:=fO s3.heap hp.1;refine⟨m,hm,λh' fm=>?_⟩
 have dQ:FpOk X pins H3 C:=⟨hp.2.1,fC.2⟩;exact⟨bg,H3,I3.unpinned.turned (t':=s3.toks) (λb o hb e=>(fm.2 b hb).trans e) dQ.1 dQ.2.1 dQ.2.2.2.1 dQ.2.2.2.2.1 dQ.2.2.2.2.2,q3⟩
end
noncomputable abbrev tx (l:List Nat):V:=.str ⟨l.toArray⟩
def br (b:Bool)(A B:Prop):Prop:=(b=rR->A)/\(b=rS->B)
theorem ze6_ (a b:Str):a++b=⟨(a.cps.toList++b.cps.toList).toArray⟩:=by
 cases a;cases b;show Str.mk (_++_)=_
 simp
theorem z0_ (a:Str):a=⟨a.cps.toList.toArray⟩:=by cases a;simp
def cutL (l:List Nat)(lo hi:Option Int):List Nat:=(l.drop (HT.sIx l.length 0 lo)).take (HT.sIx l.length l.length hi-HT.sIx l.length 0 lo)
theorem zbb_ (lo hi:Option Int)(n:Nat):j5 lo hi 1 n=sliceRange ((HT.sIx n 0 lo:Nat):Int) ((HT.sIx n n hi:Nat):Int) 1:=by
 unfold j5;simp only[show(1:Int) > 0 by decide,if_true]
 congr 1
 ·cases lo with
  |none=>simp[HT.sIx]|some i=>
   simp only[HT.sIx];grind
 ·cases hi with
  |none=>simp[HT.sIx]|some i=>
   simp only[HT.sIx];grind
theorem zdP_ (x:Str)(lo hi:Option Int):(j5 lo hi 1 x.length).filterMap (x.cps[·]?)=cutL x.cps.toList lo hi:=by
 rw[zbb_,sliceRange_one,pick_run];unfold cutL k9;simp only[lM]
theorem zbS_ (l:List Nat)(lo hi:Option Int):(cutL l lo hi).length<=l.length:=by
 unfold cutL;rw[j7,kx];lia
theorem zf8_ {l:List Nat}{lo hi:Option Int}(h:(cutL l lo hi).length=l.length):cutL l lo hi=l:=by
 unfold cutL at h ⊢;rw[j7,kx]at h;have h1:HT.sIx l.length l.length hi<=l.length:=HT.sIx_le _ _ (jt _) _;by_cases hl:l.length=0
 ·grind
 ·have h2:HT.sIx l.length 0 lo=0:=by lia
  rw[h2,pd,mU];lia
section
variable {X:Cx}
def rSlS:V->Option Int->Option Int->Hp->VK->Prop:=λx lo hi H Q=>match x with |.str z=>z.length<=jj/\Q (tx (cutL z.cps.toList lo hi)) H |_=>False
theorem zav_ {v:iX}{o:Option Int}(p:IsPart v o):∃l:Option (Int×Tok),v=partValue l/\l.map (·.1)=o:=by
 cases p with
 |none=>exact⟨rQ,rfl,rfl⟩|int i t=>exact⟨rP (i,t),rfl,rfl⟩
theorem znG_:SlR X rSlS:=by
 intro pins s σ H x v vl vu lo hi sl Q I rx hs pl pu h;cases x with
 |str z=>
  obtain⟨hz,q⟩:=h;obtain⟨t,rfl⟩:=rx;obtain⟨l,rfl,rfl⟩:=zav_ pl;obtain⟨u,rfl,rfl⟩:=zav_ pu;refine⟨"str",_,pI.lookup,typeIs_str _ _ _,?_⟩;refine wpAny_getItem_str_slice (l:=l) (u:=u) (st:=rQ) hs rfl ?_;unfold sliceMade;have e:slicePicked z l u rQ=j5 (l.map (·.1)) (u.map (·.1)) 1 z.length:=rfl;rw[e];have hlen:(j5 (l.map (·.1)) (u.map (·.1)) 1 z.length).length=(cutL z.cps.toList (l.map (·.1)) (u.map (·.1))).length:=by
   rw[zbb_,sliceRange_one,i7,kl];unfold cutL;rw[j7,kx];have h1:HT.sIx z.length z.length (u.map (·.1))<=z.length:=HT.sIx_le _ _ (jt _) _;have h2:z.cps.toList.length=z.length:=by simp[k9]
   rw[h2];lia
  split
  ·rename_i hc
   have bj:(cutL z.cps.toList (l.map (·.1)) (u.map (·.1))).length=z.cps.toList.length:=by
    rw[<- hlen]
    simpa [k9]using hc
   rw[zf8_ bj]at q;have q':Q (.str z) H:=by rw[z0_ z];exact q
   exact⟨.str z,H,I,⟨_,rfl⟩,q'⟩
  ·rw[zdP_]
   have h3:=zbS_ z.cps.toList (l.map (·.1)) (u.map (·.1));have h2:z.cps.toList.length=z.length:=by simp[k9]
   refine⟨?_,tx (cutL z.cps.toList (l.map (·.1)) (u.map (·.1))),H,I.tok _,⟨_,rfl⟩,q⟩;show(cutL z.cps.toList (l.map (·.1)) (u.map (·.1))).toArray.size<=jj
   grind
 |_=>exact h.elim
end
def mVar (i:Nat):TE:=λσ H Q=>match σ[i]? with |some (rP v)=>Q v H |_=>False
section
variable {X:Cx}{a b c:jw}{ta tb tc:TE}{pos:Pos}
theorem zgZ_ (i:Nat){x:Str}{pos:Pos}(hN:X.N[i]?=rP x:=by rfl)(hv:Vis X.env.scope x:=by first |exact Or.inl rfl |exact Or.inr (Or.inl rfl)|exact Or.inr (Or.inr rfl))(hd:(x==("__debug__":Str))=rS:=by decide)
  (bc:(x==("__classdict__":Str))=rS:=by decide):PE X (.Name x pos) (mVar i):=by
 intro pins s σ H Q I h;unfold mVar at h;cases e:σ[i]? with
 |none=>rw[e]at h;exact h.elim|some o=>
  rw[e]at h;cases o with
  |none=>exact h.elim|some v=>exact zmi_ hN hv hd bc pins s σ H Q I ⟨v,e,h⟩
theorem zoE_ {x:Str}{l:List Nat}{j pos}(h:x=⟨l.toArray⟩:=by rfl):PE X (.Constant (.str x) j pos) (tC (tx l)):=h ▸ zmv_
def mAdd:R2:=λx y H Q=>match x,y with
 |.int i,.int j=>Q (.int (i+j)) H|.str a,.str b=>a.cps.toList.length+b.cps.toList.length<=jj/\Q (tx (a.cps.toList++b.cps.toList)) H|.ref a,.ref b=>∃xs zs,H a=rP (.lst xs)/\H b=rP (.lst zs)/\xs.length+zs.length<=jj/\∀p,H p=rQ->Q (.ref p) (upd H p (.lst (xs++zs)))|_,_=>False
theorem zjK_:OpR X (lO .Add) mAdd:=by
 intro pins s σ H x y v u Q I rx ry h
 cases x<;>cases y<;>first
  |exact h.elim
  |exact zmH_ pins s σ H _ _ v u Q I rx ry ⟨_,_,rfl,rfl,h⟩
  |exact zfi_ pins s σ H _ _ v u Q I rx ry ⟨_,_,rfl,rfl,by simpa [k9]using h.1,by rw[ze6_];exact h.2⟩
  |(obtain⟨xs,zs,h1,h2,h3,h4⟩:=h;exact zm3_ pins s σ H _ _ v u Q I rx ry ⟨_,_,xs,zs,rfl,rfl,h1,h2,h3,h4⟩)
def mI (C:Int->Int->Prop)(g:Int->Int->V):R2:=λx y H Q=>match x,y with |.int i,.int j=>C i j/\Q (g i j) H |_,_=>False
def mI0 (g:Int->Int->V):R2:=λx y H Q=>match x,y with |.int i,.int j=>Q (g i j) H |_,_=>False
theorem opM {f:iX->iX->Sem iX}{C:Int->Int->Prop}{g:Int->Int->V}(h:OpR X f (rI C g)):OpR X f (mI C g):=by
 intro pins s σ H x y v u Q I rx ry q;cases x<;>cases y<;>first |exact q.elim |exact h pins s σ H _ _ v u Q I rx ry ⟨_,_,rfl,rfl,q.1,q.2⟩
theorem opM0 {f:iX->iX->Sem iX}{g:Int->Int->V}(h:OpR X f (rI0 g)):OpR X f (mI0 g):=by
 intro pins s σ H x y v u Q I rx ry q;cases x<;>cases y<;>first |exact q.elim |exact h pins s σ H _ _ v u Q I rx ry ⟨_,_,rfl,rfl,q⟩
abbrev mMod:R2:=mI (λ_ j=>0<j) λi j=>.int (i % j)
abbrev mPow:R2:=mI CPow λi j=>.int (i ^ j.toNat)
theorem zjg_:OpR X (lO .Mod) mMod:=opM zmX_
theorem zkm_:OpR X (lO .Pow) mPow:=opM znQ_
abbrev mLt:R2:=mI0 λi j=>.bl (decide (i<j))
abbrev mLe:R2:=mI0 λi j=>.bl (decide (i<=j))
abbrev mGt:R2:=mI0 λi j=>.bl (decide (j<i))
theorem zmd_:OpR X (jX .Lt) mLt:=opM0 op_lt
theorem zoI_:OpR X (jX .LtE) mLe:=opM0 op_le
theorem znA_:OpR X (jX .Gt) mGt:=opM0 op_gt
noncomputable def mIsB (x y:V):Option Bool:=match y with
 |.non=>rP (decide (x=.non))|.bl b=>(match x with |.bl a=>rP (decide (a=b))|_=>rQ)|_=>rQ
def mIsNot:R2:=λx y H Q=>match mIsB x y with |some b=>Q (.bl (!b)) H |none=>False
theorem zdD_ {M:Model}{A:jW}{E:iX->iY->Prop}{s:iY}{a b:Bool}{Q:iX->iY->Prop}(h:Q (.bool (!decide (a=b))) s):jD M A (jX .IsNot (.bool a) (.bool b)) Q E s:=by
 cases a<;>cases b<;>exact jy h
theorem zfq_:OpR X (jX .IsNot) mIsNot:=by
 intro pins s σ H x y v u Q I rx ry h;unfold mIsNot mIsB at h;cases y with
 |non=>exact zkO_ pins s σ H x _ v u Q I rx ry ⟨rfl,h⟩|bl b=>
  cases x with
  |bl a=>cases rx;cases ry;exact zdD_ ⟨.bl _,H,I,rfl,h⟩|_=>exact h.elim
 |_=>exact h.elim
noncomputable def inS (l:List Nat)(t:List Nat):Bool:=match l with |[c]=>decide (c∈t)|_=>!(mf ⟨t.toArray⟩ ⟨l.toArray⟩ 0 t.length 1).isEmpty
theorem zg4_ (a b:Str):(!(mf b a 0 b.length 1).isEmpty)=inS a.cps.toList b.cps.toList:=by
 have e:b.length=b.cps.toList.length:=by simp[k9]
 unfold inS;split
 ·rename_i c hc
  have ea:a=⟨#[c]⟩:=by rw[z0_ a,hc]
  rw[ea];exact StrLaws.found_one b c
 ·rw[<- z0_,<- z0_,e]
def mIn (K:Fgg)(neg:Bool):R2:=λx y H Q=>match y with
 |.str b=>(match x with |.str a=>Q (.bl (if neg then !inS a.cps.toList b.cps.toList else inS a.cps.toList b.cps.toList)) H |_=>False)|.ref p=>∃xs,(SqL K H p xs\/SqT K H p xs)/\flatV x=rR/\xs.all flatV=rR/\Q (.bl (if neg then !inV x xs else inV x xs)) H|_=>False
theorem zoq_:OpR X (jX .In) (mIn X.K rS):=by
 intro pins s σ H x y v u Q I rx ry h;unfold mIn at h;cases y with
 |str b=>
  cases x with
  |str a=>exact zfS_ pins s σ H _ _ v u Q I rx ry ⟨_,_,rfl,rfl,by rw[zg4_];exact h⟩|_=>exact h.elim
 |ref p=>
  obtain⟨xs,h1,h2,h3,h4⟩:=h;exact zgh_ pins s σ H _ _ v u Q I rx ry ⟨_,xs,rfl,h1,h2,h3,h4⟩
 |_=>exact h.elim
theorem zfC_:OpR X (jX .NotIn) (mIn X.K rR):=by
 intro pins s σ H x y v u Q I rx ry h;unfold mIn at h;cases y with
 |str b=>
  cases x with
  |str a=>exact zcB_ pins s σ H _ _ v u Q I rx ry ⟨_,_,rfl,rfl,by rw[zg4_];exact h⟩|_=>exact h.elim
 |ref p=>
  obtain⟨xs,h1,h2,h3,h4⟩:=h;exact zcN_ pins s σ H _ _ v u Q I rx ry ⟨_,xs,rfl,h1,h2,h3,h4⟩
 |_=>exact h.elim
def mTest (t:TE):TT:=λσ H Q=>t σ H λx H'=>match x with |.bl k=>Q k H' |_=>False
def mAndV (ta tb:TE):TE:=λσ H Q=>ta σ H λx H1=>match x with |.bl c=>br c (tb σ H1 Q) (Q (.bl rS) H1)|_=>False
def mOrV (ta tb:TE):TE:=λσ H Q=>ta σ H λx H1=>match x with |.bl c=>br c (Q (.bl rR) H1) (tb σ H1 Q)|_=>False
def mNotV (ta:TE):TE:=λσ H Q=>ta σ H λx H1=>match x with |.bl c=>Q (.bl (!c)) H1 |_=>False
def mAnd (t u:TT):TT:=λσ H Q=>t σ H λc H1=>br c (u σ H1 Q) (Q rS H1)
def mOr (t u:TT):TT:=λσ H Q=>t σ H λc H1=>br c (Q rR H1) (u σ H1 Q)
variable {rest:List jw}{tA dX:TT}
theorem zg9_ (ha:PE X a ta)(hb:PE X (.BoolOp .And (b::rest) pos) tb):PE X (.BoolOp .And (a::b::rest) pos) (mAndV ta tb):=by
 intro pins s σ H Q I h;refine BoolOp_and (thn (ha pins s σ H _ I h) λv s1 ah=>?_)
 obtain⟨x,H1,I1,r1,q1⟩:=ah;cases x with
 |bl c=>
  cases r1;refine kz ?_;cases c with
  |true=>exact hb pins s1 σ H1 Q I1 (q1.1 rfl)|false=>exact⟨.bl rS,H1,I1,rfl,q1.2 rfl⟩
 |_=>exact q1.elim
theorem zjt_ (ha:PE X a ta)(hb:PE X (.BoolOp .Or (b::rest) pos) tb):PE X (.BoolOp .Or (a::b::rest) pos) (mOrV ta tb):=by
 intro pins s σ H Q I h;refine BoolOp_or (thn (ha pins s σ H _ I h) λv s1 ah=>?_)
 obtain⟨x,H1,I1,r1,q1⟩:=ah;cases x with
 |bl c=>
  cases r1;refine kz ?_;cases c with
  |false=>exact hb pins s1 σ H1 Q I1 (q1.2 rfl)|true=>exact⟨.bl rR,H1,I1,rfl,q1.1 rfl⟩
 |_=>exact q1.elim
theorem zlI_ (ha:PE X a ta):PE X (.UnaryOp .Not a pos) (mNotV ta):=by
 intro pins s σ H Q I h;refine UnaryOp_ (thn (ha pins s σ H _ I h) λv s1 ah=>?_)
 obtain⟨x,H1,I1,r1,q1⟩:=ah;cases x with
 |bl c=>cases r1;exact not_of (kz ⟨.bl (!c),H1,I1,rfl,q1⟩)|_=>exact q1.elim
theorem zgU_ (ha:PT X a tA)(hb:PW X (.BoolOp .And (b::rest) pos) dX):PW X (.BoolOp .And (a::b::rest) pos) (mAnd tA dX):=by
 intro wh pins s σ H Q I h;refine isTrue_and (thn (ha pins s σ H _ I h) λc s1 ah=>?_)
 obtain⟨H1,I1,q1⟩:=ah;cases c with
 |true=>exact hb wh pins s1 σ H1 Q I1 (q1.1 rfl)|false=>exact⟨H1,I1,q1.2 rfl⟩
theorem zkp_ (ha:PT X a tA)(hb:PW X (.BoolOp .Or (b::rest) pos) dX):PW X (.BoolOp .Or (a::b::rest) pos) (mOr tA dX):=by
 intro wh pins s σ H Q I h;refine isTrue_or (thn (ha pins s σ H _ I h) λc s1 ah=>?_)
 obtain⟨H1,I1,q1⟩:=ah;cases c with
 |true=>exact⟨H1,I1,q1.1 rfl⟩|false=>exact hb wh pins s1 σ H1 Q I1 (q1.2 rfl)
theorem zjC_ {e:jw}{t:TE}(h:PE X e t)(he:∀whole,isTrue e X.env whole=(do let v <- whole;standAt e.pos;holding [v] (truthy v)):=by intro _;rfl):PT X e (mTest t):=by
 intro pins s σ H Q I hw;refine isTrue_plain (thn (h pins s σ H _ I hw) λv s1 ah=>?_) (he _)
 obtain⟨x,H1,I1,r1,q1⟩:=ah;cases x with
 |bl c=>cases r1;exact kz ⟨H1,I1,q1⟩|_=>exact q1.elim
theorem zjq_ {op:CmpOp}{r:R2}(ho:OpR X (jX op) r)(ha:PE X a ta)(hb:PE X b tb)(hm:behindInMarks op b=rS:=by first |exact nobehind _ (by decide) (by decide)|rfl):PT X (.Compare a [op] [b] pos) (mTest (tOp r ta tb)):=by
 intro pins s σ H Q I hw;refine wpAny_isTrue_Compare1 (binT ha hb I hw λv u s2 x y H2 I2 rx ry q=>?_) hm
 refine thn (ho pins s2 σ H2 x y v u _ I2 rx ry q) λc s3 ah=>?_
 obtain⟨z,H3,I3,r3,q3⟩:=ah;cases z with
 |bl k=>cases r3;exact kz ⟨H3,I3,q3⟩|_=>exact q3.elim
theorem zls_ {op:CmpOp}{r:R2}(ho:OpR X (jX op) r)(ha:PE X a ta)(hb:PE X b tb)(hm:behindInMarks op b=rS:=by first |exact nobehind _ (by decide) (by decide)|rfl):PE X (.Compare a [op] [b] pos) (tOp r ta tb):=zjv_ ho ha hb hm
def mIf (t:TT)(ta tb:TE):TE:=λσ H Q=>t σ H λc H1=>br c (ta σ H1 Q) (tb σ H1 Q)
theorem zos_ {c:jw}(hc:PT X c tA)(ha:PE X a ta)(hb:PE X b tb):PE X (.IfExp c a b pos) (mIf tA ta tb):=by
 intro pins s σ H Q I h;refine wpAny_IfExp (thn (hc pins s σ H _ I h) λd s1 ah=>?_)
 obtain⟨H1,I1,q1⟩:=ah;cases d with
 |true=>exact ha pins s1 σ H1 Q I1 (q1.1 rfl)|false=>exact hb pins s1 σ H1 Q I1 (q1.2 rfl)
def mIfS (c:TT)(t u:TS):TS:=λD σ H=>c σ H λb H1=>br b (t D σ H1) (u D σ H1)
theorem ziM_ {c:jw}{a b:List kq}{tc:TT}{t u:TS}(hc:PT X c tc)(ha:PSs X a t)(hb:PSs X b u):PS X (.If c a b pos) (mIfS tc t u):=by
 intro pins s σ H D I h;refine wpAny_If (thn (hc pins s σ H _ I h) λd s1 ah=>?_)
 obtain⟨H1,I1,q1⟩:=ah;cases d with
 |true=>exact ha pins s1 σ H1 D I1 (q1.1 rfl)|false=>exact hb pins s1 σ H1 D I1 (q1.2 rfl)
def mChain (r r':R2)(ta tb tc:TE):TE:=λσ H Q=>ta σ H λx H1=>tb σ H1 λy H2=>r x y H2 λz H3=>match z with |.bl k=>br k (tc σ H3 λw H4=>r' y w H4 Q) (Q (.bl rS) H3)|_=>False
theorem zfV_ {op bt:CmpOp}{r r':R2}(ho:OpR X (jX op) r)(aX:OpR X (jX bt) r')(ha:PE X a ta)(hb:PE X b tb)(hc:PE X c tc)
  (hm:lastMarks [op,bt] [b,c]=rS:=by with_unfolding_all rfl):PE X (.Compare a [op,bt] [b,c] pos) (mChain r r' ta tb tc):=by
 intro pins s σ H Q I h;refine Compare_chain (thn (ha pins s σ H _ I h) λv s1 ⟨x,H1,I1,r1,q1⟩=>chain_link (thn (hb pins s1 σ H1 _ I1 q1) λu s2 ⟨y,H2,I2,r2,q2⟩=>
  thn (ho pins s2 σ H2 x y v u _ I2 r1 r2 q2) λd s3 ⟨z,H3,I3,r3,q3⟩=>?_)) hm
 cases z with
 |bl k=>
  cases r3;refine kz ?_;cases k with
  |false=>exact ite_ff ⟨.bl rS,H3,I3,rfl,q3.2 rfl⟩|true=>exact ite_tt (chain_last (thn (hc pins s3 σ H3 _ I3 (q3.1 rfl)) λw' s4 ⟨z',H4,I4,r4,q4⟩=>aX pins s4 σ H4 y z' u w' Q I4 r2 r4 q4))
 |_=>exact q3.elim
theorem zgq_ {op bt:CmpOp}{r r':R2}(ho:OpR X (jX op) r)(aX:OpR X (jX bt) r')(ha:PE X a ta)(hb:PE X b tb)(hc:PE X c tc)
  (hm:lastMarks [op,bt] [b,c]=rS:=by with_unfolding_all rfl):PT X (.Compare a [op,bt] [b,c] pos) (mTest (mChain r r' ta tb tc)):=by
 intro pins s σ H Q I h;refine isTrue_chain (thn (ha pins s σ H _ I h) λv s1 ⟨x,H1,I1,r1,q1⟩=>test_link (thn (hb pins s1 σ H1 _ I1 q1) λu s2 ⟨y,H2,I2,r2,q2⟩=>
  thn (ho pins s2 σ H2 x y v u _ I2 r1 r2 q2) λd s3 ⟨z,H3,I3,r3,q3⟩=>?_)) hm
 cases z with
 |bl k=>
  cases r3;refine kz ?_;cases k with
  |false=>exact ite_ff ⟨H3,I3,q3.2 rfl⟩|true=>
   refine ite_tt (test_last (thn (hc pins s3 σ H3 _ I3 (q3.1 rfl)) λw' s4 ⟨z',H4,I4,r4,q4⟩=>thn (aX pins s4 σ H4 y z' u w' _ I4 r2 r4 q4) λd' s5 ah=>?_))
   obtain⟨z2,H5,I5,r5,q5⟩:=ah;cases z2 with
   |bl k2=>cases r5;exact kz ⟨H5,I5,q5⟩|_=>exact q5.elim
 |_=>exact q3.elim
end
section
variable {X:Cx}{a b c e:jw}{ta:TE}{t:TA}
def mIx (K:Fgg):R2:=λx y H Q=>match y with
 |.int i=>(match x with
  |.ref p=>∃xs,(SqL K H p xs\/SqT K H p xs)/\(match atI xs i with |some v=>Q v H |none=>False)|.str z=>z.cps.toList.length<=jj/\(match atI z.cps.toList i with |some c=>Q (tx [c]) H |none=>False)|_=>False)
 |_=>False
theorem ix_M:IxR X (mIx X.K):=by
 intro value slice pins s σ H x y v u Q I rx ry h fk;unfold mIx at h;cases y with
 |int i=>
  cases x with
  |ref p=>
   obtain⟨xs,hs,h⟩:=h;cases ev:atI xs i with
   |none=>rw[ev]at h;exact h.elim|some w'=>
    rw[ev]at h;rcases hs with hs |hs
    ·exact zkt_ value slice pins s σ H _ _ v u Q I rx ry ⟨p,xs,i,w',rfl,rfl,hs,ev,h⟩ fk
    ·exact zop_ value slice pins s σ H _ _ v u Q I rx ry ⟨p,xs,i,w',rfl,rfl,hs,ev,h⟩ fk
  |str z=>
   obtain⟨hz,h⟩:=h;cases ev:atI z.cps.toList i with
   |none=>rw[ev]at h;exact h.elim|some w'=>
    rw[ev]at h;exact znN_ value slice pins s σ H _ _ v u Q I rx ry ⟨z,i,w',rfl,rfl,by simpa [k9]using hz,ev,h⟩ fk
  |_=>exact h.elim
 |_=>exact h.elim
def mSl (K:Fgg):V->Option Int->Option Int->Hp->VK->Prop:=λx lo hi H Q=>match x with
 |.str z=>z.cps.toList.length<=jj/\Q (tx (cutL z.cps.toList lo hi)) H|.ref a=>∃xs,SqL K H a xs/\∀p,H p=rQ->Q (.ref p) (upd H p (.lst (cutV xs lo hi)))|_=>False
theorem sl_M:SlR X (mSl X.K):=by
 intro pins s σ H x v vl vu lo hi sl Q I rx hs pl pu h;unfold mSl at h;cases x with
 |str z=>exact znG_ pins s σ H _ v vl vu lo hi sl Q I rx hs pl pu ⟨by simpa [k9]using h.1,h.2⟩|ref p=>
  obtain⟨xs,h1,h2⟩:=h;exact zjw_ pins s σ H _ v vl vu lo hi sl Q I rx hs pl pu ⟨p,xs,rfl,h1,h2⟩
 |_=>exact h.elim
def mPart (t:TE):TO:=λσ H Q=>t σ H λx H1=>match x with |.int i=>Q (rP i) H1 |_=>False
theorem po_M (h:PE X e ta):PO X (rP e) (mPart ta):=by
 intro pins s σ H Q I hw;rw[evalPart_some];refine thn (h pins s σ H _ I hw) λu s1 ah=>?_
 obtain⟨x,H1,I1,r1,q1⟩:=ah;cases x with
 |int i=>obtain⟨t,rfl⟩:=r1;exact⟨rP i,H1,I1,.int i t,q1⟩|_=>exact q1.elim
def mLen (K:Fgg):List V->Hp->VK->Prop:=λxs H Q=>match xs with
 |[.str z]=>z.cps.toList.length<=jj/\Q (.int z.cps.toList.length) H|[.ref p]=>∃ys,(SqL K H p ys\/SqT K H p ys)/\Q (.int ys.length) H|_=>False
theorem ziA_ {K:Fgg}{xs:List V}{H:Hp}{Q:VK}(h:mLen K xs H Q):(∃z,xs=[.str z]/\z.cps.toList.length<=jj/\Q (.int z.cps.toList.length) H)\/∃p ys,xs=[.ref p]/\(SqL K H p ys\/SqT K H p ys)/\Q (.int ys.length) H:=by
 rcases xs with _ |⟨x,_ |⟨y,t⟩⟩
 ·exact jM h
 ·cases x with
  |str z=>exact .inl ⟨z,rfl,h⟩|ref p=>obtain⟨ys,h⟩:=h;exact .inr ⟨p,ys,rfl,h⟩|_=>exact jM h
 ·cases x<;>exact jM h
theorem zfO_:CallR X (.builtin "len") (mLen X.K):=by
 intro pins s σ H xs us Q I r h;rcases ziA_ h with⟨z,rfl,h⟩|⟨p,ys,rfl,h1,h2⟩
 ·exact zcx_ pins s σ H _ us Q I r ⟨_,rfl,by simpa [k9]using h.1,by simpa [k9]using h.2⟩
 ·exact zcA_ pins s σ H _ us Q I r ⟨_,ys,rfl,h1,h2⟩
def tyS (K:Fgg)(H:Hp):V->String->Prop:=λx T=>match x with
 |.non=>T="NoneType" |.bl _=>T="bool" |.int _=>T="int" |.str _=>T="str"
 |.ref p=>(T="list" /\ ∃xs,H p=rP (.lst xs))\/(T="tuple" /\ ∃xs,H p=rP (.tup xs))|_=>False
theorem zn6_ {K:Fgg}{H:Hp}{x:V}{T:String}(h:tyS K H x T):TyOf K H x (.type T):=by
 unfold tyS at h;cases x with
 |non=>subst h;exact .non|bl b=>subst h;exact .bl b|int i=>subst h;exact .int i|str z=>subst h;exact .str z|ref p=>
  rcases h with⟨rfl,xs,h⟩|⟨rfl,xs,h⟩
  ·exact .lst h
  ·exact .tup h
 |_=>exact h.elim
noncomputable def isaB (T c:String):Option Bool:=
 if T=c then rP rR else if T="bool" /\ c="int" then rP rR
 else if(T="bool" \/ T="int" \/ T="str" \/ T="list" \/ T="tuple" \/ T="NoneType")/\(c="bool" \/ c="int" \/ c="str" \/ c="list" \/ c="tuple" \/ c="dict")then rP rS else rQ
theorem zjH_ {K:Fgg}{T c:String}{b:Bool}(h:isaB T c=rP b):qg K (.type T) (.type c)=rP b:=by
 unfold isaB at h;split at h
 ·rename_i e;subst e;cases h
  unfold qg;rw[if_pos (by simp)]
 ·split at h
  ·rename_i e;obtain⟨rfl,rfl⟩:=e;cases h;rfl
  ·split at h
   ·rename_i h1 h2 e
    cases h;obtain⟨e1,e2⟩:=e;rcases e1 with rfl |rfl |rfl |rfl |rfl |rfl<;>rcases e2 with rfl |rfl |rfl |rfl |rfl |rfl<;>first |rfl |exact absurd rfl h1 |exact absurd ⟨rfl,rfl⟩ h2
   ·cases h
noncomputable def findS (l:List Nat)(t:List Nat):Int:=Txt.find ⟨l.toArray⟩ ⟨t.toArray⟩
theorem zh2_ (l:List Nat)(c:Nat):findS l [c]=(match l.findIdx? (· == c)with |some i=>(i:Int)|none => -1):=by
 unfold findS;rcases find_whole ⟨l.toArray⟩ ⟨[c].toArray⟩with⟨h1,h2⟩|⟨i,h1,h2,h3⟩
 ·rw[h1]
  have:l.findIdx? (· == c)=rQ:=by
   rw[List.findIdx?_eq_none_iff];intro x hx;obtain⟨j,hj⟩:=List.mem_iff_getElem?.mp hx;by_cases hxc:x=c
   ·subst hxc
    exact absurd ((nR ⟨l.toArray⟩ x j).mpr (by simpa using hj)) (h2 j)
   ·simpa using hxc
  rw[this]
 ·rw[h1]
  have hi:l[i]?=rP c:=by simpa using(nR ⟨l.toArray⟩ c i).mp h2
  have:l.findIdx? (· == c)=rP i:=by
   obtain⟨aN,hget⟩:=jN.mp hi;rw[List.findIdx?_eq_some_iff_getElem];refine⟨aN,by simp[hget],λj hj=>?_⟩
   have fF:j<l.length:=oN hj aN;have hn:=h3 j hj;intro hc;have bj:l[j]=c:=by simpa using hc
   exact hn ((nR ⟨l.toArray⟩ c j).mpr (by simp[fF,bj]))
  rw[this]
noncomputable def strsOf:List V->Option (List Str)
 |[]=>rP []|.str z::r=>(strsOf r).map (z::·)|_::_=>rQ
theorem zeD_ {vs:List V}{zs:List Str}:strsOf vs=rP zs->vs=zs.map V.str:=by
 induction vs generalizing zs with
 |nil=>intro h;cases h;rfl
 |cons v r ih=>
  intro h;cases v with
  |str z=>
   unfold strsOf at h;cases e:strsOf r with
   |none=>rw[e]at h;cases h|some y=>rw[e]at h;cases h;rw[ih e];rfl
  |_=>cases h
noncomputable def joinS (sep:List Nat)(zs:List Str):List Nat:=(Txt.join ⟨sep.toArray⟩ zs).cps.toList
def mJoin (K:Fgg):V->List V->Hp->VK->Prop:=λx xs H Q=>match x,xs with
 |.str l,[.ref D]=>∃vs,(SqL K H D vs)/\(match strsOf vs with |some zs=>JoinOk l zs=rR/\Q (tx (joinS l.cps.toList zs)) H |none=>False)|_,_=>False
theorem zc0_:∀{zs:List Str}{us:List iX},Vals (zs.map V.str) us->∃l:List (Str×Tok),us=strValues l/\l.map (·.1)=zs
 |[],us,r=>by cases r;exact⟨[],rfl,rfl⟩
 |z::zs,us,r=>by
  cases r with
  |cons r rr=>
   obtain⟨t,rfl⟩:=r;obtain⟨l,rfl,hl⟩:=zc0_ rr;exact⟨(z,t)::l,rfl,by rw[ju,hl]⟩
theorem zft_ {K:Fgg}{x:V}{xs:List V}{H:Hp}{Q:VK}(h:mJoin K x xs H Q):∃l D,x=.str l/\xs=[.ref D]/\∃vs,(SqL K H D vs)/\(match strsOf vs with |some zs=>JoinOk l zs=rR/\Q (tx (joinS l.cps.toList zs)) H |none=>False):=by
 cases x with
 |str l=>
  rcases xs with _ |⟨y,_ |⟨z,t⟩⟩
  ·exact jM h
  ·cases y with
   |ref t=>exact⟨l,t,rfl,rfl,h⟩|_=>exact jM h
  ·cases y<;>exact jM h
 |_=>exact jM h
theorem zlE_:MtR X "str.join" (mJoin X.K):=by
 intro pins s σ H x xs v us Q I rx rv h;obtain⟨l,D,rfl,rfl,h⟩:=zft_ h
 ·obtain⟨k,rfl⟩:=rx
  obtain⟨u,rfl,ru⟩:=rv.one;cases ru;obtain⟨vs,hs,h⟩:=h;cases ez:strsOf vs with
  |none=>rw[ez]at h;exact h.elim|some zs=>
   rw[ez]at h;have ev:=zeD_ ez;subst ev;obtain⟨aa,r,p,hz⟩:=I.list hs;obtain⟨lz,e1,e2⟩:=zc0_ r;subst e1;refine zz_ (SC.join p.isList e2 h.1 λt' k' b7=>⟨tx (joinS l.cps.toList zs),H,I.tok _,⟨t',?_⟩,h.2⟩)
   unfold joinS;rw[<- z0_,<- z0_]
end
theorem zh7_ (zs:List Str):joinS [] zs=(zs.map λz=>z.cps.toList).flatten:=by
 unfold joinS Txt.join rM;cases zs with
 |nil=>rfl|cons z r=>
  show((r.foldl (λacc p=>acc++#[]++p.cps) z.cps)).toList=_
  have:∀(acc:Array Nat),(r.foldl (λacc p=>acc++#[]++p.cps) acc).toList=acc.toList++(r.map λz=>z.cps.toList).flatten:=by
   induction r with
   |nil=>intro acc;simp
   |cons y r ih=>intro acc;rw[nv,ih];simp
  rw[this];simp
def Gd (P:jL)(w:jU)(K:Fgg)(mg:Str->Option iX)(base:Heap)(CX:CXT)(k:Nat)(x:Str)(ps:List Str)(sp:Sp):Prop:=
 ∃f fd,FnOk P w K mg base CX k f fd ps sp/\mg x=rP (.ref f)/\mh K (.ref f)=rR/\Binds K fd ps []
def Gc (mg:Str->Option iX)(x:Str)(v:V):Prop:=∃u,mg x=rP u/\RelV v u
abbrev Gb (mg:Str->Option iX)(x:Str):Prop:=mg x=rQ
section
variable {X:Cx}{x:Str}{p pos:Pos}{e:jw}{es:List jw}{t:TA}{tg:jw}
theorem zmw_ {v:V}(h:Gc X.mg x v)(hg:Gl X x:=by rfl)(hd:(x==("__debug__":Str))=rS:=by decide):PE X (.Name x pos) (tC v):=by
 obtain⟨u,hm,r⟩:=h;exact ze2_ hg hm r hd
theorem pe_ty (T:String)(hm:Gb X.mg x)(hg:Gl X x:=by rfl)(hv:lP x=rP (.type T):=by rfl)(hn:x ≠ "__name__":=by decide)(hd:(x==("__debug__":Str))=rS:=by decide):PE X (.Name x pos) (tC (.ty T)):=
 zj9_ hg hm hv rfl hn hd
theorem zlb_ {id:String}{r:List V->Hp->VK->Prop}(hc:CallR X (.builtin id) r)(hm:Gb X.mg x)(ha:PA X (e::es) t)(hg:Gl X x:=by rfl)(hv:lP x=rP (.builtin id):=by rfl)(hn:x ≠ "__name__":=by decide)(az:(x==("__debug__":Str))=rS:=by decide)
  (hs:jE (e::es) X.env=(rS,eval e X.env)::jE es X.env:=by rfl) (aw:(lh pos (jE es X.env)).any (·.1)=rS:=by rfl):PE X (.Call (.Name x p) (e::es) [] pos) (tCB r t):=
 ziv_ hc hg hm hv ha hn az hs aw
theorem zmW_ {o:jw}{to:TE}{name:Str}{id:String}{r:V->List V->Hp->VK->Prop}{apos aj:Pos}(slot:Slot "str" name id)(c7:typeOf (.builtin id)=pure (.type "method_descriptor"))(hm:MtR X id r)(ho:PE X o to)(ha:PA X (e::es) t)
  (h1:attributeBase o name X.env (eval o X.env)=eval o X.env:=by rfl) (h2:((((lh aj (jE (e::es) X.env)).all λx=>!x.fst) && (mH aj (lS [] X.env)).all λx=>x.fst.isSome) && decide (((e::es).length+([]:List Keyword).length+if([]:List Keyword).isEmpty=rR then 0 else 1)<30))=rR:=by rfl)
  (h3:(apos.endLine == aj.line)=rR:=by rfl) (h4:jE (e::es) X.env=(rS,eval e X.env)::jE es X.env:=by rfl) (h5:((lh aj (jE es X.env)).any λx=>x.fst)=rS:=by rfl):
  PE X (.Call (.Attribute o name apos) (e::es) [] aj) (tBM X.K "str" r to t):=zn9_ mV slot c7 hm ho ha h1 h2 h3 h4 h5
def iAny (K:Fgg)(tl:TE):TI:=λσ H R=>tl σ H λx H1=>match x with
 |.str z=>R (Itp z.cps.toList.length (λi=>tx [z.cps.toList.getD i 0])) H1|.ref a=>((∃xs,SqL K H1 a xs)/\R (Itl K a) H1)\/((∃xs,SqT K H1 a xs)/\R (Itt K a) H1)|_=>False
theorem zox_ (z:Str):sgn z=λi=>tx [z.cps.toList.getD i 0]:=by
 funext i;unfold sgn;simp[nD,lA]
theorem znL_ {l:jw}{tl:TE}(hl:PE X l tl):PI X tg l (iAny X.K tl):=by
 intro pins s σ H R I h;refine thn (hl pins s σ H _ I h) λv s1 ah=>?_
 obtain⟨x,H1,I1,r1,q1⟩:=ah;have pt:∀(v:V),PE X l (tC v)->PE X l (tC v):=λ_ h=>h
 cases x with
 |str z=>
  obtain⟨t,rfl⟩:=r1;refine wpAny_pyIter_strU ?_;have q:R (Itp z.cps.size (sgn z)) H1:=by
   have e:z.cps.toList.length=z.cps.size:=by simp
   rw[zox_,<- e];exact q1
  refine⟨s1.heap.objs.size,[s1.heap.objs.size],_,_,H1,rfl,I1.kept (t':=s1.toks) λb o e=>jo _ e,zhj_ _ z t,⟨lZ _,⟨_,jO _ rfl,rfl,rfl⟩⟩,λb hb=>?_,q⟩
  have e:b=s1.heap.objs.size:=by simpa using hb
  subst e;exact I1.fpOk (jt _) (I1.hok.fresh (jt _))
 |ref a=>
  cases r1;rcases q1 with⟨⟨xs,hq⟩,q⟩|⟨⟨xs,hq⟩,q⟩
  ·obtain⟨aa,rv,p,hz⟩:=I1.list hq
   refine wpAny_pyIter_list p.isList ?_;refine⟨s1.heap.objs.size,[s1.heap.objs.size],_,_,H1,rfl,I1.kept (t':=s1.toks) λb o e=>jo _ e,zgt_ a _,⟨_,jO _ rfl,rfl,rfl⟩,λb hb=>?_,q⟩
   have e:b=s1.heap.objs.size:=by simpa using hb
   subst e;exact I1.fpOk (jt _) (I1.hok.fresh (jt _))
  ·obtain⟨aa,rv,p,hz⟩:=I1.tuple hq
   refine wpAny_pyIter_tuple (show s1.heap.IsTuple a aa.toArray from p) ?_
   refine⟨s1.heap.objs.size,[s1.heap.objs.size],_,_,H1,rfl,I1.kept (t':=s1.toks) λb o e=>jo _ e,ze0_ a _,⟨_,jO _ rfl,rfl,rfl⟩,λb hb=>?_,q⟩
   have e:b=s1.heap.objs.size:=by simpa using hb
   subst e;exact I1.fpOk (jt _) (I1.hok.fresh (jt _))
 |_=>exact q1.elim
def mRng1 (ta:TA):TI:=λσ H R=>ta σ H λvs H1=>match vs with |[.int j] => -(2 ^ 62)<=j/\j<2 ^ 62/\R (Itr 0 j.toNat) H1 |_=>False
end
section
variable {X:Cx}{tg:jw}
theorem zh8_ {a:jw}{ta:TA}{p pos:Pos}(hm:Gb X.mg "range")(ha:PA X [a] ta)(hg:Gl X "range":=by rfl)(hs:jE [a] X.env=[(rS,eval a X.env)]:=by rfl):PI X tg (.Call (.Name "range" p) [a] [] pos) (mRng1 ta):=by
 intro pins s σ H R I h;refine Call_ (zgj_ I hg hm boot_range (nC (thn (ha pos pins s σ H _ I h) λus s1 ah=>?_) hs rfl))
 obtain⟨vs,H1,I1,r1,q1⟩:=ah
 try dsimp only at q1
 split at q1
 ·obtain⟨q2,q3,q⟩:=q1
  cases r1 with
  |cons r rr=>
   cases rr;obtain⟨t,rfl⟩:=r;exact call_range_1 (zii_ I1 (by lia) (by lia) q2 q3 (by simpa using q))
 ·exact q1.elim
def gNilM:TGs:=λvs σ H Q=>match vs with |[]=>Q σ H |_=>False
def gConsM (t:TG)(u:TGs):TGs:=λvs σ H Q=>match vs with |v::r=>t v σ H λaf H'=>u r af H' Q |[]=>False
theorem zhp_:PGs X [] gNilM:=by
 intro pins s σ H vs us Q I r h;cases vs with
 |nil=>exact zln_ pins s σ H [] us Q I r ⟨rfl,h⟩|cons _ _=>exact h.elim
theorem zfr_ {e:jw}{es:List jw}{t:TG}{u:TGs}(h1:PG X e t)(h2:PGs X es u)
  (hs:(kP (e::es) X.env).map (·.2)=assign e X.env::(kP es X.env).map (·.2):=by rfl):PGs X (e::es) (gConsM t u):=by
 intro pins s σ H vs us Q I r h;cases vs with
 |nil=>exact h.elim|cons v vr=>exact ziN_ h1 h2 hs pins s σ H _ us Q I r ⟨v,vr,rfl,h⟩
def gTupM (K:Fgg)(n:Nat)(t:TGs):TG:=λv σ H Q=>match v with |.ref a=>∃xs,SqT K H a xs/\xs.length=n/\t xs σ H Q |_=>False
theorem zja_ {es:List jw}{k:Nat}{t:TGs}{n:Nat}{pos:Pos}(hc:X.calm=rR)(h:PGs X es t)
  (hn:(kP es X.env).length=n:=by rfl) (aD:(kP es X.env).findIdx? (·.1)=rQ:=by rfl):PG X (.Tuple es k pos) (gTupM X.K n t):=by
 intro pins s σ H v u Q I r hw;cases v with
 |ref a=>
  obtain⟨xs,h1,h2,h3⟩:=hw;exact znk_ hc h hn aD pins s σ H _ u Q I r ⟨a,xs,rfl,h1,h2,h3⟩
 |_=>exact hw.elim
def mNeg (ta:TE):TE:=λσ H Q=>ta σ H λx H1=>match x with |.int i=>Q (.int (-i)) H1 |_=>False
theorem zmZ_ {a:jw}{ta:TE}{pos:Pos}(ha:PE X a ta):PE X (.UnaryOp .USub a pos) (mNeg ta):=by
 intro pins s σ H Q I h;refine UnaryOp_ (thn (ha pins s σ H _ I h) λv s1 ah=>?_)
 obtain⟨x,H1,I1,r1,q1⟩:=ah;cases x with
 |int i=>exact zoC_ pins s1 σ H1 _ v Q I1 r1 ⟨i,rfl,q1⟩|_=>exact q1.elim
end
theorem zF_ {H:Hp}{p:i9}(h:H p=rQ)(o:HO):Same H (upd H p o):=λb u q=>by rw[zv_ (zR_ q h)];exact q
theorem zW_ {n:Nat}(h:n<=100000):n<=jj:=by rw[sizeLine_eq];lia
theorem zcC_ {zs:List Str}{sep:Str}(h:zs.length*(sep.length+1)<=100000)(h1:∀z∈zs,z.length<=1):JoinOk sep zs=rR:=by
 unfold JoinOk;have key:∀(l:List Str) (acc:Nat),(∀z∈l,z.length<=1)->l.foldl (λx1 x2=>x1+x2.length+sep.length) acc<=acc+l.length*(sep.length+1):=by
  intro l;induction l with
  |nil=>intro acc _;simp
  |cons z r ih=>
   intro acc hz;rw[nv];have h2:=ih (acc+z.length+sep.length) λy hy=>hz y (ji _ hy)
   have h3:=hz z je;rw[jg,rA];omega
 have q:=key zs 0 h1;rw[List.foldl_toArray];unfold pv;simp only[Bool.not_eq_true',decide_eq_false_iff_not];have:zs.foldl (λx1 x2=>x1+x2.length+sep.length) 0<=100000:=by omega
 have hl:(100000:Nat)<=jj:=by rw[sizeLine_eq];omega
 omega
section
variable {X:Cx}
def mSet:TSet:=λo i v H Q=>match i with
 |.int k=>(match o with
  |.ref p=>∃xs,H p=rP (.lst xs)/\(match ixN xs.length k with |some j=>Q (upd H p (.lst (xs.set j v)))|none=>False)|_=>False)
 |_=>False
theorem set_M:PSet X mSet:=by
 intro pins s σ H o i v ov iv u Q I ro ri rv h;unfold mSet at h;cases i with
 |int k=>
  cases o with
  |ref p=>
   obtain⟨xs,h1,h⟩:=h;cases e:ixN xs.length k with
   |none=>rw[e]at h;exact h.elim|some j=>
    rw[e]at h;exact ziJ_ pins s σ H _ _ v ov iv u Q I ro ri rv ⟨p,xs,k,j,rfl,rfl,h1,e,h⟩
  |_=>exact h.elim
 |_=>exact h.elim
noncomputable def strI (i:Int):List Nat:=(oJ (toString i)).cps.toList
def mStr:List V->Hp->VK->Prop:=λxs H Q=>match xs with |[.int i]=>i.natAbs.log2<1920/\Q (tx (strI i)) H |_=>False
theorem zfo_:CallR X (.type "str") mStr:=by
 intro pins s σ H xs us Q I r h;unfold mStr at h;split at h
 ·rename_i i
  refine zcG_ pins s σ H _ us Q I r ⟨i,rfl,h.1,?_⟩;have e:tx (strI i)=V.str (oJ (toString i)):=by unfold strI tx;rw[<- z0_]
  rw[<- e];exact h.2
 ·exact h.elim
def mLjust:V->List V->Hp->VK->Prop:=λx xs H Q=>match x,xs with |.str l,[.int i]=>PadOk i=rR/\Q (tx (Txt.ljust l i).cps.toList) H |_,_=>False
theorem ziC_:MtR X "str.ljust" mLjust:=by
 intro pins s σ H x xs v us Q I rx rv h;unfold mLjust at h;split at h
 ·rename_i l i
  obtain⟨k,rfl⟩:=rx;obtain⟨u,rfl,ru⟩:=rv.one;obtain⟨k',rfl⟩:=ru;exact zz_ (SC.ljust h.1 λt' k b7=>⟨tx (Txt.ljust l i).cps.toList,H,I.tok _,⟨t',by rw[<- z0_]⟩,h.2⟩)
 ·exact h.elim
variable {x:Str}{p pos:Pos}{e:jw}{es:List jw}{t:TA}
theorem pe_tf (T:String){r:List V->Hp->VK->Prop}(hc:CallR X (.type T) r)(hm:Gb X.mg x)(ha:PA X (e::es) t)(hg:Gl X x:=by rfl)(hv:lP x=rP (.type T):=by rfl)(hn:x ≠ "__name__":=by decide)(az:(x==("__debug__":Str))=rS:=by decide)
  (hs:jE (e::es) X.env=(rS,eval e X.env)::jE es X.env:=by rfl) (aw:(lh pos (jE es X.env)).any (·.1)=rS:=by rfl):PE X (.Call (.Name x p) (e::es) [] pos) (tCB r t):=
 zf0_ hc hg hm hv ha hn az hs aw
end
noncomputable def digs:Nat->Nat->List Nat
 |0,_=>[]|w+1,n=>digs w (n / 10)++[48+n % 10]
theorem zcV_:∀(w:Nat),digs w 0=i8 w 48
 |0=>rfl|w+1=>by rw[digs,zcV_ w,List.replicate_succ']
def dg (m:Nat):List Nat:=(oO 10 m).map Char.toNat
theorem zdY_ (m:Nat):strI (m:Int)=dg m:=W.KIN.signs_num m
theorem zca_:∀d:Nat,d<10->(pC d).toNat=48+d:=by decide
theorem dg_lt {m:Nat}(h:m<10):dg m=[48+m]:=by
 unfold dg;rw[oq h];show[(pC m).toNat]=_
 rw[zca_ m h]
theorem dg_ge {m:Nat}(h:¬m<10):dg m=dg (m / 10)++[48+m % 10]:=by
 unfold dg;have hm:m % 10<10:=Nat.mod_lt m (by decide)
 have t:oO 10 (m / 10)++oO 10 (m % 10)=oO 10 (10*(m / 10)+m % 10):=Nat.toDigits_append_toDigits (by decide) (by lia) hm
 rw[Nat.div_add_mod]at t;rw[<- t,kr,oq hm];show _++[(pC (m % 10)).toNat]=_
 rw[zca_ _ hm]
theorem zjf_:∀(w m:Nat),m<10 ^ (w+1)->(dg m).length<=w+1/\i8 (w+1-(dg m).length) 48++dg m=digs (w+1) m
 |w,m,h=>by
  by_cases hm:m<10
  ·rw[dg_lt hm]
   refine⟨by show 1<=w+1;lia,?_⟩
   rw[digs,show m / 10=0 by lia,zcV_,show m % 10=m by lia]
   rfl
  ·cases w with
   |zero=>exact absurd h (by simpa using hm)|succ w=>
    have hd:m / 10<10 ^ (w+1):=by
     grind
    obtain⟨h1,h2⟩:=zjf_ w (m / 10) hd;rw[dg_ge hm];refine⟨by rw[jC];show _+1<=_;lia,?_⟩
    have e:digs (w+1+1) m=digs (w+1) (m / 10)++[48+m % 10]:=rfl;grind
def Dc (x:i9)(d:Option i9)(h:Heap):Prop:=∃o,h.get? x=rP o/\o.dict=d/\∀vs,o.data=.fields vs->vs[2]?=rP .none
theorem zjp_ (o:qb)(f):(o.mapFields f).dict=o.dict:=by obtain⟨c,d,dt,sl⟩:=o;cases dt<;>rfl
section
variable {M:Model}{A:jW}{E:iX->iY->Prop}{s:iY}{base:Heap}{env:Env}{outer l:List Env}{L e:i9}{cls a0 fl:iX}{d:Option i9}{Q:Unit->iY->Prop}
theorem ent_d {oe:qb}{vs:Array iX}{head:iX}{nx:Bool}(ba:A.frames=rP (env::outer))(hl:s.heap.FunFrames base (env::outer))(hf:env.frame=rP L)(he:s.heap.get? e=rP oe)(bB:base.StaysIn s.heap)(bQ:base.get? e=rQ)(hd:oe.data=.fields vs)(hsz:1<vs.size)(h0:vs[0]?=rP a0)(bK:vs[2]?=rP .none)
  (k:∀h',pf base (env::outer) e oe.cls a0 (rawInt L) s.heap h'->Dc e oe.dict h'->Q () {s with heap:=h'}):
  jD M A (do let a <- frameOf env;let pl <- entryPlaceOf L nx;let b <- EntryCells.newEntry head a .none (rawInt L) .none pl;setField (.ref e) 1 b) Q E s:=by
 have out:e∉(env::outer).filterMap (·.frame):=λhm=>by obtain⟨_,o,ho,aB⟩:=hl.mem hm;cases he.symm.trans ho;exact aB vs hd
 refine iZ (wpAny_frameOf_fun ba hl hf λg1 so=>iZ (wpAny_entryPlaceOf λpl aw=>?_))
 unfold EntryCells.newEntry newFields;refine iZ (wpAny_newObj_type ?_ (aw.sizeOk5 _ _ _ _ _));have e1:g1.get? e=rP oe:=(so.2.1 e out).trans he;have b1:base.StaysIn g1:=λb o q=>(so.2.1 b λhm=>by have:=(hl.mem hm).1;rw[q]at this;cases this).trans (bB b o q)
 have ne:g1.objs.size≠e:=pO (jF e1)
 generalize il:({cls:=.type "traceback",dict:=rQ,data:=.fields ([head,.ref L,.none,rawInt L,.none]++(if pl.isEmpty then i8 6 lK else pl)).toArray}:qb)=ob
 have f7:ob.data=.fields ([head,.ref L,.none,rawInt L,.none]++(if pl.isEmpty then i8 6 lK else pl)).toArray:=by rw[<- il]
 have gM:ob.isFreed=rS:=mZ f7;have e2:(g1.push ob).get? e=rP oe:=jo ob e1;have d3:=nK hd (·.setIfInBounds 1 (jQ g1.objs.size));have e3:=mY (mL (·.setIfInBounds 1 (jQ g1.objs.size))) e2 (mZ d3);have t3:((g1.push ob).update e (mL (·.setIfInBounds 1 (jQ g1.objs.size)))).get? g1.objs.size=rP ob:=(ly _ _ ne.symm).trans (jO g1 gM);have old:∀b o,b≠e->g1.get? b=rP o->((g1.push ob).update e (mL (·.setIfInBounds 1 (jQ g1.objs.size)))).get? b=rP o:=λb o hb q=>(ly _ _ hb.symm).trans (jo ob q)
 have aK:∀b o,s.heap.get? b=rP o->(∀vs,o.data≠.fields vs)->b≠e:=λb o q aB z=>by rw[z,he]at q;cases q;exact aB vs hd
 refine wpAny_setField e2 hd hsz (k _ ⟨λb o q=>old b o (λz=>by rw[z,bQ]at q;cases q) (b1 b o q),hl.of_keeps λb o q aB=>?_,?_,λb o q aB=>?_⟩ ⟨_,e3,zjp_ _ _,λws q=>by cases d3.symm.trans q;rw[mX (by decide)];exact bK⟩)
 ·obtain⟨sl,z⟩:=so.2.2 b o q;exact⟨_,old b _ (aK b o q aB) z,rfl⟩
 ·exact⟨_,_,_,_,_,e3,⟨Obj.cls_mapFields _ _,by rw[mX (by decide)];exact h0⟩,d3,by simp[hsz],b1.fresh,ne,t3,f7,by first |(simp;done)|(rcases aw with rfl |⟨_,_,_,_,_,_,_,rfl⟩<;>simp)⟩
 ·obtain⟨sl,z⟩:=so.2.2 b o q;exact⟨sl,old b _ (aK b o q aB) z⟩
theorem fl_d (bB:base.StaysIn s.heap)(hl:s.heap.FunFrames base l)(ht:s.heap.TracedAtW base e cls a0 fl)(hD:Dc e d s.heap)
  (k:∀h',base.StaysIn h'->h'.FunFrames base l->h'.TracedW base e cls a0->s.heap.UpToSlots h'->Dc e d h'->Q () {s with heap:=h'}):jD M A (setFlight (.ref e) rQ) Q E s:=by
 obtain⟨oe,vs,T,oT,ts,he,hc,hd,h1,hnT,hTe,hT,hdT,h3⟩:=ht;have gu:3<ts.size:=(lU.mp h3).1;have bH:∀b,b≠T->(s.heap.update T (mL (·.setIfInBounds 3 ((rQ:Option i9).elim lK λf=>rawInt f)))).get? b=s.heap.get? b:=λb z=>ly _ _ (mO z)
 have aK:∀b o,s.heap.get? b=rP o->(∀vs,o.data≠.fields vs)->b≠T:=λb o q aB z=>by rw[z,hT]at q;cases q;exact aB ts hdT
 unfold setFlight;refine iZ (mT he hd h1 ?_);rw[if_pos (show(jQ T != lK)=rR by simp)]
 refine wpAny_setField hT hdT gu (k _ (λb o q=>(bH b λz=>by rw[z,hnT]at q;cases q).trans (bB b o q)) (hl.of_keeps λb o q aB=>⟨o,(bH b (aK b o q aB)).trans q,rfl⟩) ?_ (λb o q aB=>⟨o.slots,(bH b (aK b o q aB)).trans q⟩) ?_)
 ·exact⟨oe,vs,T,_,_,(bH e hTe.symm).trans he,hc,hd,h1,hnT,hTe,mY _ hT (mZ (nK hdT _)),nK hdT _,by simp[gu]⟩
 ·obtain⟨o,q,z⟩:=hD;exact⟨o,(bH e hTe.symm).trans q,z⟩
theorem zkJ_ {oe:qb}{vs:Array iX}(ba:A.frames=rP (env::outer))(hl:s.heap.FunFrames base (env::outer))(hf:env.frame=rP L)(he:s.heap.get? e=rP oe)(bB:base.StaysIn s.heap)(bQ:base.get? e=rQ)(hd:oe.data=.fields vs)(h1:vs[1]?=rP .none)(h0:vs[0]?=rP a0)(bK:vs[2]?=rP .none)
  (k:∀h',pf base (env::outer) e oe.cls a0 (rawInt L) s.heap h'->Dc e oe.dict h'->Q () {s with heap:=h'}):jD M A (noteFrame (.ref e) env) Q E s:=by
 unfold noteFrame;simp only[hf];refine iZ (mT he hd h1 ?_);rw[if_neg (by decide)]
 exact ent_d ba hl hf he bB bQ hd (lU.mp h1).1 h0 bK k
theorem ze7_ (ba:A.frames=rP (env::outer))(hl:s.heap.FunFrames base (env::outer))(hf:env.frame=rP L)(ht:s.heap.TracedW base e cls a0)(bB:base.StaysIn s.heap)(bQ:base.get? e=rQ)(hD:Dc e d s.heap)
  (k:∀h',pf base (env::outer) e cls a0 (rawInt L) s.heap h'->Dc e d h'->Q () {s with heap:=h'}):jD M A (noteFrame (.ref e) env) Q E s:=by
 obtain⟨oe,vs,T,oT,ts,he,⟨rfl,h0⟩,hd,h1,hnT,hTe,hT,hdT,h3⟩:=ht;obtain⟨rfl,hx⟩:oe.dict=d/\vs[2]?=rP .none:=by obtain⟨o,q,z,z2⟩:=hD;cases he.symm.trans q;exact⟨z,z2 _ hd⟩
 unfold noteFrame;simp only[hf];refine iZ (mT he hd h1 ?_);rw[if_pos (show(jQ T != lK)=rR by simp)]
 refine iZ (mT hT hdT h3 ?_);rw[if_neg (show¬((lK == rawInt L)=rR) by simp[rawInt])];refine iZ (wpAny_setField hT hdT (lU.mp h3).1 ?_)
 have bH:∀b,b≠T->(s.heap.update T (mL (·.setIfInBounds 3 lK))).get? b=s.heap.get? b:=λb z=>ly _ _ (mO z)
 have aK:∀b o,s.heap.get? b=rP o->(∀vs,o.data≠.fields vs)->b≠T:=λb o q aB z=>by rw[z,hT]at q;cases q;exact aB ts hdT
 refine ent_d (s:={s with heap:=s.heap.update T (mL (·.setIfInBounds 3 lK))}) ba (hl.of_keeps λb o q aB=>⟨o,(bH b (aK b o q aB)).trans q,rfl⟩) hf ((bH e hTe.symm).trans he) (λb o q=>(bH b λz=>by rw[z,hnT]at q;cases q).trans (bB b o q)) bQ hd (lU.mp h1).1 h0 hx
  λh' ⟨x1,x2,x3,x4⟩ dd=>k h' ⟨x1,x2,x3,λb o q aB=>x4 b o ((bH b (aK b o q aB)).trans q) aB⟩ dd
theorem zb8_ {h h1 h2:Heap}(n:pf base l e cls a0 fl h h1)(a:base.StaysIn h2)(b:h2.FunFrames base l)(c:h2.TracedW base e cls a0)(u:h1.UpToSlots h2):pJ base l e cls a0 h h2:=
 ⟨a,b,c,λx o q aB=>by obtain⟨sl,z⟩:=n.2.2.2 x o q aB;obtain⟨cO,z'⟩:=u x _ z aB;exact⟨cO,z'⟩⟩
theorem zh9_ {oe:qb}{vs:Array iX}(ba:A.frames=rP (env::outer))(hl:s.heap.FunFrames base (env::outer))(hf:env.frame=rP L)(he:s.heap.get? e=rP oe)(bB:base.StaysIn s.heap)(bQ:base.get? e=rQ)(hd:oe.data=.fields vs)(h1:vs[1]?=rP .none)(h0:vs[0]?=rP a0)(bK:vs[2]?=rP .none)
  (k:∀h',pJ base (env::outer) e oe.cls a0 s.heap h'->Dc e oe.dict h'->Q () {s with heap:=h'}):jD M A (leaving env (.ref e)) Q E s:=by
 unfold leaving;refine iZ (zkJ_ ba hl hf he bB bQ hd h1 h0 bK λh' n dd=>?_)
 exact fl_d n.1 n.2.1 n.2.2.1 dd λh2 a b c u dd=>k h2 (zb8_ n a b c u) dd
theorem zhW_ (ba:A.frames=rP (env::outer))(hl:s.heap.FunFrames base (env::outer))(hf:env.frame=rP L)(ht:s.heap.TracedW base e cls a0)(bB:base.StaysIn s.heap)(bQ:base.get? e=rQ)(hD:Dc e d s.heap)
  (k:∀h',pJ base (env::outer) e cls a0 s.heap h'->Dc e d h'->Q () {s with heap:=h'}):jD M A (leaving env (.ref e)) Q E s:=by
 unfold leaving;refine iZ (ze7_ ba hl hf ht bB bQ hD λh' n dd=>?_)
 exact fl_d n.1 n.2.1 n.2.2.1 dd λh2 a b c u dd=>k h2 (zb8_ n a b c u) dd
end
def XAt (x C:i9)(d:Option i9)(h:Heap):Prop:=∃o vs,h.get? x=rP o/\o.cls=.ref C/\o.dict=d/\o.data=.fields vs/\vs[2]?=rP .none
noncomputable abbrev XO (x C:i9)(d:Option i9):HO:=.ext (XAt x C d)
theorem xo_ok {P:jL}{w:jU}{H:Hp}{x C:i9}{d:Option i9}{h:Heap}(q:XAt x C d h):ObjOk P w H h x (XO x C d):=by
 obtain⟨o,vs,a,b⟩:=q;exact⟨⟨o,vs,a,b⟩,⟨o,a⟩,λh1 h2 ⟨o,vs,z1,z2⟩ k=>⟨o,vs,k o z1,z2⟩⟩
def DAt (dx:i9)(fs:List (Str×V))(h:Heap):Prop:=∃mA,h.Ns1 dx mA/\(∀f,RelO (fs.lookup f) (mA f))/\oF mA (fs.map (·.1))
abbrev XDO (dx:i9)(fs:List (Str×V)):HO:=.ext (DAt dx fs)
structure FlyX (x T C:i9)(d:Option i9)(H:Hp)(hb h:Heap):Prop where
 obj:∃oe vs a0 oT ts,h.get? x=rP oe/\(oe.cls=.ref C/\vs[0]?=rP a0)/\oe.data=.fields vs/\vs[1]?=rP (.ref T)/\T≠x/\h.get? T=rP oT/\oT.data=.fields ts/\ts[3]?=rP .none
 dc:Dc x d h
 hx:H x=rQ
 hT:H T=rQ
 nx:hb.get? x=rQ
 nT:hb.get? T=rQ
def CXx (P:jL)(w:jU):CXT:=λouter H s E e s'=>∃x T C d H',e=.ref x/\s'.os=s.os/\AllBare s'.gens/\Un (frs outer) [] H H' s.heap s'.heap/\HOk P w H' s'.heap/\0<s'.toks /\
 FlyX x T C d H' s.heap s'.heap/\E (.ref C) d H'
theorem passX0 {P:jL}{w:jU}{X:Cx}:Passes (CXx P w) X E0:=λ_ _ _ _ _ _ _ h=>by
 obtain⟨_,_,_,_,_,_,_,_,_,_,_,_,h⟩:=h;exact h.elim
theorem HOk.at_ {P:jL}{w:jU}{H:Hp}{h:Heap}{a:i9}{o:HO}(x:HOk P w H h)(e:H a=rP o):∃u,h.get? a=rP u:=by
 have q:=x a o e;clear e x;induction o with
 |lst xs=>obtain⟨_,_,_,_,e⟩:=q;exact⟨_,e⟩|tup xs=>obtain⟨_,_,_,o,e,_⟩:=q;exact⟨_,e⟩|dK kvs=>obtain⟨_,_,_,_,o,_,_,e,_⟩:=q;exact⟨_,e⟩|dT kvs=>obtain⟨_,_,_,_,o,_,_,e,_⟩:=q;exact⟨_,e⟩|set S n=>obtain⟨o,_,_,_,e,_⟩:=q;exact⟨_,e⟩|ins C dx fs=>obtain⟨_,_,_,e,_⟩:=q;exact⟨_,e⟩|own y=>obtain⟨_,e⟩:=q;exact⟨_,e⟩|xd fs=>obtain⟨_,⟨_,_,_,e,_⟩,_⟩:=q;exact⟨_,e⟩|rng lo hi=>obtain⟨_,_,_,e⟩:=q;exact⟨_,e⟩|frz ob u _=>obtain⟨e,_⟩:=q;exact⟨_,e⟩|tbl p q'=>obtain⟨_,e,_⟩:=q;exact⟨_,e⟩|met f y=>exact⟨_,(show h.get? a=rP _ from q)⟩|ext φ=>obtain⟨_,⟨_,e⟩,_⟩:=q;exact⟨_,e⟩
theorem HOk.none_at {P:jL}{w:jU}{H:Hp}{h:Heap}{a:i9}(x:HOk P w H h)(e:h.get? a=rQ):H a=rQ:=by
 cases q:H a with
 |none=>rfl|some o=>
  obtain⟨u,z⟩:=x.at_ q;rw[e]at z;cases z
section
variable {X:Cx}{pins:Pnn}{σ:St}{H:Hp}{s:iY}
theorem frs_of (aD:X.stack=X.env::X.outer){b:i9}(h:b∈X.fs):b∈frs X.stack:=by
 rw[aD];unfold Cx.fs frs at *;grind
theorem zc5_ (I:Inv X pins σ H s)(aD:X.stack=X.env::X.outer)(hex:X.ex=[]){x C:i9}{a0:iX}{ex:List i9}{h2:Heap}(cD:∀b∈ex,H b=rQ/\X.s₀.heap.get? b=rQ)(hx:x∈ex)
  {d:Option i9}(L:pJ (n6 s.heap (frs X.stack++ex)) X.stack x (.ref C) a0 s.heap h2) (dd:Dc x d h2):
  ∃T,Un (frs X.outer) [] X.H₀ H X.s₀.heap h2/\HOk X.prog X.w H h2/\FlyX x T C d H X.s₀.heap h2:=by
 obtain⟨st,ff,⟨oe,vs,T,oT,ts,he,hc,hd,h1,hnT,hTe,hT,hdT,h3⟩,up⟩:=L;have cR:∀b:i9,b∉X.ex:=λb z=>by rw[hex]at z;cases z
 have aL:∀b o,s.heap.get? b=rP o->b∉frs X.stack->b∉ex->h2.get? b=rP o:=λb o q n1 n2=>st b o (nW _ q λz=>(kg.mp z).elim n1 n2)
 have bU:∀b o,s.heap.get? b=rP o->b∈frs X.stack->∃sl,h2.get? b=rP {o with slots:=sl}:=λb o q hb=>up b o q (by
  obtain⟨_,o',q',d⟩:=I.stack.mem hb;cases q.symm.trans q';exact d)
 have eT:∀b o,X.s₀.heap.get? b=rP o->b≠X.env.locals:=λb o q=>jT (i6 (jF q) I.ok.above)
 have eS:∀b o,X.s₀.heap.get? b=rP o->b∉ex:=λb o q z=>by
  have:=(cD b z).2;rw[q]at this;cases this
 have eU:∀b o,X.s₀.heap.get? b=rP o->b∉X.fs->b∉frs X.stack:=λb o q n z=>by
  rcases jK.mp (I.stkSub b z)with e |e
  ·exact eT b o q e
  ·exact n e
 have young:∀b,s.heap.get? b=rQ->X.s₀.heap.get? b=rQ:=λb q=>by
  cases e:X.s₀.heap.get? b with
  |none=>rfl|some o=>
   obtain⟨o',z⟩:=I.base.there b o e (cR b);rw[q]at z;cases z
 refine⟨T,⟨λb o q n hb _=>?_,λb o q n hb _=>?_,λb o q n _=>I.base.free b o q n (cR b),λb o q _=>?_,I.base.tups,I.base.frzs,I.base.tbls⟩,λa o e=>?_,⟨oe,vs,a0,oT,ts,he,hc,hd,h1,hTe,hT,hdT,h3⟩,dd,(cD x hx).1,?_,(cD x hx).2,?_⟩
 ·exact aL b o (I.base.keep b o q n hb (cR b)) (eU b o q hb) (eS b o q)
 ·obtain⟨sl,e⟩:=I.base.slot b o q n hb (cR b)
  grind
 ·obtain⟨o',e⟩:=I.base.there b o q (cR b)
  grind
 ·refine(I.hok a o e).stay (λb u hb q=>?_) (λ_ q=>q) λ_ _ q=>q
  have tr:∃o,H b=rP o:=by
   grind
  obtain⟨ob,tr⟩:=tr;refine aL b u q (λz=>?_) λz=>?_
  ·rw[I.stkFree b z]at tr;cases tr
  ·rw[(cD b z).1]at tr;cases tr
 all_goals
  by_cases hTx:T∈ex
  ·first |exact(cD T hTx).1 |exact(cD T hTx).2
  by_cases hTf:T∈frs X.stack
  ·obtain⟨_,o',q',d⟩:=I.stack.mem hTf
   grind
  have q:s.heap.get? T=rQ:=by
   cases e:s.heap.get? T with
   |none=>rfl|some o=>
    rw[nW _ e λz=>(kg.mp z).elim hTf hTx]at hnT
    cases hnT
  first |exact I.hok.none_at q |exact young T q
end
section
variable {P:jL}{w:jU}{K:Fgg}{mg:Str->Option iX}{base:Heap}{N:List Str}{qual:Str}{scope:Scope}{f:i9}{cd:iX}{A:jW}{outer:List Env}{s0:iY}{H0:Hp}{E:XK}
theorem zfA_ {l:List Env}{more:List i9}:∀env∈l,∀a,env.frame=rP a->a∈frs l++more:=λenv he a hf=>kj _ (nH.mpr ⟨env,he,hf⟩)
def Takes (X:Cx)(E:XK):Prop:=∀(pins:Pnn) (σ:St) (H:Hp) (s:iY) (x C:i9) (oe:qb) (vs:Array iX) (a0:iX),Inv X pins σ H s->H x=rQ->X.s₀.heap.get? x=rQ->s.heap.get? x=rP oe->oe.cls=.ref C->oe.data=.fields vs->vs[1]?=rP .none->vs[0]?=rP a0->vs[2]?=rP .none->E (.ref C) oe.dict H->X.xe (.ref x) s
theorem zia_:Takes (cxOf (CXx P w) P w K mg base N qual scope f cd A outer s0 H0 E) E:=by
 intro pins σ H s x C oe vs a0 I hx gP he hc hd h1 h0 bK hE;show jD _ _ (leaving _ _) _ _ _
 refine zh9_ (base:=n6 s.heap (frs (envOfC qual scope s0.heap.objs.size f cd::outer)++[x])) (a0:=a0) I.ok.frames (ng I.stack zfA_) rfl he (λb o q=>nz _ q)
  (lu _ (jr _ je)) hd h1 h0 bK λh2 L dd=>?_
 rw[hc]at L;obtain⟨T,u,ok,aC⟩:=zc5_ (ex:=[x]) I rfl rfl (λb hb=>by
  rw[jS.mp hb];exact⟨hx,gP⟩) je L dd
 exact⟨x,T,C,_,H,rfl,I.os,I.bare,u,ok,I.tk,aC,hE⟩
theorem Takes.made {X:Cx}(hT:Takes X E){pins:Pnn}{σ:St}{H:Hp}{s:iY}{h:Heap}{x C:i9}{args:List iX}(I:Inv X pins σ H s)(hex:X.ex=[])(hx:Heap.MadeExcOf s.heap h x (.ref C) args)(hE:E (.ref C) rQ H):X.xe (.ref x) {s with heap:=h}:=by
 obtain⟨t,he,htn,ht⟩:=hx.there;refine hT pins σ H {s with heap:=h} x C _ _ _ (I.kept (t':=s.toks) hx.keeps) (I.hok.none_at hx.new) ?_ he rfl rfl rfl rfl rfl hE;cases e:X.s₀.heap.get? x with
 |none=>rfl|some o=>
  obtain⟨o',z⟩:=I.base.there x o e (λz=>by rw[hex]at z;cases z)
  rw[hx.new]at z;cases z
theorem zgm_:Passes (CXx P w) (cxOf (CXx P w) P w K mg base N qual scope f cd A outer s0 H0 E) E:=by
 intro pins σ H s e s' I h;obtain⟨x,T,C,d,H',rfl,os,bare,un,ok,ht,aC,hE⟩:=h;have I1:Inv (cxOf (CXx P w) P w K mg base N qual scope f cd A outer s0 H0 E) pins σ H' s':=I.call' (ch:=[]) os un ok bare (λb z=>absurd z (by simp))
 obtain⟨oe,vs,a0,oT,ts,he,hc,hd,h1,hTe,hT,hdT,h3⟩:=aC.obj;show jD _ _ (leaving _ _) _ _ _
 refine zhW_ (base:=n6 s'.heap (frs (envOfC qual scope s0.heap.objs.size f cd::outer)++[x,T])) (cls:=.ref C) (a0:=a0) I.ok.frames (ng I1.stack zfA_) rfl
  ⟨oe,vs,T,oT,ts,he,hc,hd,h1,lu _ (jr _ (ji _ je)),hTe,hT,hdT,h3⟩ (λb o q=>nz _ q)
  (lu _ (jr _ je)) aC.dc λh2 L dd=>?_
 have old:∀b,s.heap.get? b=rQ->s0.heap.get? b=rQ:=λb q=>by
  cases e:s0.heap.get? b with
  |none=>rfl|some o=>
   obtain⟨o',z⟩:=I.base.there b o e (λz=>nomatch z)
   rw[q]at z;cases z
 obtain⟨T2,u,ak,fly2⟩:=zc5_ (ex:=[x,T]) I1 rfl rfl (λb hb=>by
  rcases jK.mp hb with rfl |hb
  ·exact⟨aC.hx,old _ aC.nx⟩
  ·rw[jS.mp hb]
   exact⟨aC.hT,old _ aC.nT⟩) je L dd
 exact⟨x,T2,C,d,H',rfl,I1.os,I1.bare,u,ak,I1.tk,fly2,hE⟩
end
noncomputable abbrev bmV:List iX:=[.type "ValueError",.type "Exception",.type "BaseException",.type "object"]
def excK (K:Fgg)(C:i9):Bool:=W.excIn K C bmV "ValueError.__new__"
def gA (K:Fgg)(x:Str):i9:=match lF K jJ x with |some (rP (.ref c))=>c |_=>0
theorem zfn_ {K:Fgg}{x:Str}{c:i9}(h:lF K jJ x=rP (rP (.ref c))):gA K x=c:=by unfold gA;rw[h]
theorem zkd_ {K:Fgg}{h:Heap}{C:i9}(kin:K.In h)(q:excK K C=rR):
  ∃nm qn N bs bm hd sn sub ab col dd k0 k1 k2 k3 k5 mN,h.get? C=rP (excClassObj nm qn C N bs bm hd sn sub ab col dd k0 k1 k2 k3 k5 "ValueError.__new__")/\h.Ns N mN/\mN "__init__"=rQ/\OwnTail h bmV bm:=by
 unfold excK W.excIn at q;split at q
 case h_2=>cases q
 case h_1 dx cx slx at1=>
  split at q
  case h_2=>cases q
  case h_1 Cx tl y0 y1 y2 y3 yn y5 m1 m2=>
   rw[iP,iP,iP,iP,iP]at q;obtain⟨⟨⟨⟨⟨q1,q2⟩,q3⟩,q4⟩,q5⟩,q6⟩:=q;replace q1:=beq_iff_eq.mp q1;replace q2:=beq_iff_eq.mp q2;replace q6:=beq_iff_eq.mp q6;replace q3:cx.hasDel=rS:=by simpa using q3
   subst q1 q2;cases cx;dsimp only at m1 q3 q5 q6;subst m1 q3;cases slx;dsimp only at m2;subst m2;exact⟨_,_,_,_,tl,_,_,_,_,_,dx,y0,y1,y2,y3,y5,_,kin _ _ at1,.of_isNs (qF kin q5),pK kin q5 q6,W.tail_of_in kin q4⟩
section
variable {X:Cx}{E:XK}{C:i9}{x:Str}{e:jw}{es:List jw}{t:TA}{np aj pos:Pos}
def tRaise (C:i9)(E:XK)(t:TA):TS:=λ_ σ H=>t σ H λvs H1=>vs.length<=100/\E (.ref C) rQ H1
theorem zh6_ (hT:Takes X E)(fL:X.calm=rR)(hq:excK X.K C=rR)(hm:X.mg x=rP (.ref C))(ha:PA X (e::es) t)(hg:Gl X x:=by rfl)(az:(x==("__debug__":Str))=rS:=by decide)
  (he:jE (e::es) X.env=(rS,eval e X.env)::jE es X.env:=by rfl) (aw:(lh aj (jE es X.env)).any (·.1)=rS:=by rfl) (hex:X.ex=[]:=by rfl):
  PS X (.Raise (rP (.Call (.Name x np) (e::es) [] aj)) rQ pos) (tRaise C E t):=by
 intro pins s σ H D I h;obtain⟨nm,qn,N,bs,bm,hd,sn,sub,ab,col,dd,k0,k1,k2,k3,k5,mN,hC,hN,hni,TL⟩:=zkd_ I.ok.mod.kin hq
 refine wpAny_Raise_call_subU (C:=C) (nm:=nm) (q:=qn) (N:=N) (bs:=bs) (bm:=bm) (hdct:=hd) (sn:=sn) (sub:=sub) (ab:=ab) (col:=col) (dd:=dd) (k0:=k0) (k1:=k1) (k2:=k2) (k3:=k3) (k5:=k5)
  nL (by decide) nL (mN:=mN) (TL.hasType rfl) (I.ok.hd fL) (by rw[he];show(rS ||(lh aj (jE es X.env)).any (·.1))=rS;rw[aw];rfl) hni (zaP_ I hg hm ⟨rfl,?_⟩ az)
 have h2:=ha aj pins s σ H _ I h;rw[he]at h2 ⊢;refine Calls.evalArgs_plain (ke h2 (λus s1 q=>?_) λ_ _ y=>y)
 obtain⟨vs,H1,I1,r,hl,q⟩:=q;refine⟨rfl,?_,I1.bk _ _ hC,hN.keeps I1.bk,TL.keeps I1.bk,λh' a du=>hT.made I1 hex du q⟩
 show us.length<=jj
 rw[<- r.length];exact ki hl (by rw[sizeLine_eq];decide)
end
section
variable {X:Cx}{a:jw}{ta:TE}{pos:Pos}
def mRepr:V->Hp->VK->Prop:=λx H Q=>match x with |.str z=>(reprText z).length<=jj/\Q (.str (reprText z)) H |_=>False
def mFmt:V->Hp->VK->Prop:=λx H Q=>match x with |.str z=>z.length<=jj/\Q (.str z) H |.int i=>i.natAbs.log2<1920/\Q (tx (strI i)) H |_=>False
theorem zmD_ (ha:PE X a ta):PE X (.FormattedValue a 114 rQ pos) (tUn mRepr ta):=by
 intro pins s σ H Q I h;refine wpAny_FormattedValue_repr (thn (ha pins s σ H _ I h) λv s1 ah=>?_)
 obtain⟨x,H1,I1,r1,q1⟩:=ah;cases x with
 |str z=>
  obtain⟨k,rfl⟩:=r1;refine wpAny_pyReprObj_gives (T:="str") (typeIs_str _ _ _) PySem.F.slot_str_repr PySem.F.entry_str_repr (PySem.F.args_str_repr_1 _) (gives_str_repr z k) ?_ rfl q1.1;exact wpAny_formatField_str ⟨.str (reprText z),H1,I1.tok _,⟨_,rfl⟩,q1.2⟩ ⟨.str (reprText z),H1,(I1.tok _).tok _,⟨_,rfl⟩,q1.2⟩ q1.1
 |_=>exact q1.elim
theorem zmb_ (ha:PE X a ta):PE X (.FormattedValue a (-1) rQ pos) (tUn mFmt ta):=by
 intro pins s σ H Q I h;refine wpAny_FormattedValue_plain (thn (ha pins s σ H _ I h) λv s1 ah=>?_)
 obtain⟨x,H1,I1,r1,q1⟩:=ah;cases x with
 |str z=>
  obtain⟨k,rfl⟩:=r1;exact wpAny_formatField_str ⟨.str z,H1,I1,⟨_,rfl⟩,q1.2⟩ ⟨.str z,H1,I1.tok _,⟨_,rfl⟩,q1.2⟩ q1.1
 |int i=>
  obtain⟨k,rfl⟩:=r1;refine wpAny_formatField_int q1.1 ⟨tx (strI i),H1,I1.tok _,⟨s1.toks+1,?_⟩,q1.2⟩;unfold strI;rw[<- z0_]
 |_=>exact q1.elim
abbrev TJ:=Str->St->Hp->(Str->Hp->Prop)->Prop
def PJ (X:Cx)(vs:List jw)(t:TJ):Prop:=∀(acc:Str) (pins:Pnn) (s:iY) (σ:St) (H:Hp) (Q:Str->iY->Prop) (R:Str->Hp->Prop),Inv X pins σ H s->t acc σ H R->(∀out s1 H1,Inv X pins σ H1 s1->R out H1->Q out s1) ->
 Joins (model X.prog X.w) X.A X.xe (evalEach vs X.env) acc Q s
def tJ0:TJ:=λacc _ H R=>R acc H
def tJ1 (ta:TE)(tr:TJ):TJ:=λacc σ H R=>ta σ H λx H1=>match x with |.str z=>(acc++z).length<=jj/\tr (acc++z) σ H1 R |_=>False
theorem zng_:PJ X [] tJ0:=λacc pins s σ H Q R I h hq=>hq acc s H I h
theorem zlw_ {vs:List jw}{tr:TJ}(ha:PE X a ta)(hr:PJ X vs tr)(he:evalEach (a::vs) X.env=eval a X.env::evalEach vs X.env:=by rfl):PJ X (a::vs) (tJ1 ta tr):=by
 intro acc pins s σ H Q R I h hq;rw[he];refine ke (ha pins s σ H _ I h) (λv s1 q=>?_) λ_ _ y=>y
 obtain⟨x,H1,I1,r1,q1⟩:=q;cases x with
 |str z=>
  obtain⟨k,rfl⟩:=r1;exact⟨z,k,rfl,q1.1,hr (acc++z) pins s1 σ H1 Q R I1 q1.2 hq⟩
 |_=>exact q1.elim
def tJoin (tj:TJ):TE:=λσ H Q=>tj pk σ H λout H1=>out.length<=jj/\Q (.str out) H1
theorem zfB_ {b:jw}{vs:List jw}{tj:TJ}(h:PJ X (a::b::vs) tj):PE X (.JoinedStr (a::b::vs) pos) (tJoin tj):=by
 intro pins s σ H Q I q;refine wpAny_JoinedStr (h pk pins s σ H _ _ I q λout s1 H1 I1 q1=>⟨q1.1,.str out,H1,I1.tok _,⟨_,rfl⟩,q1.2⟩)
end
def isaK (K:Fgg)(D:i9)(c:iX):Option Bool:=
 if(lE K (.ref D) "__getattribute__"==rP (rP (.builtin "BaseException.__getattribute__")) && lE K (.ref D) "__getattr__"==rP rQ && pq K D (.type "BaseException")==rP rR) && nq K D && lE K (.ref D) "__class__"==rP (rP (.builtin "object.__class__")) && o9 K (.builtin "object.__class__") "__get__"==rP (rP (.builtin "getset_descriptor.__get__"))
  && W.takesIn K (.builtin "object.__class__")==rP rR && pq K D (.type "object")==rP rR then qg K (.ref D) c else rQ
end L2
namespace LX
open PySem PySem.W PySem.Calls PyProof.Rows Builtin Builtin.ObjectAttr Builtin.Getset_descriptor
section
variable {prog:jL}{w:jU}{A:jW}{K:Frag}{x D:i9}{dc:Option i9}
theorem ty_x {M:Model}{h:Heap}(I:L2.XAt x D dc h):Looks M h (typeOf (.ref x)) (.ref D):=by
 obtain⟨o,_,e,c,_⟩:=I;exact c ▸ (Looks.ld e).andThen .now
theorem zhr_ {M:Model}{E:iX->iY->Prop}{s:iY}{bW:iX}{Q:Unit->iY->Prop}(T0:Looks M s.heap (typeOf (.ref x)) (.ref D))(T8:Looks M s.heap (isSubtype (.ref D) (.type "BaseException")) rR)(hq:Q () s):
  jD M A (checkBuiltinCall "BaseException.__getattribute__" ⟨[.ref x,bW],[]⟩) Q E s:=by
 have hk:builtinKind "BaseException.__getattribute__"=rP .slot:=by decide +kernel
 have b_:splitId "BaseException.__getattribute__"=rP ("BaseException", "__getattribute__"):=by decide +kernel
 have gh:=F.args_bexc_ga (.ref x) bW;simp only[checkBuiltinCall,hk,b_];refine iZ ?_;unfold isInstance;cases s with
 |mk hp gs dr tk ost=>
 refine iZ (T0.at (T8.at ?_))
 repeat(first |assumption |wp_step)
theorem zid_ {E:iX->iY->Prop}{s:iY}{Q:Option iX->iY->Prop}(fH:findIn K (.ref D) "__getattribute__"=rP (rP (.builtin "BaseException.__getattribute__")))(fG:findIn K (.ref D) "__getattr__"=rP rQ)
  (ha:findIn K (.ref D) "__class__"=rP (rP (.builtin "object.__class__")))
  (hn:specialIn K (.builtin "object.__class__") "__get__"=rP (rP (.builtin "getset_descriptor.__get__"))) (cF:takesIn K (.builtin "object.__class__")=rP rR) (hm:mroIn K D (.type "object")=rP rR) (hb:mroIn K D (.type "BaseException")=rP rR)
  (kin:K.In s.heap) (I:L2.XAt x D dc s.heap) (h:Q (rP (.ref D)) {s with toks:=s.toks+1}):jD (model prog w) A (getAttr? (.ref x) "__class__") Q E s:=by
 cases s with
 |mk hp gs dr tk ost=>
 have T0:=ty_x (M:=model prog w) I;have T1:=looks_findIn (M:=model prog w) kin fH;have T2:=looks_findIn (M:=model prog w) kin fG;have T3:=looks_findIn (M:=model prog w) kin ha;have T4:=looks_specialIn (M:=model prog w) kin hn;have T5:=looks_takesIn (M:=model prog w) kin cF;have T6:=looks_mroIn (M:=model prog w) kin hm;have T8:=looks_mroIn (M:=model prog w) kin hb;have T7:Looks (model prog w) hp (find (.ref x) (.ref D) "__class__") (.bind (.builtin "getset_descriptor.__get__") (.builtin "object.__class__")):=
  T3.andThen (T4.andThen ((show Looks (model prog w) hp (dataDescriptor? (rP (.builtin "object.__class__")) (rP (.builtin "getset_descriptor.__get__"))) (rP (.builtin "getset_descriptor.__get__",.builtin "object.__class__"))from T5.andThen .now).andThen (.tag .now)))
 have bK:(onTheHeap (jQ D) && nj "BaseException.__getattribute__"==nj "object.__getattribute__")=rS:=(show(nj "BaseException.__getattribute__"==nj "object.__getattribute__")=rS by decide +kernel)
 have f3:=ph.ga.bind (.ref x);unfold getAttr? getAttrBy? getAttrBy;refine iZ (wpAny_mkText ?_);refine iZ (wpAny_attempt (wpAny_holding ?_));refine iZ (T0.at ?_);refine iZ (T1.at ?_);simp only[bK];rw[if_neg (by decide)]
 unfold getAttrByItsOwn hookBefore;refine iZ ?_;show jD _ _ (typeLookup (.ref D) "__getattr__") _ _ _
 refine T2.at ?_;refine iZ (wpAny_attempt (wpAny_holding ?_));show jD _ _ (boundAndCalled _ _ _) _ _ _
 unfold boundAndCalled;rw[f3];refine iZ (jy ?_);refine wpAny_call ?_;refine codeAny_call_builtin ph.ga.plain F.entry_bexc_ga ?_;refine(show jD _ _ (checkBuiltinCall "BaseException.__getattribute__" ⟨[.ref x,.str "__class__" tk],[]⟩) _ _ _ from ?_)
 refine zhr_ T0 T8 ?_;unfold Builtin.«object.__getattribute__»;refine iZ (jy ?_);refine iZ (jy ?_);refine iZ (T0.at ?_);refine iZ (T7.at ?_);show jD _ _ (holding [nj "object.__class__"] (call (.builtin "getset_descriptor.__get__") [.builtin "object.__class__",.ref x,.ref D])>>=ret) _ _ _
 refine iZ (wpAny_holding (wpAny_call ?_));refine codeAny_call_builtin KF.slot_gs.plain KF.entry_gs (KF.slot_gs.check _ _ _ _ _ _ _ _ KF.type_class (KF.args_gs _ _ _) ?_);unfold Builtin.«getset_descriptor.__get__» descrGet;rw[dga_obj];refine iZ (jy ?_);unfold descrGetter descrCheckInstance descrNameAndClass isInstance;simp only[KF.owner_class];repeat lk
 refine⟨Code.quiet_builtin _ (by decide +kernel),codeAny_builtin KF.entry_class ?_⟩;unfold Builtin.«object.__class__» shownTypeOf;repeat lk
 exact h
theorem it_x {h:Heap}(hd:hasDictIn K D=rR)(kin:K.In h):(∃c d cd sl,h.get? D=rP ⟨c,d,.cls cd,sl⟩)/\∀M:Model,Looks M h (isType (.ref D)) rR:=by
 obtain⟨cd,e,_⟩:=any_some hd;unfold clsIn at e;split at e
 case h_2=>cases e
 case h_1 c1 d1 cd1 sl1 at1=>
  refine⟨⟨_,_,_,_,kin _ _ at1⟩,λM A' Q' E' s' k q=>?_⟩
  unfold isType loadHead;exact iZ (wpAny_loadPart (k _ _ (kin _ _ at1)) (jy q))
theorem kitx_x (fH:findIn K (.ref D) "__getattribute__"=rP (rP (.builtin "BaseException.__getattribute__")))(fG:findIn K (.ref D) "__getattr__"=rP rQ)(hb:mroIn K D (.type "BaseException")=rP rR)(hd:hasDictIn K D=rR)(ha:findIn K (.ref D) "__class__"=rP (rP (.builtin "object.__class__")))
  (hn:specialIn K (.builtin "object.__class__") "__get__"=rP (rP (.builtin "getset_descriptor.__get__"))) (cF:takesIn K (.builtin "object.__class__")=rP rR) (hm:mroIn K D (.type "object")=rP rR):
  KitX K (.ref x) (.ref D) (L2.XAt x D dc):=
 ⟨λ_ _ _ I=>ty_x I,λ_ _ kin _=>(it_x hd kin).2 _,(λh tp dd aa n sl kin e=>by
  obtain⟨⟨c,d,cd,sl2,e2⟩,_⟩:=it_x hd kin;refine Bool.eq_false_iff.mpr λq=>?_
  have z:=Value.ref.inj (beq_iff_eq.mp q);subst z;have e3:=e2.symm.trans e;cases e3),λkin I k=>zid_ fH fG ha hn cF hm hb kin I k⟩
end
end LX
namespace L2
open PySem PySem.Spec PyProof.Rows
noncomputable def clsV:V->Option iX
 |.ty c=>rP (.type c)|.ref a=>rP (.ref a)|_=>rQ
def mIsaX (K:Fgg):List V->Hp->VK->Prop:=λxs H Q=>match xs with
 |[.ref p,c]=>∃D d v b,H p=rP (XO p D d)/\clsV c=rP v/\isaK K D v=rP b/\Q (.bl b) H|_=>False
theorem zfW_ {X:Cx}:CallR X (.builtin "isinstance") (mIsaX X.K):=by
 intro pins s σ H xs us Q I r h;unfold mIsaX at h;split at h
 ·rename_i p c
  obtain⟨D,d,v,b,hp,hv,hk,q⟩:=h;obtain⟨u,z,rfl,r1,r2⟩:=vals2 r;obtain rfl:u=.ref p:=r1;have ez:z=v:=by
   cases c<;>first |(cases hv;exact r2)|cases hv
  subst ez;unfold isaK at hk;split at hk
  case isFalse=>cases hk
  case isTrue g=>
   rw[iP,iP,iP,iP,iP,iP,iP]at g;obtain⟨⟨⟨⟨⟨⟨⟨g1,g7⟩,g8⟩,g2⟩,g3⟩,g4⟩,g5⟩,g6⟩:=g;obtain⟨hx,_,_⟩:=I.hok p _ hp;exact zz_ (mi (LX.kitx_x (beq_iff_eq.mp g1) (beq_iff_eq.mp g7) (beq_iff_eq.mp g8) g2 (beq_iff_eq.mp g3) (beq_iff_eq.mp g4) (beq_iff_eq.mp g5) (beq_iff_eq.mp g6)) I.kIn hx hk (λz=>by cases z) λtk b7=>⟨.bl b,H,I.tok tk,rfl,q⟩)
 ·exact h.elim
section
end
def XP (X:Cx)(pins:Pnn)(W:St->XK)(e:iX)(s':iY):Prop:=∃af Hb sb,Inv X pins af Hb sb/\CXx X.prog X.w X.stack Hb sb (W af) e s'
abbrev TX:=Ends->(St->XK)->St->Hp->Prop
def PSx (X:Cx)(st:kq)(t:TX):Prop:=
 ∀(pins:Pnn) (s:iY) (σ:St) (H:Hp) (D:Ends) (W:St->XK),Inv X pins σ H s->t D W σ H->jD (model X.prog X.w) X.A (exec st X.env) (SP X pins D) (XP X pins W) s
def PSsx (X:Cx)(st:List kq)(t:TX):Prop:=
 ∀(pins:Pnn) (s:iY) (σ:St) (H:Hp) (D:Ends) (W:St->XK),Inv X pins σ H s->t D W σ H->jD (model X.prog X.w) X.A (execs st X.env) (SP X pins D) (XP X pins W) s
theorem PA.nox {X:Cx}{es:List jw}{t:TA}(h:PA X.nox es t):PA X es t:=λpos pins s σ H Q I hw=>
 ke (h pos pins s σ H Q (I.wish _) hw) (λ_ _ ⟨v,H',I',r,q⟩=>⟨v,H',I'.unwish,r,q⟩) λ_ _ z=>jM z
section
variable {X:Cx}{st:kq}{t u:TX}{k:Nat}{x:Str}{ps:List Str}{sp:Sp}{p pos pos':Pos}{e:jw}{es:List jw}{ta:TA}
theorem ze5_ (h1:PSx X st t):PSsx X [st] t:=by
 intro pins s σ H D W I h;refine wpAny_execs_cons (thn (h1 pins s σ H D W I h) λf s1 q=>?_)
 cases f with
 |next=>exact wpAny_execs_nil q|ret v=>exact q|brk=>exact q|cont=>exact q
theorem zkj_ (G:Gd X.prog X.w X.K X.mg X.base (CXx X.prog X.w) k x ps sp)(hr:Room k X.A)(ha:PA X.nox (e::es) ta){pins:Pnn}{s:iY}{σ:St}{H:Hp}{Q:VK}{W:St->XK}(I:Inv X pins σ H s)
  (h:ta σ H λvs H1=>sp (vs++[]) H1 Q (W σ)) (hg:Gl X x:=by rfl) (az:(x==("__debug__":Str))=rS:=by decide)
  (he:jE (e::es) X.env=(rS,eval e X.env)::jE es X.env:=by rfl) (aw:(lh pos (jE es X.env)).any (·.1)=rS:=by rfl):
  jD (model X.prog X.w) X.A (eval (.Call (.Name x p) (e::es) [] pos) X.env) (EP X pins σ Q) (XP X pins W) s:=by
 obtain⟨f,fd,F,hm,hk,hb⟩:=G;refine ll (zaP_ I hg hm ?_ az);have ib:=(PA.nox (X:=X.wish (XP X pins W)) ha) pos pins s σ H _ (I.wish _) h;refine pL (h₀:=X.base) I.ok.mod.kin hk (thn ib λus s1 q=>?_) he aw
 obtain⟨vs,H1,I1,r,q⟩:=q;have I1:=I1.unwish;refine⟨I1.kIn,?_⟩;have r2:Vals (vs++[]) (us++[]):=r.append .nil;have hl:(us++[]).length=ps.length:=by rw[<- r2.length];exact F.len _ _ _ _ q
 refine wpAny_call (codeAny_mono (F.run X.A X.stack s1 H1 ⟨us,[]⟩ (us++[]) (vs++[]) Q (W σ) hr I1.env0 (.inl I1.tk) (hb s1 us I1.kIn hl) r2 q) λr s' hq=>?_)
 cases r with
 |error e=>exact⟨σ,H1,s1,I1,hq⟩|ok fl=>
  cases fl with
  |ret u=>exact I1.after hq|next=>exact jM hq|brk=>exact jM hq|cont=>exact jM hq
def tDropX (sp:Sp)(ta:TA):TX:=λD W σ H=>ta σ H λvs H1=>sp (vs++[]) H1 (λ_ H2=>D.nx σ H2) (W σ)
theorem ziX_ (G:Gd X.prog X.w X.K X.mg X.base (CXx X.prog X.w) k x ps sp)(hr:Room k X.A)(ha:PA X.nox (e::es) ta)(hg:Gl X x:=by rfl)(az:(x==("__debug__":Str))=rS:=by decide)
  (he:jE (e::es) X.env=(rS,eval e X.env)::jE es X.env:=by rfl) (aw:(lh pos (jE es X.env)).any (·.1)=rS:=by rfl)
  (hs:swapsWith (.Call (.Name x p) (e::es) [] pos) rQ pos'.line X.env=pure rS:=by rfl):PSx X (.Expr (.Call (.Name x p) (e::es) [] pos) pos') (tDropX sp ta):=by
 intro pins s σ H D W I h;exact wpAny_Expr_any (thn (zkj_ G hr ha I h hg az he aw) λv s1 ⟨y,H1,I1,r1,q1⟩=>⟨σ,H1,I1,q1⟩) I.quiet hs
end
section
variable {X:Cx}{pins:Pnn}{σ:St}{Hb H':Hp}{sb s1:iY}{x T C:i9}{d:Option i9}
theorem landed (Ib:Inv X pins σ Hb sb)(os:s1.os=sb.os)(bare:AllBare s1.gens)(un:Un (frs X.stack) [] Hb H' sb.heap s1.heap)(ok:HOk X.prog X.w H' s1.heap)(aC:FlyX x T C d H' sb.heap s1.heap){h':Heap}{a0:iX}
  (f:Heap.FlyingW (n6 s1.heap (frs X.stack++[x,T])) X.stack x (.ref C) a0 h') (up:s1.heap.UpToSlots h') (dd:Dc x d h') (ht:0<s1.toks:=by first |assumption |exact Inv.tk ‹_› |exact kn _ |(refine i6 ?_ ‹_›;exact Inv.tk ‹_›)|exact i6 (Inv.tk ‹_›) (jZ _ _)):Inv X pins σ (upd H' x (XO x C d)) {s1 with heap:=h'}:=by
 have ne:∀b o,sb.heap.get? b=rP o->b≠x/\b≠T:=λb o q=>⟨(λz=>by rw[z,aC.nx]at q;cases q),(λz=>by rw[z,aC.nT]at q;cases q)⟩
 have nt:∀b o,H' b=rP o->b≠x/\b≠T:=λb o q=>⟨(λz=>by rw[z,aC.hx]at q;cases q),(λz=>by rw[z,aC.hT]at q;cases q)⟩
 have I1:Inv X pins σ H' s1:=Ib.call' (ch:=[]) os un ok bare (λb z=>absurd z (by simp))
 have aL:∀b o,s1.heap.get? b=rP o->b∉frs X.stack->b≠x/\b≠T->h'.get? b=rP o:=λb o q n1 n2=>f.1 b o (nW _ q λz=>by
  grind)
 have bU:∀b o,s1.heap.get? b=rP o->b∈frs X.stack->∃sl,h'.get? b=rP {o with slots:=sl}:=λb o q hb=>up b o q (by
  obtain⟨_,o',q',d⟩:=I1.stack.mem hb;cases q.symm.trans q';exact d)
 have old:∀b,b≠x->upd H' x (XO x C d) b=H' b:=λb h=>zv_ h
 refine Ib.call' (s':={s1 with heap:=h'}) (ch:=[]) os ⟨λb o q n hb hx=>?_,λb o q n hb hx=>?_,λb o q n hx=>?_,λb o q hx=>?_,λb xs q=>?_,λb o u q=>?_,λb p' q' q=>?_⟩ (λa o e=>?_) bare (λb z=>absurd z (by simp))
 ·exact aL b o (un.keep b o q n hb hx) hb (ne b o q)
 ·obtain⟨sl,e⟩:=un.slot b o q n hb hx
  obtain⟨cO,e'⟩:=bU b _ e hb;exact⟨cO,e'⟩
 ·rw[old b (ne b o q).1]
  exact un.free b o q n hx
 ·obtain⟨o',e⟩:=un.there b o q hx
  grind
 ·have z:=un.tups b xs q
  rw[old b (nt b _ z).1];exact z
 ·have z:=un.frzs b o u q
  rw[old b (nt b _ z).1];exact z
 ·have z:=un.tbls b p' q' q
  rw[old b (nt b _ z).1];exact z
 ·by_cases ha:a=x
  ·subst ha
   rw[zj_]at e;cases e;obtain⟨ob,vs,q1,q2,q3,_⟩:=f.first;obtain⟨o2,z1,z2,z3⟩:=dd;cases q1.symm.trans z1;exact xo_ok ⟨ob,vs,q1,q2,z2,q3,z3 _ q3⟩
  ·rw[old a ha]at e
   refine(ok a o e).stay (λb u hb q=>?_) (λb q=>by rw[old b (nt b _ q).1];exact q) (λb xs q=>by rw[old b (nt b _ q).1];exact q) λb ob q=>by rw[old b (nt b _ q).1];exact q
   have tr:∃o,H' b=rP o:=by
    grind
   obtain⟨ob,tr⟩:=tr;refine aL b u q (λz=>?_) (nt b ob tr)
   rw[I1.stkFree b z]at tr;cases tr
end
noncomputable abbrev Cx.inX (X:Cx)(x:i9):Cx:={X with A:=X.A.mark (rP (.ref x)),calm:=rS,xe:=λ_ _=>False}
theorem Inv.inX {X:Cx}{pins:Pnn}{σ:St}{H:Hp}{s:iY}(I:Inv X pins σ H s)(x:i9):Inv (X.inX x) pins σ H s:=
 ⟨⟨I.ok.mod,I.ok.kind,I.ok.glob,I.ok.blt,I.ok.above,I.ok.inj,I.ok.has,I.ok.cab,(λz=>by cases z),I.ok.frames,I.ok.stk,I.ok.exf,I.ok.bs,I.ok.bsz,I.ok.noex,I.ok.exfs,I.ok.funs,I.ok.frf,I.ok.tb⟩,I.os,I.bare,I.base,I.loc,I.cell,I.free,I.freeC,I.pin,I.hok,I.len,I.tk⟩
theorem Inv.outX {X:Cx}{pins:Pnn}{σ:St}{H:Hp}{s:iY}{x:i9}(ok:X.Ok)(I:Inv (X.inX x) pins σ H s):Inv X pins σ H s:=
 ⟨ok,I.os,I.bare,I.base,I.loc,I.cell,I.free,I.freeC,I.pin,I.hok,I.len,I.tk⟩
theorem SP.outX {X:Cx}{pins:Pnn}{D:Ends}{f:Flow}{s':iY}{x:i9}(ok:X.Ok)(h:SP (X.inX x) pins D f s'):SP X pins D f s':=by
 cases f with
 |next=>obtain⟨af,H',I,q⟩:=h;exact⟨af,H',I.outX ok,q⟩|brk=>obtain⟨af,H',I,q⟩:=h;exact⟨af,H',I.outX ok,q⟩|cont=>obtain⟨af,H',I,q⟩:=h;exact⟨af,H',I.outX ok,q⟩|ret u=>obtain⟨v,af,H',I,r,q⟩:=h;exact⟨v,af,H',I.outX ok,r,q⟩
def catN (K:Fgg)(C S:i9):Bool:=
 rq K (.ref S)==rP (.type "type") && (qG K S).isSome && pq K S (.type "BaseException")==rP rR && pq K C (.ref S)==rP rS
def catK (K:Fgg)(C S:i9):Bool:=
 rq K (.ref S)==rP (.type "type") && (qG K S).isSome && pq K S (.type "BaseException")==rP rR && pq K C (.ref S)==rP rR
theorem zgl_ {K:Fgg}{M:Model}{A:jW}{E:iX->iY->Prop}{s:iY}{x C S:i9}{d:Option i9}{Q:Bool->iY->Prop}(kin:K.In s.heap)(I:XAt x C d s.heap)(h:catK K C S=rR)(q:Q rR s):
  jD M A (excMatches (.ref x) (.ref S)) Q E s:=by
 unfold catK at h;rw[iP,iP,iP]at h;obtain⟨⟨⟨h1,h2⟩,h3⟩,h4⟩:=h;have T1:=qj (M:=M) kin (beq_iff_eq.mp h1);have T3:=nZ (M:=M) kin (beq_iff_eq.mp h3);have T4:=nZ (M:=M) kin (beq_iff_eq.mp h4);have T5:=LX.ty_x (M:=M) I;have T6:qH M s.heap (isSubtype (.type "type") (.type "tuple")) rS:=.of_pure tc_notTuple;have T2:qH M s.heap (isType (.ref S)) rR:=by
  obtain⟨cd,e⟩:=j6.mp h2;unfold qG at e;split at e
  case h_2=>cases e
  case h_1 c1 d1 cd1 sl1 at1=>
   intro A' Q' E' s' k z;unfold isType loadHead;exact iZ (wpAny_loadPart (k _ _ (kin _ _ at1)) (jy z))
 cases s with
 |mk hp gs dr tk ost=>
 unfold excMatches isInstance isExcClass
 repeat lk
 exact q
theorem zfH_ {K:Fgg}{M:Model}{A:jW}{E:iX->iY->Prop}{s:iY}{x C S:i9}{d:Option i9}{Q:Bool->iY->Prop}(kin:K.In s.heap)(I:XAt x C d s.heap)(h:catN K C S=rR)(q:Q rS s):
  jD M A (excMatches (.ref x) (.ref S)) Q E s:=by
 unfold catN at h;rw[iP,iP,iP]at h;obtain⟨⟨⟨h1,h2⟩,h3⟩,h4⟩:=h;have T1:=qj (M:=M) kin (beq_iff_eq.mp h1);have T3:=nZ (M:=M) kin (beq_iff_eq.mp h3);have T4:=nZ (M:=M) kin (beq_iff_eq.mp h4);have T5:=LX.ty_x (M:=M) I;have T6:qH M s.heap (isSubtype (.type "type") (.type "tuple")) rS:=.of_pure tc_notTuple;have T2:qH M s.heap (isType (.ref S)) rR:=by
  obtain⟨cd,e⟩:=j6.mp h2;unfold qG at e;split at e
  case h_2=>cases e
  case h_1 c1 d1 cd1 sl1 at1=>
   intro A' Q' E' s' k z;unfold isType loadHead;exact iZ (wpAny_loadPart (k _ _ (kin _ _ at1)) (jy z))
 cases s with
 |mk hp gs dr tk ost=>
 unfold excMatches isInstance isExcClass
 repeat lk
 exact q
theorem zdk_ {X:Cx}{pins:Pnn}{σ:St}{H:Hp}{s:iY}{M:Model}{A:jW}{E:iX->iY->Prop}{i:Nat}{n:Str}{pos:Pos}{Q:Unit->iY->Prop}(I:Inv X pins σ H s)(hN:X.N.Nodup)(hi:X.N[i]?=rP n)
  (hl:X.env.scope.names.lookup n=rP .local) (h:∀s',Inv X pins (σ.set i rQ) H s'->Q () s'):jD M A (do bindName X.env n .none;unbindBehindTheSuite X.env n pos) Q E s:=by
 have cm:(X.env.scope.kind == .class ||(X.env.scope.kind == .module && X.env.locals != X.env.globals))=rS:=by rw[I.ok.kind];rfl
 have hk:X.env.kindOf n=rP .local:=hl;refine iZ (wpAny_bindName (zbD_ (v:=.non) I hN hi (.inl hl) rfl (λs1 I1=>?_) (.inr hl)))
 obtain⟨m,hn,fA⟩:=id I1.loc;unfold unbindBehindTheSuite;refine wpAny_onRaise ?_;unfold unbindName;refine iZ (wpAny_point ?_);refine iZ ?_;unfold deleteName;simp only[hk,cm];rw[if_neg (by decide)]
 have bP:i<σ.length:=by rw[I.len];exact(jN.mp hi).1
 have there:(m n).isSome=rR:=by
  obtain⟨u,r,q⟩:=fA i n .non hi (kY bP) (.inl hl);rcases q with⟨_,e⟩|⟨z,_⟩
  ·rw[e];rfl
  ·rw[hk]at z
   rcases z with z |z<;>cases z
 refine iZ (wpAny_nsDel_keeps hn λh2 v cG hs=>?_)
 rw[there];simp only[Bool.not_true,Bool.false_eq_true,if_false];refine jy (wpAny_point (h _ ?_));obtain⟨oL,_,_,hoL,_⟩:=id hn;have cne:=I1.cne;have low:∀b o,X.s₀.heap.get? b=rP o->b≠X.env.locals:=λb o e=>jT (i6 (jF e) I1.ok.above)
 refine⟨I1.ok,I1.os,I1.bare,⟨λb o e n hb hx=>?_,λb o e n hb hx=>?_,I1.base.free,λb o e hx=>?_,I1.base.tups,I1.base.frzs,I1.base.tbls⟩,⟨_,cG,λj y v' e1 e2 e3=>?_⟩,λy c e=>?_,I1.free,I1.freeC,λp hp=>?_,λb ob e=>?_,by simpa using I.len,I1.tk⟩
 ·exact(hs.2 b (low b o e)).trans (I1.base.keep b o e n hb hx)
 ·obtain⟨sl,e1⟩:=I1.base.slot b o e n hb hx
  exact⟨sl,(hs.2 b (low b o e)).trans e1⟩
 ·obtain⟨o',e1⟩:=I1.base.there b o e hx
  exact⟨o',(hs.2 b (low b o e)).trans e1⟩
 ·by_cases hj:j=i
  ·grind
  ·rw[jI (mO hj)]at e2
   obtain⟨u',r',q⟩:=fA j y v' e1 (by rw[jI (mO hj)];exact e2) e3
   refine⟨u',r',?_⟩;rcases q with⟨k,e⟩|⟨k,c,e,z⟩
   ·refine .inl ⟨k,?_⟩
    have:y≠n:=λe=>hj (zcD_ hN e1 (e ▸ hi))
    simp[this,e]
   ·exact .inr ⟨k,c,e,z.sameBut hs (cne y c e)⟩
 ·obtain⟨w',z⟩:=I1.cell y c e
  exact⟨w',z.sameBut hs (cne y c e)⟩
 ·obtain⟨e,n,ne,nf,d⟩:=I1.pin p hp
  exact⟨(hs.2 p.1 ne).trans e,n,ne,nf,d⟩
 ·refine(I1.hok b ob e).stay (λc w' hc q=>(hs.2 c ?_).trans q) (λ_ q=>q) λ_ _ q=>q
  rintro rfl;rcases hc with rfl |hc
  ·rw[I1.free]at e;cases e
  ·rw[I1.free]at hc;cases hc
abbrev zfm_ (X:Cx)(s1:iY)(x T:i9):Heap:=n6 s1.heap (frs X.stack++[x,T])
section
variable {X:Cx}{body:List kq}{tb:TX}{ts:TS}{S:i9}{sx n:Str}{i:Nat}{bT:kq}{aU:List kq}{np bN pos:Pos}
noncomputable def gone (i:Nat)(D:Ends):Ends:={nx:=λσ H=>D.nx (σ.set i rQ) H,rt:=D.rt,bk:=λσ H=>D.bk (σ.set i rQ) H,ct:=λσ H=>D.ct (σ.set i rQ) H}
abbrev TH:=i9->Option i9->Ends->St->Hp->Prop
def tHAs (K:Fgg)(S:i9)(i:Nat)(ts:TS)(rest:TH):TH:=λC d D σ H=>if catK K C S=rR then∀x,H x=rQ->ts (gone i D) (σ.set i (rP (.ref x))) (upd H x (XO x C d))else catN K C S=rR/\rest C d D σ H
def tH0:TH:=λ_ _ _ _ _=>False
def tTryH (tb:TX)(th:TH):TS:=λD σ H=>tb D (λaf c d H'=>∃C,c=.ref C/\th C d D af H') σ H
def PH (X:Cx)(hs:List ExceptHandler)(t:TH):Prop:=∀(pins:Pnn) (σ:St) (H:Hp) (D:Ends) (s:iY) (x C:i9) (d:Option i9) (E:iX->iY->Prop),Inv X pins σ (upd H x (XO x C d)) s->H x=rQ ->
 (∀A' Q' E',(∀h2,Inv X pins σ (upd H x (XO x C d)) {s with heap:=h2}->Q' () {s with heap:=h2})->jD (model X.prog X.w) A' (setFlight (.ref x) rQ) Q' E' s)->t C d D σ H->jD (model X.prog X.w) X.A (handleBy (.ref x) X.env hs) (SP X pins D) E s
variable {th rest:TH}{hs:List ExceptHandler}
theorem zjk_:PH X [] tH0:=λ_ _ _ _ _ _ _ _ _ _ _ _ h=>h.elim
theorem zju_ {t:Prop}{nm:Option Str}(hm:X.mg sx=rP (.ref S))(hg:Gl X sx)(az:(sx==("__debug__":Str))=rS){pins:Pnn}{σ:St}{H:Hp}{D:Ends}{s:iY}{x C:i9}{d:Option i9}{E:iX->iY->Prop}(I:Inv X pins σ (upd H x (XO x C d)) s)
  (h:if catK X.K C S=rR then codeAny (model X.prog X.w) (X.A.mark (rP (.ref x))) (.handlers (.ref x) [.ExceptHandler rQ nm (bT::aU) bN] X.env) (λr ay=>match r with
     |.ok f=>(match nm with
      |none=>SP X pins D f ay|some n=>jD (model X.prog X.w) X.A (do bindName X.env n .none;unbindBehindTheSuite X.env n bN) (λ_ av=>SP X pins D f av) E ay)
     |.error y=>cameBackBy (model X.prog X.w) X.A X.env E y ay) s else catN X.K C S=rR/\jD (model X.prog X.w) X.A (handleBy (.ref x) X.env hs) (SP X pins D) E s):
  jD (model X.prog X.w) X.A (handleBy (.ref x) X.env (.ExceptHandler (rP (.Name sx np)) nm (bT::aU) bN::hs)) (SP X pins D) E s:=by
 refine wpAny_handleBy_cons (codeAny_handlers_test (zaP_ (X:=X.inX x) (I.inX x) hg hm ?_ az)) (by intro q;cases q)
 obtain⟨xa,_⟩:=I.hok x _ zj_;split at h
 case isTrue hc=>exact zgl_ (K:=X.K) I.kIn xa hc h
 case isFalse hc=>exact zfH_ (K:=X.K) I.kIn xa h.1 h.2
theorem ph_as (hm:X.mg sx=rP (.ref S))(hN:X.N.Nodup)(hi:X.N[i]?=rP n)(hl:X.env.scope.names.lookup n=rP .local)(c9:∀x,PSs (X.inX x) (bT::aU) ts)(hr:PH X hs rest)
  (hg:Gl X sx:=by rfl) (az:(sx==("__debug__":Str))=rS:=by decide):PH X (.ExceptHandler (rP (.Name sx np)) (rP n) (bT::aU) bN::hs) (tHAs X.K S i ts rest):=by
 intro pins σ H D s x C d E I hx fl h;refine zju_ (t:=True) hm hg az I ?_;unfold tHAs at h;split at h
 case isFalse hc=>rw[if_neg hc];exact⟨h.1,hr pins σ H D s x C d E I hx fl h.2⟩
 case isTrue hc=>
  rw[if_pos hc];refine codeAny_handlers_suite_as (fl _ _ _ λh6 I6=>?_)
  refine zbD_ (X:=X.inX x) (v:=.ref x) (I6.inX x) hN hi (.inl hl) rfl (λs7 I7=>?_) (.inr hl)
  refine ke (c9 x pins s7 _ _ _ I7 (h x hx)) (λf s8 q=>?_) λ_ _ z=>z.elim
  have q:=q.outX I.ok;cases f with
  |next=>
   obtain⟨bG,H2,I8,q⟩:=q;exact zdk_ I8 hN hi hl λs9 I9=>⟨_,H2,I9,q⟩
  |brk=>
   obtain⟨bG,H2,I8,q⟩:=q;exact zdk_ I8 hN hi hl λs9 I9=>⟨_,H2,I9,q⟩
  |cont=>
   obtain⟨bG,H2,I8,q⟩:=q;exact zdk_ I8 hN hi hl λs9 I9=>⟨_,H2,I9,q⟩
  |ret u=>
   obtain⟨v,bG,H2,I8,r,q⟩:=q;exact zdk_ I8 hN hi hl λs9 I9=>⟨v,_,H2,I9,r,q⟩
theorem zgV_ {h₀:ExceptHandler}(aD:X.stack=X.env::X.outer)(ba:X.env.frame=rP X.env.locals)(hb:PSsx X body tb)(hh:PH X (h₀::hs) th):PS X (.Try body (h₀::hs) [] [] pos) (tTryH tb th):=by
 intro pins s σ H D I h;refine wpAny_Try_except (ke (hb pins s σ H D _ I h) (λf s1 q=>?_) λe s1 q=>?_)
 ·cases f with
  |next=>exact wpAny_execs_nil q|ret v=>exact q|brk=>exact q|cont=>exact q
 ·obtain⟨af,Hb,sb,Ib,x,T,C,d,H',rfl,os,bare,un,ok,ht,aC,C',hC',q⟩:=q
  cases hC';have I1:Inv X pins af H' s1:=Ib.call' (ch:=[]) os un ok bare (λb z=>absurd z (by simp))
  obtain⟨oe,vs,a0,oT,ts',he,aY,hd,h1,hTe,hT,hdT,h3⟩:=aC.obj;have land:∀h',zfm_ X s1 x T |>.StaysIn h'->h'.FunFrames (zfm_ X s1 x T) X.stack->h'.TracedW (zfm_ X s1 x T) x (.ref C) a0->s1.heap.UpToSlots h'->Dc x d h'->Inv X pins af (upd H' x (XO x C d)) {s1 with heap:=h'}:=λh' a b c up dd=>landed Ib os bare un ok aC ⟨a,lu _ (jr _ je),b,c⟩ up dd
  have tr:s1.heap.TracedW (zfm_ X s1 x T) x (.ref C) a0:=⟨oe,vs,T,oT,ts',he,aY,hd,h1,lu _ (jr _ (ji _ je)),hTe,hT,hdT,h3⟩;have aQ:s1.heap.FunFrames (zfm_ X s1 x T) X.stack:=ng I1.stack zfA_;rw[aD]at aQ;refine ze7_ (outer:=X.outer) (I1.ok.frames.trans (congrArg rP aD)) aQ ba tr (λb o q=>nz _ q) (lu _ (jr _ je)) aC.dc λh4 n4 d4=>?_
  refine fl_d n4.1 n4.2.1 n4.2.2.1 d4 λh5 a5 b5 c5 u5 d5=>?_
  have u4:s1.heap.UpToSlots h4:=n4.2.2.2;rw[<- aD]at b5;refine hh pins af H' D _ x C d _ (land h5 a5 b5 c5 (u4.trans u5) d5) aC.hx (λA' Q' E' kk=>?_) q
  exact fl_d a5 b5 c5.at d5 λh6 a6 b6 c6 u6 d6=>kk h6 (land h6 a6 b6 c6 ((u4.trans u5).trans u6) d6)
end
structure RoomN (k:Nat)(A:jW):Prop where
 dp:A.depth+3*k+5<recursionLimit
 un:A.units+16*k+200<cLine
theorem Room.nX {k:Nat}{A:jW}(r:Room k A)(x:i9):RoomN k (A.mark (rP (.ref x))):=⟨r.dp,r.un⟩
theorem RoomN.mono {j k:Nat}{A:jW}(r:RoomN k A)(h:j<=k):RoomN j A:=⟨by have:=r.dp;lia,by have:=r.un;lia⟩
theorem RoomN.deeper {k:Nat}{A:jW}(r:RoomN (k+1) A)(env:Env):RoomN k (A.deeper env):=⟨by have:=r.dp;show A.depth+1+3*k+5<_;lia,by have:=r.un;show A.units+3+16*k+200<_;lia⟩
structure FnOkN (P:jL)(w:jU)(K:Fgg)(mg:Str->Option iX)(base:Heap)(k:Nat)(f:i9)(fd:kZ)(ps:List Str)(sp:Sp):Prop where
 len:∀vs H Q E,sp vs H Q E->vs.length=ps.length
 run:∀(A:jW) (outer:List Env) (s:iY) (H:Hp) (args:Args) (us:List iX) (vs:List V) (Q:VK) (E:XK),RoomN k A->Env0 P w K mg base A outer s H->0<s.toks\/ps=lawPs->BindsTo s fd args (ps.zip us)->Vals vs us->sp vs H Q E ->
  codeAny (model P w) A (.call (.ref f) args) (CR CX0 outer P w H s Q E) s
def cxN (P:jL)(w:jU)(K:Fgg)(mg:Str->Option iX)(base:Heap)(N:List Str)(qual:Str)(scope:Scope)(f:i9)(cd:iX)(A:jW)(outer:List Env)(s:iY)(H:Hp):Cx:=
 {cxOf CX0 P w K mg base N qual scope f cd A outer s H E0 with calm:=rS,xe:=λ_ _=>False}
section
variable {P:jL}{w:jU}{K:Fgg}{mg:Str->Option iX}{base:Heap}
theorem Fun.okN {x qual:Str}{st:kq}{f:i9}{fd:kZ}{N ps:List Str}{k:Nat}{sp:Sp}(F:Fun K x qual st f fd)(S:FnScope N ps (defScope st))(len:∀vs H Q E,sp vs H Q E->vs.length=ps.length)
  (aO:∀(ai:iX) (A:jW) (outer:List Env) (s:iY) (H:Hp) (vs:List V) (Q:VK) (E:XK),RoomN k (A.deeper (envOfC qual (defScope st) s.heap.objs.size f ai))->sp vs H Q E ->
   ∃t,PSs (cxN P w K mg base N qual (defScope st) f ai A outer s H) (defBody st) t/\t {nx:=λ_ H'=>Q .non H',rt:=Q} (start N vs) H):FnOkN P w K mg base (k+1) f fd ps sp:=by
 obtain⟨oc,od,kV,doc,pm,an,ai,ct,aA,rfl,lk,bc⟩:=F.ex;refine⟨len,λA outer s H args us vs Q E hr e0 c8 hb r bx=>?_⟩
 have hl:=len _ _ _ _ bx;have KX:K.In s.heap:=e0.mod.kin.keeps λb o e=>(e0.bs b o e).1
 have lim:s.heap.NoLimit:=e0.mod.nolimit.keeps λb o e=>(e0.bs b o e).1
 have bA:∀y∈ps.zip us,(defScope st).names.lookup y.1=rP .local\/((defScope st).names.lookup y.1=rP .cell/\((cellsFrom (s.heap.objs.size+1) (defScope st).names []).lookup y.1).isSome=rR):=λ⟨n,v⟩ hy=>by
  rcases S.par n (lL hy).1 with q |q
  ·exact .inl q
  ·exact .inr ⟨q,oh _ _ _ (.inl q)⟩
 refine codeAny_call_function (by have:=hr.dp;lia) (KX _ _ lk) rfl S.co S.gen rfl (qB KX bc) (hb _ _ _ _ ?_)
 refine zkq_ c8 (λhp=>zdm_ S.kind (S.zip hp (r.length.symm.trans hl))) (wpAny_newFunctionEnv_cells S.kind bA λenv he s1 x hk=>?_)
 subst he;refine⟨lim.keeps x.toInCall.keep,codeAny_func ?_⟩;obtain⟨t,ht,hq⟩:=aO ai A outer s H vs Q E (hr.deeper _) bx;have J:Inv (cxOf CX0 P w K mg base N qual (defScope st) f ai {A with handled:=rQ} outer s H E0) [] (start N vs) H s1:=zdc_ S rfl ⟨e0.frames,e0.mod,e0.bs,e0.bsz,e0.funs,e0.frf,e0.hok,e0.bare,e0.tb⟩ hl r x hk;have I:Inv (cxN P w K mg base N qual (defScope st) f ai A outer s H) [] (start N vs) H s1:=
  ⟨⟨J.ok.mod,J.ok.kind,J.ok.glob,J.ok.blt,J.ok.above,J.ok.inj,J.ok.has,J.ok.cab,(λz=>by cases z),Around.frames_deeper e0.frames,J.ok.stk,J.ok.exf,J.ok.bs,J.ok.bsz,J.ok.noex,J.ok.exfs,J.ok.funs,J.ok.frf,J.ok.tb⟩,J.os,J.bare,J.base,J.loc,J.cell,J.free,J.freeC,J.pin,J.hok,J.len,J.tk⟩
 refine ke (ht [] s1 (start N vs) H _ I hq) (λfl s' hs=>?_) λe s' hs=>hs.elim
 have fin:∀{af:St}{H':Hp}{v:V}{u:iX},Inv (cxN P w K mg base N qual (defScope st) f ai A outer s H) [] af H' s'->RelV v u->Q v H'->CE outer P w H s Q u s':=
  λ{af H' v u} J rv q=>⟨v,H',J.os,J.bare,J.base,J.hok,J.tk,rv,q⟩
 cases fl with
 |ret u=>
  obtain⟨v,af,H',J,rv,q⟩:=hs;exact fin J rv q
 |next=>
  obtain⟨af,H',J,q⟩:=hs;exact fin (v:=V.non) (u:=lK) J rfl q
 |brk=>
  obtain⟨_,_,_,q⟩:=hs;exact jM q
 |cont=>
  obtain⟨_,_,_,q⟩:=hs;exact jM q
theorem Fun.okX {x qual:Str}{st:kq}{f:i9}{fd:kZ}{N ps:List Str}{k:Nat}{sp:Sp}(F:Fun K x qual st f fd)(S:FnScope N ps (defScope st))(len:∀vs H Q E,sp vs H Q E->vs.length=ps.length)
  (aO:∀(ai:iX) (A:jW) (outer:List Env) (s:iY) (H:Hp) (vs:List V) (Q:VK) (E:XK),Room k (A.deeper (envOfC qual (defScope st) s.heap.objs.size f ai))->sp vs H Q E ->
   ∃t,PSs (cxOf (CXx P w) P w K mg base N qual (defScope st) f ai A outer s H E) (defBody st) t/\t {nx:=λ_ H'=>Q .non H',rt:=Q} (start N vs) H):FnOk P w K mg base (CXx P w) (k+1) f fd ps sp:=by
 obtain⟨oc,od,kV,doc,pm,an,ai,ct,aA,rfl,lk,bc⟩:=F.ex;exact fn_of lk bc S len λA outer s H vs Q E hr bx=>aO ai A outer s H vs Q E hr bx
end
def GdN (P:jL)(w:jU)(K:Fgg)(mg:Str->Option iX)(base:Heap)(k:Nat)(x:Str)(ps:List Str)(sp:Sp):Prop:=
 ∃f fd,FnOkN P w K mg base k f fd ps sp/\mg x=rP (.ref f)/\mh K (.ref f)=rR/\Binds K fd ps []
section
variable {X:Cx}{k:Nat}{x:Str}{ps:List Str}{sp:Sp}{p pos:Pos}{e:jw}{es:List jw}{t:TA}
theorem zip_ (G:GdN X.prog X.w X.K X.mg X.base k x ps sp)(hr:RoomN k X.A)(ha:PA X (e::es) t)(hg:Gl X x:=by rfl)(az:(x==("__debug__":Str))=rS:=by decide)
  (he:jE (e::es) X.env=(rS,eval e X.env)::jE es X.env:=by rfl) (aw:(lh pos (jE es X.env)).any (·.1)=rS:=by rfl):
  PE X (.Call (.Name x p) (e::es) [] pos) (tCall sp [] E0 t):=by
 intro pins s σ H Q I h;obtain⟨f,fd,F,hm,hk,hb⟩:=G;refine ll (zaP_ I hg hm ?_ az);refine oH (h₀:=X.base) I.ok.mod.kin hk (thn (ha pos pins s σ H _ I h) λus s1 q=>?_) he aw
 obtain⟨vs,H1,I1,r,q⟩:=q;refine⟨I1.kIn,?_⟩;have r2:Vals (vs++[]) (us++[]):=r.append .nil;have hl:(us++[]).length=ps.length:=by rw[<- r2.length];exact F.len _ _ _ _ q
 refine wpAny_call (codeAny_mono (F.run X.A X.stack s1 H1 ⟨us,[]⟩ (us++[]) (vs++[]) Q E0 hr I1.env0 (.inl I1.tk) (hb s1 us I1.kIn hl) r2 q) λr s' hq=>?_)
 cases r with
 |error e=>exact jM hq|ok fl=>
  cases fl with
  |ret u=>exact I1.after hq|next=>exact jM hq|brk=>exact jM hq|cont=>exact jM hq
end
theorem zd6_ {l:List Nat}(hl:l.length<=1000)(hc:∀c∈l,c<128):(reprText ⟨l.toArray⟩).length<=10002:=by
 have:=StrLaws.reprText_len ⟨l.toArray⟩ (by intro c h;exact oN (hc c (by simpa using h)) (by decide))
 have e:(⟨l.toArray⟩:Str).length=l.length:=by simp[k9]
 lia
section
variable {X:Cx}
def mAll (K:Fgg):List V->Hp->VK->Prop:=λxs H Q=>match xs with |[.ref p]=>∃bs:List Bool,SqL K H p (bs.map V.bl)/\Q (.bl (bs.all id)) H |_=>False
theorem zb7_:∀{bs:List Bool}{us:List iX},Vals (bs.map V.bl) us->us=bs.map my
 |[],_,.nil=>rfl|b::bs,_,.cons r t=>by rw[zb7_ t];cases r;rfl
theorem zdx_ {P:jL}{w:jU}{A:jW}{bs:List Bool}:TruthOf P w A (λi v=>(bs.map my).toArray[i]?=rP v) (λi=>bs.getD i rS):=by
 intro i v s Q E h q;have h':(bs.map my)[i]?=rP v:=by simpa using h
 rw[jB]at h';cases e:bs[i]? with
 |none=>rw[e]at h';cases h'|some b=>
  rw[e]at h';cases h';have:bs.getD i rS=b:=by rw[lA,e];rfl
  have q:Q (bs.getD i rS) s:=q;rw[this]at q;exact kz q
theorem zbV_ (bs:List Bool):(jV bs.length).all (λi=>bs.getD i rS)=bs.all id:=by
 rw[p9,ky,ky];constructor
 ·intro h b hb
  obtain⟨i,hi,e⟩:=mF hb;have:=h i (kH.mpr hi);grind
 ·intro h i hi
  have hi:=kH.mp hi;rw[lA,jf hi];exact h _ (m9 hi)
theorem zfF_ (hc:X.calm=rR):CallR X (.builtin "all") (mAll X.K):=by
 intro pins s σ H xs us Q I r h;unfold mAll at h;split at h
 ·rename_i p
  obtain⟨bs,hS,q⟩:=h;obtain⟨u,rfl,rx⟩:=vals1 r;cases rx;obtain⟨aa,rv,pl,hz⟩:=I.list hS;rw[zb7_ rv]at pl;have hp:=jF pl.isList.choose_spec.1;have df:p≠s.heap.objs.size:=jT hp;refine zz_ (call_all_walk (wpAny_pyIter_list pl.isList ⟨_,_,_,_,_,_,_,rfl,Walks.list (A:=X.A.in1) (I.ok.hd hc) _ p df (bs.map my).toArray,⟨⟨_,jO _ rfl,rfl,rfl⟩,pl.isList.at λo e=>jo _ e⟩,zdx_,λh' tk kk b7=>?_⟩))
  refine⟨.bl (bs.all id),H,I.kept (t':=tk) λb o e=>kk b o (by simpa using jT (jF e)) (jo _ e),?_,q⟩
  show my _=_
  rw[jq,i7,zbV_]
 ·exact h.elim
noncomputable def intsV (lo hi:Int):List V:=(jV (hi-lo).toNat).map λ(i:Nat)=>V.int (lo+i)
def mList (K:Fgg):List V->Hp->VK->Prop:=λxs H Q=>match xs with
 | [.ref p]=>(∃ys,(SqL K H p ys\/SqT K H p ys)/\∀l,H l=rQ->Q (.ref l) (upd H l (.lst ys))) \/
   (∃lo hi,H p=rP (.rng lo hi)/\(-50000<=lo/\lo<=50000 /\ -50000<=hi/\hi<=50000)/\∀l,H l=rQ->Q (.ref l) (upd H l (.lst (intsV lo hi))))
 |_=>False
theorem ziB_ {lo:Int}:∀{n:Nat}{us:List iX},us.length=n->(∀(j:Nat) (v:iX),us[j]?=rP v->∃t,v=nG (lo+j) t)->Vals ((jV n).map λ(i:Nat)=>V.int (lo+i)) us
 |n,us,hl,h=>by
  refine paired_of (by rw[i7,kl,hl]) λj x u hx hu=>?_
  rw[jB]at hx;cases e:(jV n)[j]? with
  |none=>rw[e]at hx;cases hx|some i=>
   rw[e]at hx;cases hx;have:=jN.mp e;obtain⟨hj,ej⟩:=this;rw[nM]at ej;subst ej;exact h j u hu
 where paired_of:∀{xs:List V}{us:List iX},xs.length=us.length->(∀(j:Nat) x u,xs[j]?=rP x->us[j]?=rP u->RelV x u)->Vals xs us
 |[],[],_,_=>.nil|x::xs,u::us,hl,h=>.cons (h 0 x u rfl rfl) (paired_of (nE hl) λj x u a b=>h (j+1) x u a b)
theorem zeN_ (hc:X.calm=rR):CallR X (.type "list") (mList X.K):=by
 intro pins s σ H xs us Q I r h;have hv:∃p,xs=[.ref p]:=by
  rcases xs with _ |⟨y,_ |⟨z,t⟩⟩
  ·exact jM h
  ·cases y with
   |ref p=>exact⟨p,rfl⟩|_=>exact jM h
  ·cases y<;>exact jM h
 obtain⟨p,rfl⟩:=hv
 ·rcases h with⟨ys,hq,q⟩|⟨lo,hi,hp,⟨h1,h2,h3,h4⟩,q⟩
  ·exact zcr_ pins s σ H _ us Q I r ⟨p,ys,rfl,hq,q⟩
  ·obtain⟨u,rfl,rx⟩:=vals1 r
   cases rx;obtain⟨t,u,v,e⟩:=I.hok p _ hp;have hn:og lo hi 1=(((hi-lo).toNat:Nat):Int):=by rw[rangeSize_one];split<;>lia
   refine zz_ (call_list_range (I.ok.hd hc) e (small_one (by lia) (by lia) (by lia) (by lia)) hn (by lia) λh' tk acc c' kp e' ⟨hs,hi'⟩ b7=>?_)
   refine⟨.ref s.heap.objs.size,_,I.laid (o:=.lst (intsV lo hi)) (t':=tk) kp (jt _) ?_,rfl,q _ (I.hok.fresh (jt _))⟩;refine⟨?_,acc.toList,c',ziB_ (by simpa using hs) (λj v hv=>?_),by simpa using e'⟩
   ·unfold intsV;rw[i7,kl];exact zW_ (by lia)
   ·grind
end
inductive EqD (K:Fgg) (H:Hp):Nat->V->V->Bool->Prop
 |flat {x y:V}(hx:flatV x=rR) (hy:flatV y=rR):EqD K H 0 x y (eqV x y)
 |lst {n:Nat}{p q:i9}{xs ys:List V}(e:Nat->Bool) (hp:SqL K H p xs) (hq:SqL K H q ys) (hl:xs.length=ys.length) (h:∀(i:Nat) x y,xs[i]?=rP x->ys[i]?=rP y->EqD K H n x y (e i)):EqD K H (n+1) (.ref p) (.ref q) ((jV xs.length).all e)
 |lstN {n:Nat}{p q:i9}{xs ys:List V}(hp:SqL K H p xs) (hq:SqL K H q ys) (hl:xs.length≠ys.length):EqD K H n (.ref p) (.ref q) rS
 |tup {n:Nat}{p q:i9}{xs ys:List V}(e:Nat->Bool) (hp:SqT K H p xs) (hq:SqT K H q ys) (h:∀(i:Nat) x y,xs[i]?=rP x->ys[i]?=rP y->EqD K H n x y (e i)):EqD K H (n+1) (.ref p) (.ref q) ((jV (min xs.length ys.length)).all e && xs.length == ys.length)
 |lt {n:Nat}{p q:i9}{xs ys:List V}(hp:SqL K H p xs) (hq:SqT K H q ys):EqD K H n (.ref p) (.ref q) rS
 |tl {n:Nat}{p q:i9}{xs ys:List V}(hp:SqT K H p xs) (hq:SqL K H q ys):EqD K H n (.ref p) (.ref q) rS
 |lf {n:Nat}{p:i9}{xs:List V}{y:V}(hp:SqL K H p xs) (hy:flatV y=rR):EqD K H n (.ref p) y rS
 |fl {n:Nat}{p:i9}{xs:List V}{y:V}(hp:SqL K H p xs) (hy:flatV y=rR):EqD K H n y (.ref p) rS
 |tf {n:Nat}{p:i9}{xs:List V}{y:V}(hp:SqT K H p xs) (hy:flatV y=rR):EqD K H n (.ref p) y rS
 |ft {n:Nat}{p:i9}{xs:List V}{y:V}(hp:SqT K H p xs) (hy:flatV y=rR):EqD K H n y (.ref p) rS
 |up {n:Nat}{x y:V}{b:Bool}(h:EqD K H n x y b):EqD K H (n+1) x y b
section
variable {X:Cx}{pins:Pnn}{σ:St}{H:Hp}{s:iY}
theorem za2_ {xs:List V}{us:List iX}(r:Vals xs us){i:Nat}(h:i<us.toArray.size):∃x,xs[i]?=rP x/\RelV x us.toArray[i]:=by
 have hi:i<us.length:=by simpa using h
 have hl:=r.length;obtain⟨u,hu,ru⟩:=r.get (jf (show i<xs.length by lia))
 grind
theorem ze1_ (I:Inv X pins σ H s){n:Nat}{x y:V}{b:Bool}(h:EqD X.K H n x y b):x=y->b=rR:=by
 induction h with
 |flat hx hy=>
  rename_i x y
  rintro rfl;cases x<;>first |(cases hx;done)|(simp[eqV];done)|rfl
 |lst e hp hq hl h ih=>
  rename_i n p q xs ys
  intro e0;cases e0;have cu:=I.list_inj hp hq;subst cu;rw[ky];intro i hi;have hi:=kH.mp hi;exact ih i _ _ (jf hi) (jf hi) rfl
 |lstN hp hq hl=>
  intro e0;cases e0;exact absurd (by rw[I.list_inj hp hq]) hl
 |tup e hp hq h ih=>
  rename_i n p q xs ys
  intro e0;cases e0;have cu:=I.tuple_inj hp hq;subst cu;rw[iP,ky];refine⟨?_,by simp⟩
  intro i hi;have hi:=kH.mp hi;have hi:i<xs.length:=by lia
  exact ih i _ _ (jf hi) (jf hi) rfl
 |lt hp hq=>
  intro e0;cases e0;obtain⟨aa,r1,p1,z1⟩:=I.list hp;obtain⟨au,r2,p2,z2⟩:=I.tuple hq;exact absurd rfl (oP p1.isList p2)
 |tl hp hq=>
  intro e0;cases e0;obtain⟨aa,r1,p1,z1⟩:=I.tuple hp;obtain⟨au,r2,p2,z2⟩:=I.list hq;exact absurd rfl (oP p2.isList p1)
 |lf hp hy=>rintro rfl;cases hy
 |fl hp hy=>rintro rfl;cases hy
 |tf hp hy=>rintro rfl;cases hy
 |ft hp hy=>rintro rfl;cases hy
 |up h ih=>exact ih
theorem zcJ_ (I:Inv X pins σ H s){n:Nat}{x y:V}{b:Bool}(h:EqD X.K H n x y b):∀(A:jW) (v u:iX),A.units+n<cLine->RelV x v->RelV y u ->
  qi A s v u b/\(∀p q,x=.ref p->y=.ref q->mq A s v u b):=by
 induction h with
 |flat hx hy=>
  intro A v u _ rx ry;refine⟨zjn_ rx ry hx hy,λp q e _=>?_⟩
  subst e;cases hx
 |lst e hp hq hl h ih=>
  rename_i n p q xs ys
  intro A v u hu rx ry;cases rx;cases ry;obtain⟨aa,r1,p1,z1⟩:=I.list hp;obtain⟨au,r2,p2,z2⟩:=I.list hq;have l1:=r1.length;have l2:=r2.length;have rc:mq A s (.ref p) (.ref q) ((jV xs.length).all e):=by
   have:=SeqAt.RcAt.lists (A:=A) (e:=e) p1.isList p2.isList (by simp only[jq];lia) (by lia) (λj h1 h2=>by
    obtain⟨x,ex,rx⟩:=za2_ r1 h1;obtain⟨y,ey,ry⟩:=za2_ r2 h2;grind)
   rw[jq,<- l1]at this;exact this
  refine⟨?_,λ_ _ _ _=>rc⟩
  by_cases hpq:p=q
  ·subst hpq
   have cu:=I.list_inj hp hq;subst cu;have:(jV xs.length).all e=rR:=by
    rw[ky];intro i hi;have hi:=kH.mp hi;exact ze1_ I (h i _ _ (jf hi) (jf hi)) rfl
   rw[this];exact oS _
  ·exact .of_refs hpq rc
 |lstN hp hq hl=>
  rename_i n p q xs ys
  intro A v u hu rx ry;cases rx;cases ry;obtain⟨aa,r1,p1,z1⟩:=I.list hp;obtain⟨au,r2,p2,z2⟩:=I.list hq;have l1:=r1.length;have l2:=r2.length;have rc:mq A s (.ref p) (.ref q) rS:=SeqAt.RcAt.lists_lengths p1.isList p2.isList (by simp only[jq,bne_iff_ne,ne_eq];lia) (by lia)
  refine⟨.of_refs (λe=>?_) rc,λ_ _ _ _=>rc⟩
  subst e;exact hl (by rw[I.list_inj hp hq])
 |tup e hp hq h ih=>
  rename_i n p q xs ys
  intro A v u hu rx ry;cases rx;cases ry;obtain⟨aa,r1,p1,z1⟩:=I.tuple hp;obtain⟨au,r2,p2,z2⟩:=I.tuple hq;have l1:=r1.length;have l2:=r2.length;have rc:mq A s (.ref p) (.ref q) ((jV (min xs.length ys.length)).all e && xs.length == ys.length):=by
   have:=SeqAt.RcAt.tuples (A:=A) (e:=e) (show s.heap.IsTuple p aa.toArray from p1) (show s.heap.IsTuple q au.toArray from p2) (by lia) (λj h1 h2=>by
    obtain⟨x,ex,rx⟩:=za2_ r1 h1;obtain⟨y,ey,ry⟩:=za2_ r2 h2;grind)
   grind
  refine⟨?_,λ_ _ _ _=>rc⟩
  by_cases hpq:p=q
  ·subst hpq
   have cu:=I.tuple_inj hp hq;subst cu;have:((jV (min xs.length xs.length)).all e && xs.length == xs.length)=rR:=by
    rw[iP,ky];refine⟨?_,by simp⟩
    intro i hi;have hi:=kH.mp hi;have hi:i<xs.length:=by lia
    exact ze1_ I (h i _ _ (jf hi) (jf hi)) rfl
   rw[this];exact oS _
  ·exact .of_refs hpq rc
 |lt hp hq=>
  intro A v u hu rx ry;cases rx;cases ry;obtain⟨aa,r1,p1,z1⟩:=I.list hp;obtain⟨au,r2,p2,z2⟩:=I.tuple hq;exact⟨.list_tuple p1.isList p2 (by lia),λ_ _ _ _=>.list_tuple p1.isList p2 (by lia)⟩
 |tl hp hq=>
  intro A v u hu rx ry;cases rx;cases ry;obtain⟨aa,r1,p1,z1⟩:=I.tuple hp;obtain⟨au,r2,p2,z2⟩:=I.list hq;exact⟨.tuple_list p1 p2.isList (by lia),λ_ _ _ _=>.tuple_list p1 p2.isList (by lia)⟩
 |lf hp hy=>
  rename_i n p xs y
  intro A v u hu rx ry;cases rx;obtain⟨aa,r1,p1,z1⟩:=I.list hp;refine⟨?_,λ_ _ _ e=>by subst e;cases hy⟩
  cases y with
  |non=>cases ry;exact .list_none p1.isList (by lia)|bl b=>cases ry;exact .list_bool b p1.isList (by lia)|int b=>obtain⟨t,rfl⟩:=ry;exact .list_int b t p1.isList (by lia)|str b=>obtain⟨t,rfl⟩:=ry;exact .list_str b t p1.isList (by lia)|_=>cases hy
 |fl hp hy=>
  rename_i n p xs y
  intro A v u hu rx ry;cases ry;obtain⟨aa,r1,p1,z1⟩:=I.list hp;refine⟨?_,λ_ _ e _=>by subst e;cases hy⟩
  cases y with
  |non=>cases rx;exact .none_list p1.isList (by lia)|bl b=>cases rx;exact .bool_list b p1.isList (by lia)|int b=>obtain⟨t,rfl⟩:=rx;exact .int_list b t p1.isList (by lia)|str b=>obtain⟨t,rfl⟩:=rx;exact .str_list b t p1.isList (by lia)|_=>cases hy
 |tf hp hy=>
  rename_i n p xs y
  intro A v u hu rx ry;cases rx;obtain⟨aa,r1,p1,z1⟩:=I.tuple hp;refine⟨?_,λ_ _ _ e=>by subst e;cases hy⟩
  cases y with
  |non=>cases ry;exact .tuple_none p1 (by lia)|bl b=>cases ry;exact .tuple_bool b p1 (by lia)|int b=>obtain⟨t,rfl⟩:=ry;exact .tuple_int b t p1 (by lia)|str b=>obtain⟨t,rfl⟩:=ry;exact .tuple_str b t p1 (by lia)|_=>cases hy
 |ft hp hy=>
  rename_i n p xs y
  intro A v u hu rx ry;cases ry;obtain⟨aa,r1,p1,z1⟩:=I.tuple hp;refine⟨?_,λ_ _ e _=>by subst e;cases hy⟩
  cases y with
  |non=>cases rx;exact .none_tuple p1 (by lia)|bl b=>cases rx;exact .bool_tuple b p1 (by lia)|int b=>obtain⟨t,rfl⟩:=rx;exact .int_tuple b t p1 (by lia)|str b=>obtain⟨t,rfl⟩:=rx;exact .str_tuple b t p1 (by lia)|_=>cases hy
 |up h ih=>
  intro A v u hu rx ry;exact ih A v u (by lia) rx ry
theorem zd3_ (I:Inv X pins σ H s){n:Nat}{x y:V}{b:Bool}(h:EqD X.K H n x y b):∀(A:jW) (v u:iX),A.units+n<cLine->RelV x v->RelV y u->∀p q,x=.ref p->y=.ref q->mz A s v u (!b):=by
 induction h with
 |flat hx hy=>intro A v u _ rx ry p q e _;subst e;cases hx
 |lst e hp hq hl h ih=>
  rename_i n p q xs ys
  intro A v u hu rx ry _ _ _ _;cases rx;cases ry;obtain⟨aa,r1,p1,z1⟩:=I.list hp;obtain⟨au,r2,p2,z2⟩:=I.list hq;have l1:=r1.length;have l2:=r2.length;have:=rK (A:=A) (e:=e) p1.isList p2.isList (by simp only[jq];lia) (by lia) (λj h1 h2=>by
   obtain⟨x,ex,rx⟩:=za2_ r1 h1;obtain⟨y,ey,ry⟩:=za2_ r2 h2;exact(zcJ_ I (h j x y ex ey) A.in1 _ _ (by show A.units+1+n<_;lia) rx ry).1)
  rw[jq,<- l1]at this;exact this
 |lstN hp hq hl=>
  intro A v u hu rx ry _ _ _ _;cases rx;cases ry;obtain⟨aa,r1,p1,z1⟩:=I.list hp;obtain⟨au,r2,p2,z2⟩:=I.list hq;have l1:=r1.length;have l2:=r2.length;exact qk p1.isList p2.isList (by simp only[jq,bne_iff_ne,ne_eq];lia) (by lia)
 |tup e hp hq h ih=>
  rename_i n p q xs ys
  intro A v u hu rx ry _ _ _ _;cases rx;cases ry;obtain⟨aa,r1,p1,z1⟩:=I.tuple hp;obtain⟨au,r2,p2,z2⟩:=I.tuple hq;have l1:=r1.length;have l2:=r2.length;have:=rH (A:=A) (e:=e) (show s.heap.IsTuple p aa.toArray from p1) (show s.heap.IsTuple q au.toArray from p2) (by lia) (λj h1 h2=>by
   obtain⟨x,ex,rx⟩:=za2_ r1 h1;obtain⟨y,ey,ry⟩:=za2_ r2 h2;exact(zcJ_ I (h j x y ex ey) A.in1 _ _ (by show A.units+1+n<_;lia) rx ry).1)
  grind
 |lt hp hq=>
  intro A v u hu rx ry _ _ _ _;cases rx;cases ry;obtain⟨aa,r1,p1,z1⟩:=I.list hp;obtain⟨au,r2,p2,z2⟩:=I.tuple hq;exact .list_tuple p1.isList p2 (by lia)
 |tl hp hq=>
  intro A v u hu rx ry _ _ _ _;cases rx;cases ry;obtain⟨aa,r1,p1,z1⟩:=I.tuple hp;obtain⟨au,r2,p2,z2⟩:=I.list hq;exact .tuple_list p1 p2.isList (by lia)
 |lf hp hy=>intro A v u hu rx ry _ _ _ e;subst e;cases hy
 |fl hp hy=>intro A v u hu rx ry _ _ e _;subst e;cases hy
 |tf hp hy=>intro A v u hu rx ry _ _ _ e;subst e;cases hy
 |ft hp hy=>intro A v u hu rx ry _ _ e _;subst e;cases hy
 |up h ih=>intro A v u hu rx ry;exact ih A v u (by lia) rx ry
end
noncomputable def splitC (c:Nat):List Nat->List (List Nat)
 |[]=>[[]]|d::r=>if d=c then[]::splitC c r else match splitC c r with |p::ps=>(d::p)::ps |[]=>[[d]]
theorem zbE_ (c:Nat):∀l,splitC c l≠[]
 |[]=>by simp[splitC]
 |d::r=>by unfold splitC;split;simp;split<;>simp
noncomputable def joinC (c:Nat):List (List Nat)->List Nat
 |[]=>[]|[p]=>p|p::q::r=>p++c::joinC c (q::r)
theorem zbs_ (c:Nat):∀(l:List Nat),c∉l->splitC c l=[l]
 |[],_=>rfl|d::r,h=>by
  have h1:d≠c:=λe=>h (by rw[e];exact je)
  have h2:c∉r:=λe=>h (ji _ e)
  unfold splitC;rw[if_neg h1,zbs_ c r h2]
theorem zb3_ (c:Nat):∀(p:List Nat) (l:List Nat),c∉p->splitC c (p++c::l)=p::splitC c l
 |[],l,_=>by show splitC c (c::l)=_;rw[splitC,if_pos rfl]
 |d::r,l,h=>by
  have h1:d≠c:=λe=>h (by rw[e];exact je)
  have h2:c∉r:=λe=>h (ji _ e)
  show splitC c (d::(r++c::l))=_
  rw[splitC,if_neg h1,zb3_ c r l h2]
theorem zap_ (c:Nat):∀(ps:List (List Nat)),ps≠[]->(∀p∈ps,c∉p)->splitC c (joinC c ps)=ps
 |[],h,_=>absurd rfl h|[p],_,hf=>zbs_ c p (hf p je)|p::q::r,_,hf=>by
  show splitC c (p++c::joinC c (q::r))=_
  rw[zb3_ c p _ (hf p je),zap_ c (q::r) (by simp) (λp hp=>hf p (ji _ hp))]
theorem zaO_ (c:Nat):∀(ps:List Str),(Str.join ⟨#[c]⟩ ps).cps.toList=joinC c (ps.map λp=>p.cps.toList)
 |[]=>rfl|[p]=>rfl|p::q::r=>by
  show(p++⟨#[c]⟩++Str.join ⟨#[c]⟩ (q::r)).cps.toList=_
  have ih:=zaO_ c (q::r);show _=p.cps.toList++c::joinC c ((q::r).map λp=>p.cps.toList)
  rw[<- ih,ze6_,ze6_];simp
theorem zbx_ (x:Str)(c:Nat):(Txt.split x ⟨#[c]⟩).map (λp=>p.cps.toList)=splitC c x.cps.toList:=by
 have h:=StrLaws.join_split x ⟨#[c]⟩;have h1:=zaO_ c (Txt.split x ⟨#[c]⟩);rw[h]at h1;rw[h1,zap_]
 ·have:=qI x ⟨#[c]⟩
  intro e;rw[px]at e;rw[e]at this;cases this
 ·intro p hp
  obtain⟨z,hz,rfl⟩:=j4.mp hp;exact StrLaws.split_free x c z hz
end L2
namespace LX
open PySem Builtin Builtin.Str
section
variable {prog:jL}{w:jU}{A:jW}{E:iX->iY->Prop}{s:iY}{x:Str}{t:Tok}{Q:iX->iY->Prop}
theorem split_push {y:Str}{u:Tok}(hy:(y.length == 0)=rS)
  (hq:∀(l:List (Str×Tok)) (k:Nat),l.map (·.1)=Txt.split x y->Q (.ref s.heap.objs.size) {s with toks:=k,heap:=s.heap.push {cls:=.type "list",data:=.seq (strValues l).toArray}})
  (hsz:x.length<=jj) (fi:(partsBetween x (occurrences x y 0 x.length (x.length+1)) y.length).length<=jj):
  jD (model prog w) A (call (.builtin "str.split") [.str x t,.str y u]) Q E s:=by
 cases h1:(decide (x.length<y.length)||decide (strKind x<strKind y))
 ·cases hf:(occurrences x y 0 x.length (x.length+1)).isEmpty
  ·refine call_meets ou (typeIs_str _ _ _) nS (nN _ _) (meets_str_split_sep x y t u h1 hy hf hsz fi) ?_
   show wants Q E _ {s with toks:=_,heap:=s.heap.push {cls:=.type "list",data:=.seq (strsFrom s.toks (partsBetween x (occurrences x y 0 x.length (x.length+1)) y.length)).toArray}}
   rw[strsFrom_eq];exact hq (numbered s.toks _) _ ((numbered_texts _ _).trans ((if_neg (ne_true_of_eq_false h1)).trans (if_neg (ne_true_of_eq_false hf))).symm)
  ·exact call_meets ou (typeIs_str _ _ _) nS (nN _ _) (meets_str_split_not_found x y t u h1 hy hf)
    (hq [(x,t)] _ ((if_neg (ne_true_of_eq_false h1)).trans (if_pos hf)).symm)
 ·exact call_meets ou (typeIs_str _ _ _) nS (nN _ _) (meets_str_split_cannot_occur x y t u h1)
   (hq [(x,t)] _ (if_pos h1).symm)
end
end LX
namespace L2
open PySem PySem.Spec PyProof.Rows
section
theorem zcf_:∀(l:List (Str×Tok)),Vals (l.map λp=>tx p.1.cps.toList) (strValues l)
 |[]=>.nil|(z,t)::r=>.cons ⟨t,by rw[<- z0_]⟩ (zcf_ r)
end
section
variable {κ:Type}[DecidableEq κ]
noncomputable def valV (kvs:List (κ×V))(k:κ):Option V:=(kvs.find? λkv=>decide (kv.1=k)).map (·.2)
noncomputable def putK (kvs:List (κ×V))(k:κ)(v:V):List (κ×V):=
 if(kvs.any λkv=>decide (kv.1=k))=rR then kvs.map (λkv=>if kv.1=k then(kv.1,v)else kv)else kvs++[(k,v)]
noncomputable def dropK (kvs:List (κ×V))(k:κ):List (κ×V):=kvs.filter λkv=>decide (kv.1≠k)
theorem zcs_ {p:κ×V}{r:List (κ×V)}{k:κ}(e:p.1=k):valV (p::r) k=rP p.2:=by simp[valV,kX,e]
theorem zcI_ {p:κ×V}{r:List (κ×V)}{k:κ}(e:¬p.1=k):valV (p::r) k=valV r k:=by simp[valV,kX,e]
theorem zeG_ (k:κ):∀kvs:List (κ×V),(kvs.any λkv=>decide (kv.1=k))=(valV kvs k).isSome
 |[]=>rfl|p::r=>by
  rw[mJ];by_cases e:p.1=k
  ·simp only[zcs_ e,decide_eq_true e,Bool.true_or,pM]
  ·rw[zcI_ e,decide_eq_false e,qp];exact zeG_ k r
theorem zaT_ (kvs:List (κ×V))(k:κ)(v:V):(putK kvs k v).length<=kvs.length+1:=by
 unfold putK;grind
theorem RelO.isSome_eq {o:Option V}{u:Option iX}(r:RelO o u):o.isSome=u.isSome:=by
 cases o with
 |none=>cases u with
  |none=>rfl|some _=>exact(show False from r).elim
 |some _=>cases u with
  |none=>exact(show False from r).elim|some _=>rfl
theorem KV.val {kvs:List (κ×V)}{vs:List (κ×iX)}(r:KV kvs vs)(k:κ):RelO (valV kvs k) (valueAt vs k):=by
 unfold KV at r;induction r with
 |nil=>exact lx| @cons p q ps qs h t ih=>
  obtain⟨h1,h2⟩:=h;by_cases e:p.1=k
  ·have e':q.1=k:=h1.symm.trans e
   have b:valueAt (q::qs) k=rP q.2:=by simp[valueAt,kX,e']
   rw[zcs_ e,b];exact h2
  ·have e':¬q.1=k:=λz=>e (h1.trans z)
   have b:valueAt (q::qs) k=valueAt qs k:=by simp[valueAt,kX,e']
   rw[zcI_ e,b];exact ih
theorem KV.any {kvs:List (κ×V)}{vs:List (κ×iX)}(r:KV kvs vs)(k:κ):(kvs.any λkv=>decide (kv.1=k))=vs.any λkv=>decide (kv.1=k):=by
 unfold KV at r;induction r with
 |nil=>rfl|cons h t ih=>rw[mJ,mJ,ih,h.1]
theorem KV.repl {kvs:List (κ×V)}{vs:List (κ×iX)}(r:KV kvs vs)(k:κ){y:V}{u:iX}(ry:RelV y u):
  KV (kvs.map λkv=>if kv.1=k then(kv.1,y)else kv) (vs.map λkv=>if kv.1=k then(kv.1,u)else kv):=by
 unfold KV at r ⊢;induction r with
 |nil=>exact .nil| @cons p q ps qs h t ih=>
  rw[ju,ju];refine .cons ?_ ih;grind
theorem KV.put {kvs:List (κ×V)}{vs:List (κ×iX)}(r:KV kvs vs)(k:κ){y:V}{u:iX}(ry:RelV y u):KV (putK kvs k y) (stored vs k u):=by
 unfold putK stored;rw[r.any k];by_cases e:(vs.any λkv=>decide (kv.1=k))=rR
 ·rw[if_pos e,if_pos e];exact r.repl k ry
 ·rw[if_neg e,if_neg e];exact Paired.snoc r ⟨rfl,ry⟩
theorem KV.drop {kvs:List (κ×V)}{vs:List (κ×iX)}(r:KV kvs vs)(k:κ):KV (dropK kvs k) (without vs k):=by
 unfold KV at r ⊢;unfold dropK without;induction r with
 |nil=>exact .nil| @cons p q ps qs h t ih=>
  obtain⟨h1,h2⟩:=h;rw[nh,nh];by_cases e:p.1=k
  ·grind
  ·have e':¬q.1=k:=λz=>e (h1.trans z)
   have a:decide (p.1≠k)=rR:=by simp[e]
   have b:decide (q.1≠k)=rR:=by simp[e']
   rw[if_pos a,if_pos b];exact .cons ⟨h1,h2⟩ ih
theorem KV.length {kvs:List (κ×V)}{vs:List (κ×iX)}(r:KV kvs vs):kvs.length=vs.length:=Paired.length r
theorem zhZ_ (kvs:List (κ×V))(k:κ):(dropK kvs k).length<=kvs.length:=oY _ _
end
theorem ziS_ {P:jL}{w:jU}{k:Key}{u:iX}(r:RelV (kV k) u):(mixKind P w).is k u=rR:=by
 cases k with
 |inl i=>obtain⟨t,e⟩:=(show∃t,u=nG i t from r);subst e;exact zdC_ P w i t|inr x=>obtain⟨t,e⟩:=(show∃t,u=m4 x t from r);subst e;exact zdu_ P w x t
theorem zde_ {P:jL}{w:jU}:∀{ks:List Key}{us:List iX},Vals (ks.map kV) us->ItemsAre (mixKind P w) ks us
 |[],_,r=>by rw[mn]at r;cases r;exact .nil
 |k::ks,_,r=>by
  rw[ju]at r;cases r with
  |cons h t=>exact .cons (ziS_ h) (zde_ t)
abbrev KT (H:Hp):List (List Key×V)->List (List Key×i9×iX)->Prop:=Paired λp q=>p.1=q.1/\H q.2.1=rP (.tup (p.1.map kV))/\RelV p.2 q.2.2
theorem KT.val {H:Hp}{kvs:List (List Key×V)}{xs:List (List Key×i9×iX)}(r:KT H kvs xs)(k:List Key):RelO (valV kvs k) ((atKey xs k).map (·.2)):=by
 induction r with
 |nil=>exact lx| @cons p q ps qs h t ih=>
  obtain⟨h1,_,h2⟩:=h;by_cases e:p.1=k
  ·have e':q.1=k:=h1.symm.trans e
   have b:atKey (q::qs) k=rP q.2:=by simp[atKey,kX,e']
   rw[zcs_ e,b];exact h2
  ·have e':¬q.1=k:=λz=>e (h1.trans z)
   have b:atKey (q::qs) k=atKey qs k:=by simp[atKey,kX,e']
   rw[zcI_ e,b];exact ih
theorem KT.repl {H:Hp}{kvs:List (List Key×V)}{xs:List (List Key×i9×iX)}(r:KT H kvs xs)(k:List Key){y:V}{u:iX}(ry:RelV y u):
  KT H (kvs.map λkv=>if kv.1=k then(kv.1,y)else kv) (xs.map (putAt k u)):=by
 induction r with
 |nil=>exact .nil| @cons p q ps qs h t ih=>
  rw[ju,ju];refine .cons ?_ ih;obtain⟨h1,h2,h3⟩:=h;unfold putAt;grind
theorem KT.put {H:Hp}{kvs:List (List Key×V)}{xs:List (List Key×i9×iX)}(r:KT H kvs xs)(k:List Key){b:i9}{y:V}{u:iX}(hb:H b=rP (.tup (k.map kV)))(ry:RelV y u):
  KT H (putK kvs k y) (storedH xs k b u):=by
 have e:(kvs.any λkv=>decide (kv.1=k))=(atKey xs k).isSome:=by
  rw[zeG_,(r.val k).isSome_eq,mW]
 unfold putK storedH;rw[e];by_cases q:(atKey xs k).isSome=rR
 ·rw[if_pos q,if_pos q];exact r.repl k ry
 ·rw[if_neg q,if_neg q];exact Paired.snoc r ⟨rfl,hb,ry⟩
theorem KT.keeps {H H':Hp}{kvs:List (List Key×V)}{xs:List (List Key×i9×iX)}(r:KT H kvs xs)(ht:∀b ys,H b=rP (.tup ys)->H' b=rP (.tup ys)):KT H' kvs xs:=
 Paired.mapP r λ_ _ z=>⟨z.1,ht _ _ z.2.1,z.2.2⟩
section
variable {P:jL}{w:jU}{H:Hp}{h:Heap}{a:i9}
theorem rd_of {u:HO}(ok:HOk P w H h)(e:Rd H a u):ObjOk P w H h a u:=e.ok ok
theorem ziF_ {kvs:List (Key×V)}(ok:HOk P w H h)(e:Rd H a (.dK kvs)):kvs.length<=jj/\(a == sysModules)=rS/\∃vs,KV kvs vs/\h.DictOf (mixKind P w) a vs:=
 show ObjOk P w H h a (.dK kvs)from rd_of ok e
theorem zne_ {kvs:List (Key×V)}(ok:HOk P w H h)(e:H a=rP (.dK kvs)):kvs.length<=jj/\(a == sysModules)=rS/\∃vs,KV kvs vs/\h.DictOf (mixKind P w) a vs:=ziF_ ok (.inl e)
theorem zeP_ {ks:List Key}(ok:HOk P w H h)(e:H a=rP (.tup (ks.map kV))):(tupleKind (mixKind P w)).is h ks a:=by
 obtain⟨_,aa,r,o,h1,h2,n,h3⟩:=(show ObjOk P w H h a (.tup (ks.map kV))from ok a _ e)
 exact⟨o,aa.toArray,n,h1,h2,h3,by simpa using zde_ r⟩
theorem zjB_ {kvs:List (List Key×V)}(ok:HOk P w H h)(e:Rd H a (.dT kvs)):kvs.length<=jj/\(a == sysModules)=rS /\
  ∃xs,KT H kvs xs/\h.DictOfH (tupleKind (mixKind P w)) a xs:=by
 obtain⟨z,y,xs,r,o,es,ep,h1,h2,h3,h4,h5⟩:=(show ObjOk P w H h a (.dT kvs)from rd_of ok e)
 refine⟨z,y,xs,r,o,es,ep,h1,h2,h3,h4,λx hx=>?_,h5⟩
 have all:∀{l:List (List Key×V)}{m:List (List Key×i9×iX)},KT H l m->∀x∈m,(tupleKind (mixKind P w)).is h x.1 x.2.1:=by
  intro l m q;induction q with
  |nil=>intro x hx;exact nomatch hx
  | @cons p q ps qs hq t ih=>
   intro x hx;rcases jK.mp hx with e |hx
   ·subst e
    exact zeP_ ok (by rw[<- hq.1];exact hq.2.1)
   ·exact ih x hx
 exact all r x hx
theorem dt_of {kvs:List (List Key×V)}(ok:HOk P w H h)(e:H a=rP (.dT kvs)):kvs.length<=jj/\(a == sysModules)=rS /\
  ∃xs,KT H kvs xs/\h.DictOfH (tupleKind (mixKind P w)) a xs:=zjB_ ok (.inl e)
end
def DGet (H:Hp)(a:i9)(y:V)(r:Option V):Prop:=
 (∃kvs k,Rd H a (.dK kvs)/\y=kV k/\r=valV kvs k)\/∃kvs k b,Rd H a (.dT kvs)/\y=.ref b/\H b=rP (.tup (k.map kV))/\r=valV kvs k
def DPut (H:Hp)(a:i9)(y v:V)(H':Hp):Prop:=
 (∃kvs k,H a=rP (.dK kvs)/\y=kV k/\kvs.length<jj/\H'=upd H a (.dK (putK kvs k v))) \/
 ∃kvs k b,H a=rP (.dT kvs)/\y=.ref b/\H b=rP (.tup (k.map kV))/\kvs.length<jj/\H'=upd H a (.dT (putK kvs k v))
theorem DPut.k {H:Hp}{a:i9}{kvs:List (Key×V)}{k:Key}{v:V}(e:H a=rP (.dK kvs))(hl:kvs.length<jj):DPut H a (kV k) v (upd H a (.dK (putK kvs k v))):=.inl ⟨kvs,k,e,rfl,hl,rfl⟩
section
variable {X:Cx}{pins:Pnn}{σ:St}{H:Hp}{s:iY}{a:i9}{y v:V}{u r:iX}{o:Option V}{A:jW}{E:iX->iY->Prop}
theorem Inv.big (I:Inv X pins σ H s):sysModules<s.heap.objs.size:=by
 have h:jJ<s.heap.objs.size:=(I.mod.glob.keeps I.bk).lt;exact oN (by decide) h
theorem zfT_ {Q:iX->iY->Prop}(hu:A.units+1<cLine)(I:Inv X pins σ H s)(g:DGet H a y (rP v))(ry:RelV y u)(h:∀w' s',Inv X pins σ H s'->RelV v w'->Q w' s'):
  jD (model X.prog X.w) A (getItem (.ref a) u) Q E s:=by
 rcases g with⟨kvs,k,e,ey,l⟩|⟨kvs,k,b,e,ey,eb,l⟩
 ·subst ey
  obtain⟨z,hd,vs,rel,dd⟩:=ziF_ I.hok e;obtain⟨w',hw,a8⟩:=RelO.some_of (v:=v) (o:=valueAt vs k) (by rw[l];exact rel.val k)
  exact wpAny_getItem_of (ziS_ ry) dd.mapOf hw (h w' _ (I.tok _) a8)
 ·subst ey
  cases(show u=jQ b from ry)
  obtain⟨z,hd,xs,rel,dd⟩:=zjB_ I.hok e;obtain⟨w',hw,a8⟩:=RelO.some_of (v:=v) (o:=(atKey xs k).map (·.2)) (by rw[l];exact rel.val k)
  obtain⟨p,hp,fq⟩:=jz.mp hw;refine wpAny_getItem_heap (tupleKind_room_in1 hu) (zeP_ I.hok eb) dd hp ?_;rw[fq];exact h w' _ (I.tok _) a8
theorem d_in {Q:iX->iY->Prop}(hu:A.units+1<cLine)(I:Inv X pins σ H s)(g:DGet H a y o)(ry:RelV y u)(h:∀s',Inv X pins σ H s'->Q (.bool o.isSome) s'):
  jD (model X.prog X.w) A (jX .In u (.ref a)) Q E s:=by
 rcases g with⟨kvs,k,e,ey,l⟩|⟨kvs,k,b,e,ey,eb,l⟩
 ·subst ey
  obtain⟨z,hd,vs,rel,dd⟩:=ziF_ I.hok e;refine wpAny_in_of (ziS_ ry) hd dd.mapOf ?_;rw[<- (rel.val k).isSome_eq,<- l];exact h _ (I.tok _)
 ·subst ey
  cases(show u=jQ b from ry)
  obtain⟨z,hd,xs,rel,dd⟩:=zjB_ I.hok e;refine wpAny_in_heap (tupleKind_room_in1 hu) (zeP_ I.hok eb) hd dd ?_;have q:=(rel.val k).isSome_eq;rw[mW]at q;rw[<- q,<- l];exact h _ (I.tok _)
theorem zke_ {Q:iX->iY->Prop}(hu:A.units+1<cLine)(I:Inv X pins σ H s)(g:DGet H a y o)(ry:RelV y u)(h:∀s',Inv X pins σ H s'->Q (.bool (!o.isSome)) s'):
  jD (model X.prog X.w) A (jX .NotIn u (.ref a)) Q E s:=by
 rcases g with⟨kvs,k,e,ey,l⟩|⟨kvs,k,b,e,ey,eb,l⟩
 ·subst ey
  obtain⟨z,hd,vs,rel,dd⟩:=ziF_ I.hok e;refine wpAny_notIn_of (ziS_ ry) hd dd.mapOf ?_;rw[<- (rel.val k).isSome_eq,<- l];exact h _ (I.tok _)
 ·subst ey
  cases(show u=jQ b from ry)
  obtain⟨z,hd,xs,rel,dd⟩:=zjB_ I.hok e;refine wpAny_notIn_heap (tupleKind_room_in1 hu) (zeP_ I.hok eb) hd dd ?_;have q:=(rel.val k).isSome_eq;rw[mW]at q;rw[<- q,<- l];exact h _ (I.tok _)
theorem zc6_ {h':Heap}{t':Nat}{ob:HO}(I:Inv X pins σ H s)(mu:Mut (H a))(hs:oG a s.heap h')(he:∃q,h'.get? a=rP q)(new:ObjOk X.prog X.w (upd H a ob) h' a ob)(ht:0<t':=by first |assumption |exact Inv.tk ‹_› |exact kn _ |(refine i6 ?_ ‹_›;exact Inv.tk ‹_›)|exact i6 (Inv.tk ‹_›) (jZ _ _)):
  Inv X pins σ (upd H a ob) {s with heap:=h',toks:=t'}:=
 I.write (x:=a) (e:=a) mu (.inl rfl) (λb q hb z=>(hs.2 b hb).trans z) he new ht
theorem zij_ {P:jL}{w:jU}{H':Hp}{h':Heap}{kvs:List (Key×V)}{vs:List (Key×iX)}(z:kvs.length<=jj)(hd:(a == sysModules)=rS)(rel:KV kvs vs)(dd:h'.DictOf (mixKind P w) a vs):
  ObjOk P w H' h' a (.dK kvs):=⟨z,hd,vs,rel,dd⟩
theorem zgb_ {H':Hp}{Q:Unit->iY->Prop}(hu:A.units+1<cLine)(I:Inv X pins σ H s)(g:DPut H a y v H')(ry:RelV y u)(rv:RelV v r)(h:∀s',Inv X pins σ H' s'->Q () s'):
  jD (model X.prog X.w) A (setItem (.ref a) u r) Q E s:=by
 rcases g with⟨kvs,k,e,ey,l,eH⟩|⟨kvs,k,b,e,ey,eb,l,eH⟩
 ·subst ey eH
  obtain⟨z,hd,vs,rel,dd⟩:=zne_ I.hok e;have hz:vs.length<=jj:=by rw[<- rel.length];exact z
  have hl:(putK kvs k v).length<=jj:=by have:=zaT_ kvs k v;lia
  refine wpAny_setItem_pairs (hsz:=hz) (ziS_ ry) dd λh' bI hs=>h _ ?_
  have he:∃q,h'.get? a=rP q:=let⟨q,_,_,hq,_⟩:=bI;⟨q,hq⟩
  exact zc6_ I (by rw[e];exact lx) hs he (zij_ hl hd (rel.put k rv) bI)
 ·subst ey eH
  cases(show u=jQ b from ry)
  obtain⟨z,hd,xs,rel,dd⟩:=dt_of I.hok e;have hz:xs.length<=jj:=by rw[<- Paired.length rel];exact z
  have hl:(putK kvs k v).length<=jj:=by have:=zaT_ kvs k v;lia
  refine wpAny_setItem_heap (hsz:=hz) (tupleKind_room_in1 hu) (zeP_ I.hok eb) dd λh' bI hs=>h _ ?_
  obtain⟨q,es,ep,hq,h2,h3,h4,_,h5⟩:=bI;refine zc6_ I (by rw[e];exact lx) hs ⟨q,hq⟩ ⟨hl,hd,_,(rel.put k eb rv).keeps λc ys ec=>?_,q,es,ep,hq,h2,h3,h4,h5⟩
  rw[zv_ (ne_of ec e (λz=>nomatch z))]
  exact ec
end
section
variable {X:Cx}{pins:Pnn}{σ:St}{H:Hp}{s:iY}{a:i9}{kvs:List (Key×V)}{k:Key}{u:iX}{A:jW}{E:iX->iY->Prop}
theorem d_pop {v:V}{more:List iX}{Q:iX->iY->Prop}(I:Inv X pins σ H s)(e:H a=rP (.dK kvs))(ry:RelV (kV k) u)(l:valV kvs k=rP v)(hm:more=[]\/∃x,more=[x])
  (h:∀w' s',Inv X pins σ (upd H a (.dK (dropK kvs k))) s'->RelV v w'->Q w' s'):jD (model X.prog X.w) A (call (.builtin "dict.pop") (.ref a::u::more)) Q E s:=by
 obtain⟨z,hd,vs,rel,dd⟩:=zne_ I.hok e;obtain⟨w',hw,a8⟩:=RelO.some_of (v:=v) (o:=valueAt vs k) (by rw[<- l];exact rel.val k)
 have hp:(keyPart u).isSome=rR:=by
  cases k with
  |inl i=>obtain⟨t,q⟩:=(show∃t,u=nG i t from ry);subst q;rfl|inr x=>obtain⟨t,q⟩:=(show∃t,u=m4 x t from ry);subst q;rfl
 have ha:argsOk "dict.pop" ⟨.ref a::u::more,[]⟩:=by
  rcases hm with q |⟨x,q⟩
  ·subst q;exact PySem.F.args_dict_pop_2 _ _
  ·subst q;exact PySem.F.args_dict_pop_3 _ _ _
 refine call_meetsIn m3 dd.typeIs PySem.F.entry_dict_pop ha (meets_dict_pop_there (mixKind X.prog X.w) a (ziS_ ry) more hm hp)
  ⟨vs,w',dd,by rw[<- rel.length];exact z,hw,λh' bI hs=>h w' _ ?_ a8⟩
 have he:∃q,h'.get? a=rP q:=let⟨q,_,_,hq,_⟩:=bI;⟨q,hq⟩
 exact zc6_ I (by rw[e];exact lx) hs he (zij_ (ki (zhZ_ kvs k) z) hd (rel.drop k) bI)
theorem d_len {Q:iX->iY->Prop}(I:Inv X pins σ H s)(e:Rd H a (.dK kvs))(h:∀t s',Inv X pins σ H s'->Q (.int kvs.length t) s'):jD (model X.prog X.w) A (call (.builtin "len") [.ref a]) Q E s:=by
 obtain⟨z,hd,vs,rel,dd⟩:=ziF_ I.hok e;refine call_len_dict hd dd (by rw[<- rel.length];rw[sizeLine_eq]at z;lia) ?_
 rw[<- rel.length];exact h _ _ (I.tok _)
end
def NoSl (i:jw):Prop:=∀ov iv,subscripted i rS ov iv=operate [ov,iv] (getItem ov iv)
theorem subD_of {prog:jL}{w:jU}{A:jW}{E:iX->iY->Prop}{s:iY}{env:Env}{value slice:jw}{pos:Pos}{T id:String}{Q:iX->iY->Prop}
  (hl:typeLookup (.type T) "__getitem__"=pure (rP (.builtin id))) (hs:NoSl slice)
  (h:jD (model prog w) A (eval value env) (λo ae=>jD (model prog w) A (eval slice env) (λi ay=>ay.TypeIs o T/\jD (model prog w) A (getItem o i) Q E ay) E ae) E s):
  jD (model prog w) A (eval (.Subscript value slice pos) env) Q E s:=by
 refine Subscript_ (ke h (λo ae aF=>ke aF (λi ay bw=>?_) λ_ _ x=>x) λ_ _ x=>x)
 obtain⟨hT,bw⟩:=bw;unfold subscriptTail;refine iZ ?_;rw[getitemInPython_of_ne hT.not_modules];refine iZ (wpAny_specialOf hT hl ?_);have fin:jD (model prog w) A (subscripted slice rS o i) (λr av=>jD (model prog w) A (letTemporaryGo value o r>>=λ_=>pure r) Q E av) E ay:=by
  rw[hs o i];exact wpAny_operating (ke bw (λr av bu=>iZ (wpAny_letTemporaryGo (jy bu))) λ_ _ x=>x)
 first
  |exact jy (iZ fin)
  |exact iZ (jy (iZ fin))
  |exact iZ fin
theorem zdH_ {X:Cx}{pins:Pnn}{σ:St}{H:Hp}{s:iY}{a:i9}{y:V}{o:Option V}(I:Inv X pins σ H s)(g:DGet H a y o):s.TypeIs (.ref a) "dict":=by
 rcases g with⟨kvs,k,e,_,_⟩|⟨kvs,k,b,e,_,_,_⟩
 ·obtain⟨_,_,vs,_,dd⟩:=ziF_ I.hok e
  exact dd.typeIs
 ·obtain⟨_,_,xs,_,dd⟩:=zjB_ I.hok e
  exact dd.typeIs
section
end
theorem zfb_ {P:jL}{w:jU}{H:Hp}(h:Heap)(hb:sysModules<h.objs.size):ObjOk P w H (h.push {cls:=.type "dict",data:=.dict #[]}) h.objs.size (.dK []):=
 ⟨lZ _,beq_eq_false_iff_ne.mpr (mO (jT hb)),[],.nil,rO h⟩
def tDNewK:TE:=λ_ H Q=>∀p,H p=rQ->Q (.ref p) (upd H p (.dK []))
section
variable {X:Cx}{pos:Pos}
theorem zhy_:PE X (.Dict [] [] pos) tDNewK:=λpins s σ H Q I h=>
 wpAny_Dict_empty ⟨.ref s.heap.objs.size,_,I.laid (a:=s.heap.objs.size) (o:=.dK []) (t':=s.toks) (λ_ _ q=>jo _ q) (jt _) (zfb_ s.heap I.big),rfl,h _ (I.hok.fresh (jt _))⟩
end
def tPairs:List (TE×TE)->St->Hp->(List (V×V)->Hp->Prop)->Prop
 |[],_,H,Q=>Q [] H|(tk,tv)::r,σ,H,Q=>tk σ H λx H1=>tv σ H1 λy H2=>tPairs r σ H2 λps H3=>Q ((x,y)::ps) H3
abbrev VV:List (V×V)->List (iX×iX)->Prop:=Paired λp q=>RelV p.1 q.1/\RelV p.2 q.2
def PPs (X:Cx)(pos:Pos)(keys:List (Option jw))(values:List jw)(trs:List (TE×TE)):Prop:=
 ∀(pins:Pnn) (s:iY) (σ:St) (H:Hp) (Q:List (V×V)->Hp->Prop),Inv X pins σ H s->tPairs trs σ H Q ->
  jD (model X.prog X.w) X.A (evalPairs (pairTrees keys values X.env pos)) (λvs s'=>∃ps H',Inv X pins σ H' s'/\VV ps vs/\Q ps H') X.xe s
theorem zjl_ {X:Cx}{pos:Pos}:PPs X pos [] [] []:=λpins s σ H Q I h=>pairTrees_nil_walk ⟨[],H,I,.nil,h⟩
theorem zcL_ {X:Cx}{pos:Pos}{k v:jw}{ks:List (Option jw)}{vs:List jw}{tk tv:TE}{trs:List (TE×TE)}(hk:PE X k tk)(hv:PE X v tv)(hr:PPs X pos ks vs trs):
  PPs X pos (rP k::ks) (v::vs) ((tk,tv)::trs):=λpins s σ H Q I h=>
 pairTrees_cons_walk (thn (hk pins s σ H _ I h) λu s1 ⟨x,H1,I1,rx,q1⟩=>thn (hv pins s1 σ H1 _ I1 q1) λw2 s2 ⟨y,H2,I2,ry,q2⟩=>
  thn (hr pins s2 σ H2 _ I2 q2) λws s3 ⟨ps,H3,I3,rel,q3⟩=>⟨(x,y)::ps,H3,I3,.cons ⟨rx,ry⟩ rel,q3⟩)
def mergeK (kvs more:List (Key×V)):List (Key×V):=more.foldl (λacc kv=>putK acc kv.1 kv.2) kvs
theorem KV.merge:∀{more:List (Key×V)}{rs:List (Key×iX)}{kvs:List (Key×V)}{vs:List (Key×iX)},KV more rs->KV kvs vs->KV (mergeK kvs more) (merged vs rs):=by
 intro more rs kvs vs r;unfold KV at r;induction r generalizing kvs vs with
 |nil=>intro q;exact q
 | @cons p q ps qs h t ih=>
  intro r0;have e:KV (putK kvs p.1 p.2) (stored vs q.1 q.2):=by
   have:=r0.put p.1 h.2;rw[<- h.1];exact this
  exact ih e
theorem zaY_:∀(more kvs:List (Key×V)),(mergeK kvs more).length<=kvs.length+more.length
 |[],kvs=>by show kvs.length<=kvs.length+0;lia
 |p::r,kvs=>by
  have h1:=zaY_ r (putK kvs p.1 p.2);have h2:=zaT_ kvs p.1 p.2;show(mergeK (putK kvs p.1 p.2) r).length<=_
  rw[jg];lia
theorem zb0_ {P:jL}{w:jU}:∀{kvs:List (Key×V)}{ws:List (iX×iX)},VV (kvs.map λkv=>(kV kv.1,kv.2)) ws->∃rs,Carries (mixKind P w) ws rs/\KV kvs rs
 |[],_,r=>by rw[mn]at r;cases r;exact⟨[],lx,.nil⟩
 |p::kvs,_,r=>by
  rw[ju]at r;cases r with
  | @cons a b as bs h t=>
   obtain⟨rs,c,q⟩:=zb0_ (P:=P) (w:=w) t;obtain⟨b1,b2⟩:=b;exact⟨(p.1,b2)::rs,⟨ziS_ h.1,rfl,c⟩,.cons ⟨rfl,h.2⟩ q⟩
def tDisp (trs:List (TE×TE)):TE:=λσ H Q=>∀p,H p=rQ->tPairs trs σ (upd H p (.dK [])) λps H2=>H2 p=rP (.dK [])/\∃kvs:List (Key×V),ps=kvs.map (λkv=>(kV kv.1,kv.2))/\kvs.length<=15/\Q (.ref p) (upd H2 p (.dK (mergeK [] kvs)))
theorem zlj_ {X:Cx}{pos:Pos}{keys:List (Option jw)}{values:List jw}{trs:List (TE×TE)}(h:PPs X pos keys values trs)(cp:keys.all (·.isSome)=rR)(hl:keys.length=values.length)(h0:keys≠[])
  (fQ:keys.length<=15):PE X (.Dict keys values pos) (tDisp trs):=by
 intro pins s σ H Q I q;have hn:=I.hok.fresh (jt s.heap.objs.size);have I1:=I.laid (a:=s.heap.objs.size) (o:=.dK []) (h':=s.heap.push {cls:=.type "dict",data:=.dict #[]}) (t':=s.toks) (λ_ _ q=>jo _ q) (jt _) (zfb_ s.heap I.big)
 refine wpAny_Dict_walk (knd:=mixKind X.prog X.w) cp hl h0 fQ (thn (h pins _ σ _ _ I1 (q _ hn)) λws s2 ah=>?_)
 obtain⟨ps,H2,I2,rel,e,kvs,ep,lk,q2⟩:=ah;subst ep;obtain⟨rs,c,rk⟩:=zb0_ (P:=X.prog) (w:=X.w) rel;obtain⟨z,hd,vs0,r0,dd⟩:=zne_ I2.hok e;cases r0;refine⟨rs,c,dd,λh' bI hs=>⟨.ref s.heap.objs.size,_,?_,rfl,q2⟩⟩
 have hz:(mergeK [] kvs).length<=jj:=by
  have h1:=zaY_ kvs [];rw[oU]at h1;rw[sizeLine_eq];lia
 have he:∃q,h'.get? s.heap.objs.size=rP q:=let⟨q,_,_,hq,_⟩:=bI;⟨q,hq⟩
 exact zc6_ I2 (by rw[e];exact lx) hs he (zij_ hz hd (rk.merge .nil) bI)
structure M2 (X:Cx)(o:jw)(m:Str)(apos:Pos)(e f:jw)(aj:Pos):Prop where
 base:attributeBase o m X.env (eval o X.env)=eval o X.env
 few:((lh aj (jE [e,f] X.env)).all (λx=>!x.1) && (mH aj (lS [] X.env)).all (λx=>x.1.isSome)
  && decide (([e,f]:List jw).length+([]:List Keyword).length+(if([]:List Keyword).isEmpty then 0 else 1)<30))=rR
 line:(apos.endLine == aj.line)=rR
 trees:lh aj (jE [e,f] X.env)=[(rS,eval e X.env),(rS,eval f X.env)]
section
end
section
namespace L2
open PySem PySem.Spec PyProof.Rows
section
end
section
variable {κ:Type}[DecidableEq κ]
end
end L2
end
section
end
theorem zaC_ {α β:Type}{f g:α->Option β}:∀{l:List α},(∀a∈l,f a=g a)->l.filterMap f=l.filterMap g
 |[],_=>rfl|a::l,h=>by rw[me,me,h a je,zaC_ λb hb=>h b (ji _ hb)]
section
end
def keyV:V->Option Key
 |.int i=>rP (.inl i)|.str z=>rP (.inr z)|_=>rQ
theorem zgx_ {y:V}{k:Key}(h:keyV y=rP k):y=kV k:=by
 cases y<;>first |(cases h;rfl)|cases h
def atD (x y:V)(H:Hp)(R:i9->List (Key×V)->Key->Prop):Prop:=match x with
 |.ref a=>(match keyV y with |some k=>∃kvs,H a=rP (.dK kvs)/\R a kvs k |none=>False)|_=>False
theorem zmM_ {x y:V}{H:Hp}{R:i9->List (Key×V)->Key->Prop}(h:atD x y H R):∃a kvs k,x=.ref a/\y=kV k/\H a=rP (.dK kvs)/\R a kvs k:=by
 unfold atD at h;cases x with
 |ref a=>
  cases e:keyV y with
  |none=>rw[e]at h;exact h.elim|some k=>
   rw[e]at h;obtain⟨kvs,h1,h2⟩:=h;exact⟨a,kvs,k,rfl,zgx_ e,h1,h2⟩
 |_=>exact h.elim
section
end
inductive Av where
 |i (n:Int)|p (a b:Int)
inductive Xc where
 |pl (c:String)|at(c:String) (as:List (Str×Av))
instance:Coe String Xc:=⟨Xc.pl⟩
inductive Mo (α:Type) where
 |ok (a:α)|ex (c:Xc)|no
namespace Mo
variable {α β γ:Type}
noncomputable def bind (x:Mo α)(f:α->Mo β):Mo β:=match x with |.ok a=>f a |.ex c=>.ex c |.no=>.no
theorem bind_assoc (x:Mo α)(f:α->Mo β)(g:β->Mo γ):(x.bind f).bind g=x.bind λa=>(f a).bind g:=by cases x<;>rfl
noncomputable def noex (x:Mo α):Mo α:=match x with |.ok a=>.ok a |_=>.no
noncomputable def lim (n:Nat)(k:Mo α):Mo α:=if n<=jj then k else .no
theorem lim_ok {n:Nat}{k:Mo α}(h:n<=100000):lim n k=k:=if_pos (zW_ h)
noncomputable def grd (p:Prop)[Decidable p](k:Mo α):Mo α:=if p then k else .no
theorem grd_ok {p:Prop}[Decidable p]{k:Mo α}(h:p):grd p k=k:=if_pos h
noncomputable def opt (x:Option α):Mo α:=match x with |some a=>.ok a |none=>.no
end Mo
def un (F h:Hp):Hp:=λp=>match F p with |some o=>rP o |none=>h p
def Dj (F h:Hp):Prop:=∀p,F p=rQ\/h p=rQ
def Jn (h1 h2 h:Hp):Prop:=∀p,(h1 p=rQ/\h p=h2 p)\/(h2 p=rQ/\h p=h1 p)
def Ext (F H F' H':Hp):Prop:=Same F F'/\Same F' H'/\Same H H'/\∀p,F p=rQ->F' p≠rQ->H p=rQ
theorem Ext.refl {F H:Hp}(h:Same F H):Ext F H F H:=⟨Same.refl _,h,Same.refl _,λp a b=>absurd a b⟩
theorem Ext.trans {F H F1 H1 F2 H2:Hp}(a:Ext F H F1 H1)(b:Ext F1 H1 F2 H2):Ext F H F2 H2:=by
 obtain⟨a1,a2,a3,a4⟩:=a;obtain⟨b1,b2,b3,b4⟩:=b;refine⟨a1.trans b1,b2,a3.trans b3,λp hp hq=>?_⟩
 cases e:F1 p with
 |none=>exact a3.free (b4 p e hq)|some o=>exact a4 p hp (by rw[e];exact sN _)
theorem Ext.heap {F H H':Hp}(h:Same F H)(g:Same H H'):Ext F H F H':=⟨Same.refl _,h.trans g,g,λp a b=>absurd a b⟩
theorem Ext.new {F H:Hp}(h:Same F H){p:i9}{o:HO}(hp:H p=rQ):Ext F H (upd F p o) (upd H p o):=by
 refine⟨zF_ (h.free hp) _,λb u e=>?_,zF_ hp _,λq a b=>?_⟩
 ·unfold upd at e ⊢
  split
  ·rename_i z;rw[if_pos z]at e;exact e
  ·rename_i z;rw[if_neg z]at e;exact h _ _ e
 ·unfold upd at b
  grind
structure Ty (α:Type) where
 R:α->V->Hp->Prop
 mono:∀{a v H H'},Same H H'->R a v H->R a v H'
def Tups (H H':Hp):Prop:=∀p xs,H p=rP (.tup xs)->H' p=rP (.tup xs)
theorem Same.tups {H H':Hp}(h:Same H H'):Tups H H':=λp xs e=>h _ _ e
abbrev tyInt:Ty Int:=⟨λa v _=>v=.int a,λ_ h=>h⟩
structure Cs (γ:Type) where
 R:γ->List V->Hp->Prop
 mono:∀{c vs H H'},Same H H'->R c vs H->R c vs H'
abbrev Prs {α:Type}(T:Ty α)(H:Hp)(xs:List α)(vs:List V):Prop:=Paired (λx v=>T.R x v H) xs vs
theorem zbd_ {α β:Type}{R R':α->β->Prop}(h:∀a b,R a b->R' a b):∀{xs:List α}{ys:List β},Paired R xs ys->Paired R' xs ys
 |_,_,.nil=>.nil|_,_,.cons a t=>.cons (h _ _ a) (zbd_ h t)
theorem Prs.mono {α:Type}{T:Ty α}{H H':Hp}{xs:List α}{vs:List V}(g:Same H H')(h:Prs T H xs vs):Prs T H' xs vs:=zbd_ (λ_ _ r=>T.mono g r) h
noncomputable abbrev tyL {α:Type}(T:Ty α):Ty (List α):=⟨λxs v H=>∃p vs,v=.ref p/\H p=rP (.lst vs)/\Prs T H xs vs,λg ⟨p,vs,e,h,q⟩=>⟨p,vs,e,g _ _ h,q.mono g⟩⟩
structure Own (α:Type) where
 O:α->V->Hp->Hp->Prop
 fr:Ty α
 mono:∀{a v F F' h},Same F F'->O a v F h->O a v F' h
 frz:∀{a v F h},Dj F h->O a v F h->fr.R a v (un F h)
 notup:∀{a v F h},O a v F h->∀p xs,h p≠rP (.tup xs)
theorem z2_ {F h:Hp}:Same F (un F h):=λp o e=>by unfold un;rw[e]
theorem zcu_ {F h:Hp}(d:Dj F h):Same h (un F h):=λp o e=>by
 unfold un;rcases d p with z |z
 ·rw[z];exact e
 ·rw[z]at e;cases e
def one (p:i9)(o:HO):Hp:=λq=>if q=p then rP o else rQ
theorem zD_ {p:i9}{o:HO}:one p o p=rP o:=if_pos rfl
inductive Sl:Type 1 where
 |dead
 |fz {α:Type}(T:Ty α) (a:α)
 |ow {α:Type}(O:Own α) (a:α)
def Sl.P:Sl->Option V->Hp->Hp->Prop
 |.dead,_,_,_=>True|.fz T a,o,F,_=>∃v,o=rP v/\T.R a v F|.ow O a,o,F,h=>∃v,o=rP v/\O.O a v F h
def Sl.Z:Sl->Option V->Hp->Prop
 |.dead,_,_=>True|.fz T a,o,F=>∃v,o=rP v/\T.R a v F|.ow O a,o,F=>∃v,o=rP v/\O.fr.R a v F
def Hold:List Sl->St->Hp->Hp->Prop
 |[],[],_,_=>True|s::L,o::σ,F,h=>∃h1 h2,Jn h1 h2 h/\s.P o F h1/\Hold L σ F h2|_,_,_,_=>False
def HoldF (L:List Sl)(σ:St)(F:Hp):Prop:=∀(i:Nat) (s:Sl),L[i]?=rP s->s.Z (σ[i]?.join) F
theorem Sl.P.mono {s:Sl}{o:Option V}{F F' h:Hp}(g:Same F F')(q:s.P o F h):s.P o F' h:=by
 cases s with
 |dead=>exact q|fz T a=>obtain⟨v,e,r⟩:=q;exact⟨v,e,T.mono g r⟩|ow O a=>obtain⟨v,e,r⟩:=q;exact⟨v,e,O.mono g r⟩
theorem Sl.Z.mono {s:Sl}{o:Option V}{F F':Hp}(g:Same F F')(q:s.Z o F):s.Z o F':=by
 cases s with
 |dead=>exact q|fz T a=>obtain⟨v,e,r⟩:=q;exact⟨v,e,T.mono g r⟩|ow O a=>obtain⟨v,e,r⟩:=q;exact⟨v,e,O.fr.mono g r⟩
theorem HoldF.mono {L:List Sl}{σ:St}{F F':Hp}(g:Same F F')(q:HoldF L σ F):HoldF L σ F':=λi s e=>(q i s e).mono g
theorem Hold.mono:∀{L:List Sl}{σ:St}{F F' h:Hp},Same F F'->Hold L σ F h->Hold L σ F' h
 |[],[],_,_,_,_,q=>q|s::L,o::σ,F,F',h,g,q_=>by obtain⟨h1,h2,j,p,r⟩:=q_;exact⟨h1,h2,j,p.mono g,r.mono g⟩
 |[],_::_,_,_,_,_,q=>q.elim|_::_,[],_,_,_,_,q=>q.elim
theorem Hold.len:∀{L:List Sl}{σ:St}{F h:Hp},Hold L σ F h->L.length=σ.length
 |[],[],_,_,_=>rfl|s::L,o::σ,F,h,q_=>by obtain⟨h1,h2,j,p,r⟩:=q_;rw[jg,jg,r.len]
 |[],_::_,_,_,q=>q.elim|_::_,[],_,_,q=>q.elim
theorem Jn.l {h1 h2 h:Hp}(j:Jn h1 h2 h):Same h1 h:=λp o e=>by
 rcases j p with⟨a,b⟩|⟨a,b⟩
 ·rw[a]at e;cases e
 ·rw[b];exact e
theorem Jn.r {h1 h2 h:Hp}(j:Jn h1 h2 h):Same h2 h:=λp o e=>by
 rcases j p with⟨a,b⟩|⟨a,b⟩
 ·rw[b];exact e
 ·rw[a]at e;cases e
theorem Jn.dj {h1 h2 h:Hp}(j:Jn h1 h2 h):Dj h1 h2:=λp=>by
 rcases j p with⟨a,b⟩|⟨a,b⟩
 ·exact .inl a
 ·exact .inr a
theorem zad_ {h1 h2:Hp}(d:Dj h1 h2):Jn h1 h2 (un h1 h2):=λp=>by
 unfold un;rcases d p with a |a
 ·rw[a];exact .inl ⟨rfl,rfl⟩
 ·grind
theorem Hold.at:∀{L:List Sl}{σ:St}{F h:Hp}(i:Nat) {s:Sl},Hold L σ F h->L[i]?=rP s ->
  ∃o h1 h2,σ[i]?=rP o/\Jn h1 h2 h/\s.P o F h1/\∀s' o' h1' h',Jn h1' h2 h'->s'.P o' F h1'->Hold (L.set i s') (σ.set i o') F h'
 |[],_,_,_,_,_,_,e=>by cases e
 |s::L,[],_,_,_,_,q,_=>q.elim
 |s::L,o::σ,F,h,0,t,q_,e=>by
  obtain⟨h1,h2,j,p,r⟩:=q_;cases e;exact⟨o,h1,h2,rfl,j,p,λs' o' h1' h' j' p'=>⟨h1',h2,j',p',r⟩⟩
 |s::L,o::σ,F,h,i+1,t,q_,e=>by
  obtain⟨h1,h2,j,p,r⟩:=q_;obtain⟨o1,k1,k2,e1,j1,p1,f⟩:=Hold.at i r (by simpa using e)
  have d1:Dj h1 k1:=λp=>by
   rcases j.dj p with a |a
   ·exact .inl a
   ·exact .inr (j1.l.free a)
  have d2:Dj h1 k2:=λp=>by
   rcases j.dj p with a |a
   ·exact .inl a
   ·exact .inr (j1.r.free a)
  refine⟨o1,k1,un h1 k2,by simpa using e1,λp=>?_,p1,λs' o' bJ h' j' p'=>?_⟩
  ·rcases j p with⟨a,b⟩|⟨a,b⟩
   ·rcases j1 p with⟨c,d⟩|⟨c,d⟩
    ·refine .inl ⟨c,?_⟩;unfold un;rw[a,b,d]
    ·refine .inr ⟨?_,by rw[b,d]⟩;unfold un;rw[a,c]
   ·refine .inl ⟨j1.l.free a,?_⟩
    have:k2 p=rQ:=j1.r.free a;unfold un;rw[b];grind
  ·have dd:Dj bJ k2:=λp=>by
    rcases j' p with⟨a,b⟩|⟨a,b⟩
    ·exact .inl a
    ·right;unfold un at a
     grind
   refine⟨h1,un bJ k2,λp=>?_,p,f s' o' bJ _ (zad_ dd) p'⟩
   rcases j' p with⟨a,b⟩|⟨a,b⟩
   ·unfold un at b ⊢
    cases z:h1 p with
    |none=>rw[z]at b;exact .inl ⟨rfl,by rw[b,a]⟩|some u=>
     rw[z]at b;refine .inr ⟨?_,b⟩;rw[a];rcases d2 p with y |y
     ·rw[y]at z;cases z
     ·exact y
   ·unfold un at a
    cases z:h1 p with
    |some u=>rw[z]at a;cases a|none=>
     rw[z]at a;refine .inl ⟨rfl,?_⟩;unfold un;rw[b];grind
theorem Hold.froz {L:List Sl}{σ:St}{F h:Hp}(d:Dj F h)(q:Hold L σ F h):HoldF L σ (un F h):=by
 intro i s e;obtain⟨o,h1,h2,e1,j,p,_⟩:=q.at i e;rw[e1];have d1:Dj F h1:=λp=>by
  rcases d p with a |a
  ·exact .inl a
  ·exact .inr (j.l.free a)
 cases s with
 |dead=>trivial|fz T a=>obtain⟨v,e2,r⟩:=p;exact⟨v,e2,T.mono z2_ r⟩|ow O a=>
  obtain⟨v,e2,r⟩:=p;refine⟨v,e2,O.fr.mono (λp u z=>?_) (O.frz d1 r)⟩
  unfold un at z ⊢;cases y:F p with
  |some w=>rw[y]at z;exact z|none=>rw[y]at z;exact j.l _ _ z
end L2
namespace L2
open PySem PySem.Spec PyProof.Rows
def Av.R:Av->V->Hp->Prop
 |.i n,v,_=>v=.int n|.p a b,v,H=>∃q,v=.ref q/\H q=rP (.tup [.int a,.int b])
theorem Av.imm {x:Av}{v:V}{H H':Hp}(g:Tups H H')(h:x.R v H):x.R v H':=by
 cases x with
 |i n=>exact h|p a b=>obtain⟨q,e,z⟩:=h;exact⟨q,e,g _ _ z⟩
def AtR (as:List (Str×Av))(fs:List (Str×V))(F:Hp):Prop:=Paired (λa f=>a.1=f.1/\a.2.R f.2 F) as fs
theorem AtR.imm {as:List (Str×Av)}{fs:List (Str×V)}{H H':Hp}(g:Tups H H')(h:AtR as fs H):AtR as fs H':=zbd_ (λ_ _ r=>⟨r.1,Av.imm g r.2⟩) h
def Tell (K:Fgg)(E:XK)(x:Xc)(H0 F H:Hp):Prop:=match x with
 |.pl c=>E (.ref (gA K c)) rQ H|.at c as=>∀dx fs,H0 dx=rQ->F dx=rP (XDO dx fs)->AtR as fs F->E (.ref (gA K c)) (rP dx) H
theorem Tell.up {K:Fgg}{E:XK}{x:Xc}{H0 H1 F H:Hp}(s:Same H0 H1)(h:Tell K E x H0 F H):Tell K E x H1 F H:=by
 cases x with
 |pl c=>exact h|«at» c as=>exact λdx fs e=>h dx fs (s.free e)
def After {α:Type}(K:Fgg)(r:Mo α)(E:XK)(F H:Hp)(k:α->Hp->Hp->Prop):Prop:=match r with
 |.ok a=>∀F' H',Ext F H F' H'->k a F' H'|.ex c=>∀F' H',Ext F H F' H'->Tell K E c H F' H'|.no=>False
section
variable {K:Fgg}{E:XK}{α β γ:Type}{F H:Hp}
theorem After.bind {r:Mo α}{f:α->Mo β}{k:β->Hp->Hp->Prop}(h:After K (r.bind f) E F H k):After K r E F H λa F1 H1=>After K (f a) E F1 H1 k:=by
 cases r with
 |ok a=>
  intro F1 H1 x;have h':After K (f a) E F H k:=h;cases e:f a with
  |ok b=>rw[e]at h';exact λF2 H2 y=>h' F2 H2 (x.trans y)|ex c=>rw[e]at h';exact λF2 H2 y=>(h' F2 H2 (x.trans y)).up x.2.2.1|no=>rw[e]at h';exact h'
 |ex c=>exact h|no=>exact h
theorem After.imp {r:Mo α}{k k':α->Hp->Hp->Prop}(h:After K r E F H k)(g:∀a F' H',Ext F H F' H'->k a F' H'->k' a F' H'):After K r E F H k':=by
 cases r with
 |ok a=>exact λF' H' x=>g a F' H' x (h F' H' x)|ex c=>exact h|no=>exact h
theorem After.ok {a:α}{k:α->Hp->Hp->Prop}(hs:Same F H)(h:After K (.ok a) E F H k):k a F H:=h F H (.refl hs)
theorem After.lim {n:Nat}{r:Mo α}{k:α->Hp->Hp->Prop}(h:After K (Mo.lim n r) E F H k):n<=jj/\After K r E F H k:=by
 unfold Mo.lim at h;split at h
 ·exact⟨by assumption,h⟩
 ·exact h.elim
theorem After.grd {p:Prop}[Decidable p]{r:Mo α}{k:α->Hp->Hp->Prop}(h:After K (Mo.grd p r) E F H k):p/\After K r E F H k:=by
 unfold Mo.grd at h;split at h
 ·exact⟨by assumption,h⟩
 ·exact h.elim
theorem After.opt {x:Option α}{k:α->Hp->Hp->Prop}(h:After K (Mo.opt x) E F H k):∃a,x=rP a/\After K (.ok a) E F H k:=by
 cases x with
 |none=>exact h.elim|some a=>exact⟨a,rfl,h⟩
def EvF (K:Fgg)(e:TE)(E:XK)(L:List Sl)(r:Mo α)(T:Ty α):Prop:=
 ∀σ F H (Q:VK),HoldF L σ F->Same F H->After K r E F H (λa F' H'=>∀v,T.R a v F'->Q v H')->e σ H Q
def OwnK (O:Own α)(H:Hp)(Q:VK)(a:α)(F' H':Hp):Prop:=∀v h,(∀p,h p≠rQ->H p=rQ)->Dj F' h->Same h H'->O.O a v F' h->Q v H'
def EvO (K:Fgg)(e:TE)(E:XK)(L:List Sl)(r:Mo α)(O:Own α):Prop:=
 ∀σ F H (Q:VK),HoldF L σ F->Same F H->After K r E F H (OwnK O H Q)->e σ H Q
def EvT (K:Fgg)(t:TT)(E:XK)(L:List Sl)(r:Mo Bool):Prop:=
 ∀σ F H (Q:Bool->Hp->Prop),HoldF L σ F->Same F H->After K r E F H (λb _ H'=>Q b H')->t σ H Q
def EvA (K:Fgg)(t:TA)(E:XK)(L:List Sl)(r:Mo γ)(C:Cs γ):Prop:=
 ∀σ F H (Q:List V->Hp->Prop),HoldF L σ F->Same F H->After K r E F H (λc F' H'=>∀vs,C.R c vs F'->Q vs H')->t σ H Q
variable {L:List Sl}{e e1 e2:TE}{T:Ty α}{r:Mo α}
theorem EvO.fr {O:Own α}(h:EvO K e E L r O):EvF K e E L r O.fr:=by
 intro σ F H Q hL hs q;refine h σ F H Q hL hs ?_;cases r with
 |ok a=>
  intro F' H' x v h' fresh d s o;refine q (un F' h') H' ⟨x.1.trans z2_,λp o e=>?_,x.2.2.1,λp a b=>?_⟩ v (O.frz d o)
  ·unfold un at e
   cases z:F' p with
   |some w=>rw[z]at e;cases e;exact x.2.1 _ _ z|none=>rw[z]at e;exact s _ _ e
  ·unfold un at b
   cases z:F' p with
   |some w=>exact x.2.2.2 p a (by rw[z];exact sN _)|none=>rw[z]at b;exact fresh p b
 |ex c=>exact q|no=>exact q
def Op2O (K:Fgg)(m:R2)(E:XK)(T1:Ty α)(T2:Ty β)(g:α->β->Mo γ)(O:Own γ):Prop:=
 ∀a b x y F H (Q:VK),Same F H->T1.R a x F->T2.R b y F->After K (g a b) E F H (OwnK O H Q)->m x y H Q
theorem OwnK.back {O:Own α}{H H1:Hp}{Q:VK}{a:α}{F' H':Hp}(g:Same H H1)(h:OwnK O H Q a F' H'):OwnK O H1 Q a F' H':=
 λv k fresh d s o=>h v k (λp z=>g.free (fresh p z)) d s o
theorem zmq_ {m:R2}{T1:Ty α}{T2:Ty β}{O:Own γ}{g:α->β->Mo γ}{r1:Mo α}{r2:Mo β}(gV:Op2O K m E T1 T2 g O)(h1:EvF K e1 E L r1 T1)(h2:EvF K e2 E L r2 T2):
  EvO K (tOp m e1 e2) E L (r1.bind λa=>r2.bind λb=>g a b) O:=by
 intro σ F H Q hL hs q;refine h1 σ F H _ hL hs (q.bind.imp λa F1 H1 x1 k1 v1 aM=>?_)
 refine h2 σ F1 H1 _ (hL.mono x1.1) x1.2.1 (k1.bind.imp λb F2 H2 x2 k2 v2 eB=>?_)
 exact gV a b v1 v2 F2 H2 Q x2.2.1 (T1.mono x2.1 aM) eB (k2.imp λc F3 H3 x3 k3=>k3.back (x1.2.2.1.trans x2.2.2.1))
noncomputable instance (i j:Int):Decidable (CMul i j):=inferInstanceAs (Decidable (_\/_))
noncomputable instance (i j:Int):Decidable (CDiv i j):=inferInstanceAs (Decidable (_/\_))
noncomputable instance (i j:Int):Decidable (CPow i j):=inferInstanceAs (Decidable (_/\_/\_))
theorem Prs.append {xs ys:List α}{vs us:List V}(a:Prs T H xs vs)(b:Prs T H ys us):Prs T H (xs++ys) (vs++us):=by
 induction a with
 |nil=>exact b|cons r t ih=>exact .cons r ih
theorem Prs.len {xs:List α}{vs:List V}(a:Prs T H xs vs):xs.length=vs.length:=Paired.length a
theorem Prs.get {xs:List α}{vs:List V}(a:Prs T H xs vs)(i:Nat):(xs[i]?=rQ/\vs[i]?=rQ)\/∃x v,xs[i]?=rP x/\vs[i]?=rP v/\T.R x v H:=by
 induction a generalizing i with
 |nil=>exact .inl ⟨rfl,rfl⟩|cons r t ih=>
  grind
theorem Prs.take {xs:List α}{vs:List V}(a:Prs T H xs vs)(n:Nat):Prs T H (xs.take n) (vs.take n):=by
 induction a generalizing n with
 |nil=>rw[pD,pD];exact .nil|cons r t ih=>
  cases n with
  |zero=>exact .nil|succ n=>exact .cons r (ih n)
theorem Prs.drop {xs:List α}{vs:List V}(a:Prs T H xs vs)(n:Nat):Prs T H (xs.drop n) (vs.drop n):=by
 induction a generalizing n with
 |nil=>rw[qq,qq];exact .nil|cons r t ih=>
  cases n with
  |zero=>exact .cons r t|succ n=>exact ih n
def BlO (K:Fgg)(m:List V->Hp->VK->Prop)(E:XK)(C:Cs γ)(g:γ->Mo α)(O:Own α):Prop:=
 ∀c vs F H (Q:VK),Same F H->C.R c vs F->After K (g c) E F H (OwnK O H Q)->m vs H Q
theorem zmP_ {m:List V->Hp->VK->Prop}{C:Cs γ}{g:γ->Mo α}{O:Own α}{ta:TA}{r:Mo γ}(hb:BlO K m E C g O)(h:EvA K ta E L r C):EvO K (tCB m ta) E L (r.bind g) O:=by
 intro σ F H Q hL hs q;exact h σ F H _ hL hs (q.bind.imp λc F1 H1 x1 k1 vs a9=>hb c vs F1 H1 Q x1.2.1 a9 (k1.imp λa F2 H2 x2 k2=>k2.back x1.2.2.1))
theorem zjb_ {xs:List α}{vs:List V}(r:Prs T H xs vs){i:Int}{x:α}(e:atI xs i=rP x):∃v,atI vs i=rP v/\T.R x v H:=by
 unfold atI at e ⊢;rw[<- r.len];cases e1:ixN xs.length i with
 |none=>rw[e1]at e;cases e|some j=>
  rw[e1]at e;rcases r.get j with⟨a,b⟩|⟨y,v,a,b,c⟩
  ·have:xs[j]?=rP x:=e
   rw[a]at this;cases this
  ·grind
end
section
variable {K:Fgg}{E:XK}{α γ:Type}{F H:Hp}{L:List Sl}{e1 e2:TE}{T:Ty α}{r:Mo α}{t:TT}{b:Mo Bool}
theorem zl6_ {r1 r2:Mo α}{O:Own α}(ht:EvT K t E L b)(h1:EvO K e1 E L r1 O)(h2:EvO K e2 E L r2 O):EvO K (mIf t e1 e2) E L (b.bind λc=>if c then r1 else r2) O:=by
 intro σ F H Q hL hs q;refine ht σ F H _ hL hs (q.bind.imp λa F1 H1 x k=>⟨λc=>?_,λc=>?_⟩)
 ·rw[if_pos c]at k;exact h1 σ F1 H1 _ (hL.mono x.1) x.2.1 (k.imp λa F2 H2 y z=>z.back x.2.2.1)
 ·rw[if_neg (by rw[c];decide)]at k;exact h2 σ F1 H1 _ (hL.mono x.1) x.2.1 (k.imp λa F2 H2 y z=>z.back x.2.2.1)
theorem After.more {k:α->Hp->Hp->Prop}(h:After K r E F H k):After K r E F H λa F1 H1=>∀F2 H2,Ext F1 H1 F2 H2->k a F2 H2:=by
 cases r with
 |ok a=>exact λF1 H1 x F2 H2 y=>h F2 H2 (x.trans y)|ex c=>exact h|no=>exact h
def EvP (K:Fgg)(t:TO)(E:XK)(L:List Sl)(r:Mo (Option Int)):Prop:=
 ∀σ F H (Q:Option Int->Hp->Prop),HoldF L σ F->Same F H->After K r E F H (λb _ H'=>Q b H')->t σ H Q
theorem ep_no:EvP K tNoPart E L (.ok rQ):=λσ F H Q hL hs q=>q.ok hs
def cutG (xs:List α)(lo hi:Option Int):List α:=(xs.drop (HT.sIx xs.length 0 lo)).take (HT.sIx xs.length xs.length hi-HT.sIx xs.length 0 lo)
theorem zkf_ {xs:List α}{vs:List V}(q:Prs T H xs vs)(lo hi:Option Int):Prs T H (cutG xs lo hi) (cutV vs lo hi):=by
 unfold cutG cutV;rw[<- q.len];exact(q.drop _).take _
theorem EqD.le {H:Hp}{n m:Nat}{x y:V}{b:Bool}(h:EqD K H n x y b)(g:n<=m):EqD K H m x y b:=by
 induction g with
 |refl=>exact h|step _ ih=>exact .up ih
def MeO (K:Fgg)(m:V->List V->Hp->VK->Prop)(E:XK)(C:Cs γ)(g:List Nat->γ->Mo α)(O:Own α):Prop:=
 ∀l c vs F H (Q:VK),Same F H->C.R c vs F->After K (g l c) E F H (OwnK O H Q)->m (tx l) vs H Q
noncomputable def ljL (l:List Nat)(i:Int):List Nat:=(Txt.ljust ⟨l.toArray⟩ i).cps.toList
end
section
variable {K:Fgg}{E:XK}{α β:Type}{F H:Hp}{L:List Sl}{e:TE}{T:Ty α}{r:Mo α}
noncomputable def setL (L:List Sl)(ss:List (Nat×Sl)):List Sl:=ss.foldl (λL q=>L.set q.1 q.2) L
def setS (σ:St)(ss:List (Nat×Option V)):St:=ss.foldl (λL q=>L.set q.1 q.2) σ
inductive Plain (F:Hp):List (Nat×Sl)->List (Nat×Option V)->Prop
 |nil:Plain F [] []
 |cons {α:Type}{T:Ty α}{a:α}{i:Nat}{v:V}{ss vs} (h:T.R a v F) (t:Plain F ss vs):Plain F ((i,.fz T a)::ss) ((i,rP v)::vs)
def TgR (K:Fgg)(g:TG)(T:Ty α)(ss:α->List (Nat×Sl)):Prop:=
 ∀a v σ F H (Q:St->Hp->Prop),Same F H->T.R a v F->(∀vs,Plain F (ss a) vs->Q (setS σ vs) H)->g v σ H Q
theorem zhf_ {σ:St}{i j:Nat}{o:Option V}(h:i<σ.length):((σ.set i o)[j]?).join=if i=j then o else(σ[j]?).join:=by
 grind
theorem zfL_ {σ:St}{i:Nat}{s:Sl}{o:Option V}(hl:L.length=σ.length)(h:HoldF L σ F)(hs:s.Z o F):HoldF (L.set i s) (σ.set i o) F:=by
 intro j t e;rw[lb]at e;split at e
 ·grind
 ·rename_i z
  by_cases y:i<σ.length
  ·rw[zhf_ y,if_neg z];exact h j t e
  ·rw[List.set_eq_of_length_le (by lia)];exact h j t e
theorem zdv_ {ss:List (Nat×Sl)}{vs:List (Nat×Option V)}(p:Plain F ss vs):∀{L:List Sl}{σ:St},L.length=σ.length->HoldF L σ F->HoldF (setL L ss) (setS σ vs) F/\(setS σ vs).length=σ.length/\(setL L ss).length=L.length:=by
 induction p with
 |nil=>exact λhl h=>⟨h,rfl,rfl⟩|cons hv t ih=>
  rename_i T a i v ss vs
  intro L σ hl h;obtain⟨a1,b,c⟩:=ih (L:=L.set i (.fz T a)) (σ:=σ.set i (rP v)) (by rw[lj,lj];exact hl) (zfL_ (s:=.fz T a) hl h ⟨v,rfl,hv⟩)
  exact⟨a1,b.trans (by rw[lj]),c.trans (by rw[lj])⟩
def DeadAt (L:List Sl)(is:List Nat):Prop:=∀i∈is,∀s,L[i]?=rP s->s=.dead
theorem zhh_ {ss:List (Nat×Sl)}{vs:List (Nat×Option V)}(p:Plain F ss vs){j:Nat}:∀{σ:St},j∉ss.map (·.1)->(setS σ vs)[j]?=σ[j]?:=by
 induction p with
 |nil=>exact λ_=>rfl|cons hv t ih=>
  rename_i i v ss vs
  intro σ hj;have h1:i≠j:=λz=>hj (by rw[<- z];exact je)
  have h2:=ih (σ:=σ.set i (rP v)) λz=>hj (ji _ z)
  exact h2.trans (jI h1)
structure Yl (K:Fgg)(J:It)(xs:List α)(T:Ty α)(F1:Hp):Prop where
 go:∀i H x,Same F1 H->xs[i]?=rP x->J.go i H/\∀v H',J.yld i H v H'->∀F,Same F1 F->Same F H->∃F',Ext F H F' H'/\T.R x v F'
 stop:∀H,Same F1 H->J.stop xs.length H
def EvI (K:Fgg)(wi:TI)(E:XK)(L:List Sl)(r:Mo (List α))(T:Ty α):Prop:=
 ∀σ F H (R:It->Hp->Prop),HoldF L σ F->Same F H->After K r E F H (λxs F' H'=>∀J,Yl K J xs T F'->R J H')->wi σ H R
noncomputable def rngI (lo:Int)(n:Nat):List Int:=(jV n).map λ(i:Nat)=>lo+i
theorem znB_ {lo:Int}{n:Nat}{F1:Hp}:Yl K (Itr lo n) (rngI lo n) tyInt F1:=by
 refine⟨λi H x hH hx=>?_,λH hH=>?_⟩
 ·unfold rngI at hx
  rw[jB]at hx;cases e:(jV n)[i]? with
  |none=>rw[e]at hx;cases hx|some c=>
   rw[e]at hx;cases hx;obtain⟨hi,e⟩:=jN.mp e;rw[nM]at e;subst e;rw[kl]at hi;refine⟨hi,?_⟩;rintro v H' ⟨rfl,rfl⟩ F _ hF;exact⟨F,.refl hF,rfl⟩
 ·show n<=_
  unfold rngI;rw[i7,kl];exact jt _
def compM (f:α->Mo (Option β)):List α->List β->Mo (List β)
 |[],acc=>.ok acc|x::xs,acc=>(f x).bind λo=>match o with |none=>compM f xs acc |some y=>.lim (acc.length+1) (compM f xs (acc++[y]))
noncomputable def cL (lv:List Str)(fr:List (Str×Nat))(L:List Sl):List Sl:=lv.map (λ_=>Sl.dead)++fr.map λq=>(L[q.2]?).getD .dead
theorem zew_ {lv:List Str}{fr:List (Str×Nat)}{σ:St}(h:HoldF L σ F):HoldF (cL lv fr L) (cS lv fr σ) F:=by
 intro i s e;unfold cL at e;unfold cS;by_cases hi:i<lv.length
 ·rw[lD (by rw[i7];exact hi),jB,jf hi]at e
  cases e;trivial
 ·rw[kR (by rw[i7];lia),i7,jB]at e
  rw[kR (by rw[i7];lia),i7,jB]
  cases z:fr[i-lv.length]? with
  |none=>rw[z]at e;cases e|some q=>
   rw[z]at e;have e:(L[q.2]?).getD .dead=s:=by simpa using e
   show Sl.Z s (σ[q.2]?).join F
   cases y:L[q.2]? with
   |none=>rw[y]at e;rw[<- e];trivial|some t=>rw[y]at e;cases e;exact h _ _ y
theorem zhT_ {lv:List Str}{fr:List (Str×Nat)}{σ:St}:(cL lv fr L).length=(cS lv fr σ).length:=by unfold cL cS;simp
def cond1 (c:Mo Bool)(f:Mo β):Mo (Option β):=(c.bind λb=>if b then f.bind λy=>.ok (rP y)else .ok rQ).noex
end
def Okk (F0 H0 F h H:Hp):Prop:=Ext F0 H0 F H/\Dj F h/\Same h H/\(∀p,h p≠rQ->H0 p=rQ)/\∀p xs,h p≠rP (.tup xs)
section
variable {K:Fgg}{E:XK}{α:Type}{F0 H0 F h H:Hp}{e:TE}{r:Mo α}{t:TS}
theorem Okk.thaw (ok:Okk F0 H0 F h H):Same (un F h) H:=λp o e=>by
 unfold un at e;cases z:F p with
 |some w=>rw[z]at e;cases e;exact ok.1.2.1 _ _ z|none=>rw[z]at e;exact ok.2.2.1 _ _ e
def less (G h:Hp):Hp:=λp=>match h p with |none=>G p |some _=>rQ
theorem z9_ {G h:Hp}{p:i9}(e:h p=rQ):less G h p=G p:=by unfold less;rw[e]
theorem Okk.back (ok:Okk F0 H0 F h H){G' H':Hp}(x:Ext (un F h) H G' H'):Okk F0 H0 (less G' h) h H'/\Same F (less G' h)/\Tups G' (less G' h):=by
 obtain⟨o1,o2,o3,o4,o5⟩:=ok;have hs:Same F (less G' h):=λp o e=>by
  have hp:h p=rQ:=by
   rcases o2 p with z |z
   ·rw[z]at e;cases e
   ·exact z
  rw[z9_ hp];exact x.1 _ _ (z2_ _ _ e)
 refine⟨⟨⟨o1.1.trans hs,λp o e=>?_,o1.2.2.1.trans x.2.2.1,λp a b=>?_⟩,λp=>?_,λp o e=>?_,o4,o5⟩,hs,λp xs e=>?_⟩
 ·unfold less at e
  split at e
  ·exact x.2.1 _ _ e
  ·cases e
 ·unfold less at b
  split at b
  ·rename_i z
   cases y:un F h p with
   |none=>exact o1.2.2.1.free (x.2.2.2 p y b)|some o=>
    unfold un at y;cases w:F p with
    |some _=>exact o1.2.2.2 p a (by rw[w];exact sN _)|none=>rw[w,z]at y;cases y
  ·exact absurd rfl b
 ·unfold less
  grind
 ·exact x.2.1 _ _ (x.1 _ _ (zcu_ o2 _ _ e))
 ·unfold less
  cases z:h p with
  |none=>exact e|some o=>
   have:=x.1 _ _ (zcu_ o2 _ _ z);rw[e]at this;cases this;exact absurd z (o5 p xs)
theorem Tell.back {x:Xc}(ok:Okk F0 H0 F h H){G' H':Hp}(y:Ext (un F h) H G' H')(t:Tell K E x H0 (less G' h) H'):Tell K E x H G' H':=by
 cases x with
 |pl c=>exact t|«at» c as=>
  refine λdx fs e q r=>t dx fs (ok.1.2.2.1.free e) ?_ (r.imm (ok.back y).2.2)
  rw[z9_ (ok.2.2.1.free e)];exact q
theorem Okk.cold (ok:Okk F0 H0 F h H){F' H':Hp}(x:Ext F H F' H'):Okk F0 H0 F' h H':=by
 refine⟨ok.1.trans x,λp=>?_,ok.2.2.1.trans x.2.2.1,ok.2.2.2.1,ok.2.2.2.2⟩
 cases z:h p with
 |none=>exact .inr rfl|some o=>
  left;rcases ok.2.1 p with y |y
  ·cases w:F' p with
   |none=>rfl|some o'=>have:=x.2.2.2 p y (by rw[w];exact sN _);rw[ok.2.2.1 _ _ z]at this;cases this
  ·rw[y]at z;cases z
theorem zhk_ {hn h:Hp}(hh:Same h H)(fresh:∀p,hn p≠rQ->H p=rQ):Dj hn h:=λp=>by
 cases z:hn p with
 |none=>exact .inl rfl|some w=>
  have:=fresh p (by rw[z];exact sN _)
  exact .inr (hh.free this)
theorem zhU_ {α:Type}{l:List α}{i:Nat}{o:α}(h:l[i]?=rP o):l.set i o=l:=by
 obtain⟨hi,e⟩:=jN.mp h;rw[<- e];exact List.set_getElem_self hi
theorem Okk.rebase {F1 H1:Hp}(x:Ext F0 H0 F1 H1)(ok:Okk F0 H0 F h H)(s:Same F1 F):Okk F1 H0 F h H:=by
 obtain⟨o1,o2,o3,o4,o5⟩:=ok;refine⟨⟨s,o1.2.1,o1.2.2.1,λp a b=>o1.2.2.2 p (x.1.free a) b⟩,o2,o3,o4,o5⟩
theorem Okk.unbase {F1 H1:Hp}(x:Ext F0 H0 F1 H1)(ok:Okk F1 H0 F h H):Okk F0 H0 F h H:=by
 obtain⟨o1,o2,o3,o4,o5⟩:=ok;refine⟨⟨x.1.trans o1.1,o1.2.1,o1.2.2.1,λp a b=>?_⟩,o2,o3,o4,o5⟩
 cases z:F1 p with
 |none=>exact o1.2.2.2 p z b|some w=>exact x.2.2.2 p a (by rw[z];exact sN _)
variable {L:List Sl}
def CDivG (i j:Int):Prop:=0<j/\ny i j=rS
noncomputable instance (i j:Int):Decidable (CDivG i j):=inferInstanceAs (Decidable (_/\_))
noncomputable instance (i j:Int):Decidable (IntMulOk i j):=inferInstanceAs (Decidable (¬_))
abbrev mMulG:R2:=mI IntMulOk λi j=>.int (i*j)
abbrev mDivG:R2:=mI CDivG λi j=>.int (i / j)
theorem zlG_ {X:Cx}:OpR X (lO .Mult) mMulG:=opM (opI λ_ _ _ _ _ _ _ hc q=>mul_int q hc)
theorem zi8_ {X:Cx}:OpR X (lO .FloorDiv) mDivG:=opM (opI λi j _ _ _ _ _ hc q=>by
 have h1:(0:Int)<j:=hc.1;exact floordiv_int (by lia) (by rw[Int.fdiv_eq_ediv_of_nonneg i (by lia)];exact q) (.inl hc.2))
theorem zjj_:EvT K tTrue E L (.ok rR):=λσ F H Q hL hs q=>q.ok hs
end
section
variable {α:Type}
open PySem PySem.Spec PyProof.Rows in
theorem zkv_ {a j:Int}(h0:0<j)(h:j.natAbs.log2<9000):CDivG a j:=by
 refine⟨h0,?_⟩;unfold ny;grind
theorem log2_lt {n k:Nat}(h:n<2 ^ k):n.log2<k\/n=0:=by
 by_cases hz:n=0
 ·exact .inr hz
 ·exact .inl ((Nat.log2_lt hz).mpr h)
theorem zlU_ {a j:Int}(h0:0<j)(h:j<2 ^ 1000):CDivG a j:=by
 refine zkv_ h0 ?_;have h1:j.natAbs<2 ^ 1000:=by
  grind
 rcases log2_lt h1 with h |h
 ·lia
 ·rw[h];decide
open PySem PySem.Spec PyProof.Rows in
theorem zeY_ {i j:Int}(h : -(2 ^ 64)<i/\i<2 ^ 64 \/ -(2 ^ 64)<j/\j<2 ^ 64):IntMulOk i j:=CMul.ok h
theorem atI_nn {xs:List α}{k:Int}(h0:0<=k):atI xs k=xs[k.toNat]?:=by
 unfold atI ixN;grind
theorem zbe_ {xs:List α}{k:Int}(h0:0<=k)(h1:k<xs.length):∃x,atI xs k=rP x/\x∈xs:=by
 rw[atI_nn h0,jf (show k.toNat<xs.length by lia)]
 exact⟨_,rfl,m9 _⟩
theorem zis_ (xs:List α)(lo hi:Option Int):(cutG xs lo hi).length<=xs.length:=by
 unfold cutG;rw[j7,kx];lia
theorem zik_ {xs:List α}{lo hi:Option Int}{x:α}(h:x∈cutG xs lo hi):x∈xs:=pj (l7 h)
end
section
variable {F0 H0 F h H:Hp}
theorem zcY_ {p:i9}{o':HO}{h1' hr h':Hp}(ok:Okk F0 H0 F h H)(hp:h p≠rQ)(nt:∀xs,o'≠.tup xs)(h':Hp)(hh:∀q,h' q=if q=p then rP o' else h q):Okk F0 H0 F h' (upd H p o'):=by
 obtain⟨o1,o2,o3,o4,o5⟩:=ok;have Fp:F p=rQ:=by
  rcases o2 p with z |z
  ·exact z
  ·exact absurd z hp
 have iO:H0 p=rQ:=o4 p hp;refine⟨⟨o1.1,λq o z=>?_,λq o z=>?_,o1.2.2.2⟩,λq=>?_,λq o z=>?_,λq z=>?_,λq ys z=>?_⟩
 ·unfold upd;split
  ·rename_i w;rw[w,Fp]at z;cases z
  ·exact o1.2.1 _ _ z
 ·unfold upd;split
  ·rename_i w;rw[w,iO]at z;cases z
  ·exact o1.2.2.1 _ _ z
 ·rw[hh];split
  ·rename_i w;rw[w];exact .inl Fp
  ·exact o2 q
 ·rw[hh]at z;unfold upd
  split at z
  ·rename_i w;rw[if_pos w];exact z
  ·rename_i w;rw[if_neg w];exact o3 _ _ z
 ·grind
 ·grind
@[irreducible] def fuelW:Nat:=100000
end
open PySem.SeqAt
open PySem.AutoSeq1 (wpAny_loadPart')
open PySem.MeetsSeq PySem.MeetsSeq2 PySem.MeetsSeq3
section
variable {α:Type}
theorem zj1_ {n d:Nat}{i:Int}(h:0<=i):HT.sIx n d (rP i)=min i.toNat n:=by
 unfold HT.sIx;simp only;split<;>lia
theorem zey_ {xs:List α}{i:Int}(h:0<=i):cutG xs rQ (rP i)=xs.take i.toNat:=by
 unfold cutG;rw[zj1_ h,show HT.sIx xs.length 0 rQ=0 from rfl,pd,Nat.sub_zero,<- List.take_take,List.take_length]
theorem zdr_ {xs:List α}{i:Int}(h:0<=i):cutG xs (rP i) rQ=xs.drop i.toNat:=by
 unfold cutG;rw[zj1_ h,show HT.sIx xs.length xs.length rQ=xs.length from rfl]
 by_cases hl:i.toNat<=xs.length
 ·rw[Nat.min_eq_left hl,mU (by rw[kx];exact jt _)]
 ·rw[Nat.min_eq_right (by lia),ox,List.drop_eq_nil_of_le (by lia),pD]
end
noncomputable def repL {α:Type}(xs:List α)(n:Int):List α:=(i8 n.toNat xs).flatten
def CRep (m:Nat)(n:Int):Prop:=0<=n/\n<=100000/\m<=100000/\m*n.toNat<=100000
noncomputable instance (m:Nat) (n:Int):Decidable (CRep m n):=inferInstanceAs (Decidable (_/\_))
def mMulX:R2:=λx y H Q=>match x,y with
 |.int i,.int j=>IntMulOk i j/\Q (.int (i*j)) H|.str z,.int n=>CRep z.cps.toList.length n/\Q (tx (repL z.cps.toList n)) H|.ref l,.int k=>∃xs,H l=rP (.lst xs)/\CRep xs.length k/\∀p,H p=rQ->Q (.ref p) (upd H p (.lst (repL xs k)))|_,_=>False
theorem zgR_ (z:Array Nat)(n:Nat):(oM (λx1 x2=>x1++x2) #[] (i8 n z)).toList=(i8 n z.toList).flatten:=by
 have:∀(l:List (Array Nat)) (acc:Array Nat),(l.foldl (λx1 x2=>x1++x2) acc).toList=acc.toList++(l.map nA).flatten:=by
  intro l;induction l with
  |nil=>intro acc;simp
  |cons a l ih=>intro acc;rw[nv,ih];simp
 rw[this];simp
theorem zlP_ {X:Cx}:OpR X (lO .Mult) mMulX:=by
 intro pins s σ H x y v u Q I rx ry h
 cases x<;>cases y<;>first
  |exact h.elim
  |exact zlG_ pins s σ H _ _ v u Q I rx ry h
  | (obtain⟨xs,hl,⟨c1,c2,c3,c4⟩,q⟩:=h
     exact zok_ pins s σ H _ _ v u Q I rx ry ⟨_,_,xs,rfl,rfl,hl,by lia,by lia,zW_ c4,q⟩)
  | (rename_i z n
     obtain⟨⟨c1,c2,c3,c4⟩,q⟩:=h;obtain⟨t,rfl⟩:=rx;obtain⟨t',rfl⟩:=ry;have hz:z.length=z.cps.toList.length:=by simp[k9]
     refine PySem.P.mul_str (by simp;lia) (λh1 h2=>?_) (λh1 h2=>?_) ?_
     ·rw[hz]
      have hn:0<n:=by lia
      have:(z.cps.toList.length:Int)*n<=2 ^ 63-1:=by
       grind
      have:=Int.le_ediv_of_mul_le hn this;lia
     ·unfold pv
      rw[hz];have:=zW_ c4;exact decide_eq_false (by lia)
     ·by_cases h1:n<1
      ·rw[if_pos h1]
       have:n=0:=by lia
       subst this;exact⟨lZ _,tx [],H,I.tok _,⟨_,rfl⟩,q⟩
      ·rw [if_neg h1]
       by_cases h2:(n == 1 ||z.length == 0)=rR
       ·rw[if_pos h2]
        have e:repL z.cps.toList n=z.cps.toList:=by
         unfold repL;rw[lC]at h2;rcases h2 with h2 |h2
         ·have:n=1:=by simpa using h2
          subst this;simp
         ·have:z.cps.toList=[]:=lp.mp (by rw[<- hz];simpa using h2)
          rw[this];simp
        rw[e]at q;refine⟨tx z.cps.toList,H,I,⟨t,?_⟩,q⟩;grind
       ·rw[if_neg h2]
        refine⟨?_,tx (repL z.cps.toList n),H,I.tok _,⟨s.toks,?_⟩,q⟩
        ·have e:(⟨oM (λx1 x2=>x1++x2) #[] (i8 n.toNat z.cps)⟩:Str).length=(i8 n.toNat z.cps.toList).flatten.length:=by
          rw[<- zgR_];simp[k9]
         rw[e,zg6_];exact zW_ (by rw[qE];exact c4)
        show m4 _ _=m4 _ _
        congr 1;unfold repL;rw[<- zgR_])
section
variable {α:Type}{H:Hp}{T:Ty α}
theorem zi5_ {xs:List α}{vs:List V}(hr:Prs T H xs vs)(n:Int):Prs T H (repL xs n) (repL vs n):=by
 unfold repL;induction n.toNat with
 |zero=>exact .nil|succ m ih=>rw[ka,ka,lI,lI];exact hr.append ih
noncomputable def strsL (l:List (List Nat)):List Str:=l.map λz=>⟨z.toArray⟩
end
section
variable {κ:Type}
variable [DecidableEq κ]
end
section
variable {κ:Type}[DecidableEq κ]
end
section
end
end L2
namespace Att
open PySem PySem.W PySem.Calls PyProof.Rows
theorem zix_ {ns:List Int}(h:WData.layableAll [WData.list (ns.map WData.int)]=rR):∀x∈ns,kb x<=1048576:=by
 intro x hx;have h1:=layableW_arg h _ (jS.mpr rfl);have h2:=layableW_item h1 (.int x) (j4.mpr ⟨x,hx,rfl⟩);exact PyData.bits_of_layable (layable_int h2)
theorem attach_callB {l:OpenLaw}{n:Nat}{q:jL}{loose:List Str}{XP:(Str->Option iX)->Heap->Prop}{YP:jU->Heap->Prop}{d:DefRec}
  (hn:l.most=rP n) (dF:d.params.defaults=[])
  (call:∀(w:jU) (s₀ ae:iY) (mg mb:Str->Option iX) (fa:i9) (o:qb) (pm cd doc:iX) (a:i9) (vs:List iX) (ns:List Int),
   (∀x∈ns,kb x<=1048576) ->
   Ground q loose [] XP w s₀ mg mb ae.heap->YP w ae.heap ->
   ae.heap.get? fa=rP o->o.data=.func (docDef d.name d.params d.body d.scope pm cd doc)->ae.heap.CodeRec cd d.name->mg d.name=rP (.ref fa) ->
   ae.heap.get? a=rP {cls:=.type "list",data:=.seq vs.toArray}->IntsAre vs ns->ns.length<=n->ae.gens=#[] ->
   codeAny (model l.prog w) callerA (.call (.ref fa) ⟨[.ref a],[]⟩) (λr s'=>r=.ok (.ret (.bool rR))/\OldK ae.heap s'.heap/\s'.os=ae.os/\AllBare s'.gens) ae):
  WalkO q loose XP YP l.row.toRowW d [] (λf vs=>ql f vs):=by
 intro w s₀ ae mg mb G Y fa o pm cd doc dV kV ho hd bc hD dq hg args vals as bM fD iS e_ fA;obtain rfl:dV=.none:=Dflts.none hD dF;obtain rfl:kV=.none:=Dflts.noKw hD;obtain⟨a,vs,ns,rfl,rfl,cf,hints,hlen⟩:=zge_ hn bM e_;refine enter_call (codeAny_mono (call w s₀ ae mg mb fa o pm cd doc a vs ns (zix_ fD) G Y ho (fd_plain hd) bc dq cf hints hlen hg) λr s' hq=>?_)
 obtain⟨rfl,h2,h3,h4⟩:=hq;exact⟨.inl ⟨.bool rR,.bool rR,[],rfl,λ_=>rfl,.bool rR,zf4_ l _,λ_=>⟨rN,λ_ hm=>(nomatch hm)⟩⟩,h2,h3,h4⟩
end Att
namespace L2
open PySem PySem.Spec PyProof.Rows
theorem ziT_ {l:qv}{n k:Nat}{q:jL}{loose:List Str}{XP:(Str->Option iX)->Heap->Prop}{YP:jU->Heap->Prop}{d:DefRec}{K:Params->Fgg}{CX:jU->CXT}{sp:jU->Sp}{x:Str}
  (hn:l.most=rP n) (cG:n<=jj) (dF:d.params.defaults=[]) (hr:Room k callerA) (hx:[x]=lawPs) (cj:∀p,lamOk q (K p)=rR)
  (hY:∀(w:jU) (h:Heap),YP w h->(K w.params).In h)
  (F:∀(w:jU) (mg:Str->Option iX) (fa:i9) (h:Heap),(K w.params).In h->h.Ns jJ mg->mg d.name=rP (.ref fa) ->
   ∃fd:kZ,(∀(s:iY) (u:iX),BindsTo s fd ⟨[u],[]⟩ [(x,u)]) /\
    ∀base:Heap,(K w.params).In base->base.Ns jJ mg->FnOk l.prog w (K w.params) mg base (CX w) k fa fd [x] (sp w))
  (bx:∀(w:jU) (H:Hp) (a:i9) (ns:List Int),ns.length<=n->(∀x∈ns,kb x<=1048576)->Only H->SqL (K w.params) H a (ns.map V.int)->sp w [.ref a] H (λv _=>v=.bl rR) λ_ _ _=>False)
  (fP:∀(w:jU) (H:Hp) (s:iY) (e:iX) (s':iY),CX w [] H s (λ_ _ _=>False) e s'->False):
  W.WalkO q loose XP YP l.row.toRowW d [] (λf vs=>ql f vs):=by
 refine Att.attach_callB hn dF λw s₀ ae mg mb fa o pm cd doc a vs ns dH G Y ho hd bc dq cf hints hlen hg=>?_
 have KX:=hY w _ Y;obtain⟨fd,hb,hF⟩:=F w mg fa _ KX G.T.g dq;exact zhC_ KX G.T.g G.T.b G.T.builtins G.T.nolimit G.T.bmain hg cf hints (ki hlen cG) hr hx hF hb (λH hO hS=>bx w H a ns hlen dH hO hS) (λH e s'=>fP w H ae e s') (zi6_ G.T KX (cj _))
abbrev BitsOk (ns:List Int):Prop:=∀x∈ns,kb x<=1048576
open PySem PySem.Spec PyProof.Rows PySem.W
section
end
end L2
universe u
namespace L2
open PySem PySem.Spec PyProof.Rows
section
end
open PySem PySem.Spec PyProof.Rows PySem.W
section
theorem is_kV {P:jL}{w:jU}{k:Key}{u:iX}(h:(mixKind P w).is k u=rR):RelV (kV k) u:=by
 rw[zdT_]at h;rcases zu_ h with⟨i,t,rfl,rfl⟩|⟨x,t,rfl,rfl⟩<;>exact⟨_,rfl⟩
end
section
variable {α:Type}
def OwAll (O:Own α)(F:Hp):List α->List V->Hp->Prop
 |[],[],h=>∀p,h p=rQ|x::xs,v::vs,h=>∃h1 h2,Jn h1 h2 h/\O.O x v F h1/\OwAll O F xs vs h2|_,_,_=>False
variable {O:Own α}
theorem OwAll.mono:∀{xs:List α}{vs:List V}{F F' h:Hp},Same F F'->OwAll O F xs vs h->OwAll O F' xs vs h
 |[],[],_,_,_,_,q=>q|x::xs,v::vs,F,F',h,g,q_=>by obtain⟨h1,h2,j,o,r⟩:=q_;exact⟨h1,h2,j,O.mono g o,r.mono g⟩
 |[],_::_,_,_,_,_,q=>q.elim|_::_,[],_,_,_,_,q=>q.elim
theorem OwAll.notup:∀{xs:List α}{vs:List V}{F h:Hp},OwAll O F xs vs h->∀p ys,h p≠rP (.tup ys)
 |[],[],_,_,q,p,ys=>by rw[q p];exact λz=>by cases z
 |x::xs,v::vs,F,h,q_,p,ys=>by
  obtain⟨h1,h2,j,o,r⟩:=q_;rcases j p with⟨_,b⟩|⟨_,b⟩
  ·rw[b];exact r.notup p ys
  ·rw[b];exact O.notup o p ys
 |[],_::_,_,_,q,_,_=>q.elim|_::_,[],_,_,q,_,_=>q.elim
theorem OwAll.len:∀{xs:List α}{vs:List V}{F h:Hp},OwAll O F xs vs h->xs.length=vs.length
 |[],[],_,_,_=>rfl|x::xs,v::vs,F,h,q_=>by obtain⟨h1,h2,j,o,r⟩:=q_;rw[jg,jg,r.len]
 |[],_::_,_,_,q=>q.elim|_::_,[],_,_,q=>q.elim
theorem zer_ {F h1 h:Hp}(d:Dj F h)(s:Same h1 h):Same (un F h1) (un F h):=λp o e=>by
 unfold un at e ⊢;cases z:F p with
 |some w=>rw[z]at e;exact e|none=>rw[z]at e;exact s _ _ e
theorem OwAll.prs:∀{xs:List α}{vs:List V}{F h G:Hp},Dj F h->Same (un F h) G->OwAll O F xs vs h->Prs O.fr G xs vs
 |[],[],_,_,_,_,_,_=>.nil|x::xs,v::vs,F,h,G,d,g,q_=>by
  obtain⟨h1,h2,j,o,r⟩:=q_;have d1:Dj F h1:=λp=>by
   rcases d p with z |z
   ·exact .inl z
   ·exact .inr (j.l.free z)
  have d2:Dj F h2:=λp=>by
   rcases d p with z |z
   ·exact .inl z
   ·exact .inr (j.r.free z)
  exact .cons (O.fr.mono ((zer_ d j.l).trans g) (O.frz d1 o)) (r.prs d2 ((zer_ d j.r).trans g))
 |[],_::_,_,_,_,_,_,q=>q.elim|_::_,[],_,_,_,_,_,q=>q.elim
theorem zai_ {h1 h2 h:Hp}(j:Jn h1 h2 h):Jn h2 h1 h:=λp=>by
 rcases j p with⟨a,b⟩|⟨a,b⟩
 ·exact .inr ⟨a,b⟩
 ·exact .inl ⟨a,b⟩
theorem zp_ {h1 h2 gy h3 h:Hp}(j:Jn h1 h2 gy)(k:Jn gy h3 h):∃gw,Jn h2 h3 gw/\Jn h1 gw h:=by
 have d:Dj h2 h3:=λp=>by
  rcases k.dj p with z |z
  ·exact .inl (j.r.free z)
  ·exact .inr z
 refine⟨un h2 h3,zad_ d,λp=>?_⟩
 unfold un;rcases k p with⟨a,b⟩|⟨a,b⟩
 ·refine .inl ⟨j.l.free a,?_⟩
  rw[j.r.free a];exact b
 ·rcases j p with⟨c,e⟩|⟨c,e⟩
  ·grind
  ·refine .inr ⟨?_,by rw[b,e]⟩
   rw[c];exact a
theorem OwAll.snoc:∀{xs:List α}{vs:List V}{F h:Hp}{x:α}{v:V}{hn:Hp},OwAll O F xs vs h->O.O x v F hn->Dj h hn->OwAll O F (xs++[x]) (vs++[v]) (un h hn)
 |[],[],F,h,x,v,hn,q,o,d=>by
  refine⟨hn,λ_=>rQ,λp=>.inr ⟨rfl,?_⟩,o,λ_=>rfl⟩
  unfold un;rw[q p]
 |y::xs,w::vs,F,h,x,v,hn,q_,o,d=>by
  obtain⟨h1,h2,j,o1,r⟩:=q_;obtain⟨m,jm,jh⟩:=zp_ j (zad_ d);have d2:Dj h2 hn:=jm.dj;have e:m=un h2 hn:=by
   funext p;unfold un;rcases jm p with⟨a,b⟩|⟨a,b⟩
   ·rw[a];exact b
   ·grind
  rw[e]at jh;exact⟨h1,_,jh,o1,r.snoc o d2⟩
 |[],_::_,_,_,_,_,_,q,_,_=>q.elim|_::_,[],_,_,_,_,_,q,_,_=>q.elim
abbrev owLO (O:Own α):Own (List α):=⟨λxs v F h=>∃p vs h2,v=.ref p/\Jn (one p (.lst vs)) h2 h/\OwAll O F xs vs h2,tyL O.fr,λg ⟨p,vs,h2,e,j,q⟩=>⟨p,vs,h2,e,j,q.mono g⟩,
 λ{a v F h} d ⟨p,vs,h2,e,j,q⟩=>⟨p,vs,e,zcu_ d _ _ (j.l _ _ zD_),q.prs (λb=>by
  rcases d b with z |z
  ·exact .inl z
  ·exact .inr (j.r.free z)) (zer_ d j.r)⟩,
 λ⟨p,vs,h2,e,j,q⟩ b xs y=>by
  rcases j b with⟨_,z⟩|⟨_,z⟩
  ·rw[z]at y;exact q.notup b xs y
  ·rw[z]at y;unfold one at y;split at y<;>cases y⟩
end
section
end
def mFld (C:i9)(te:TE)(f:Str):TE:=λσ H Q=>te σ H λx H1=>match x with
 |.ref a=>∃dx fs v,H1 a=rP (.ins C dx fs)/\fs.lookup f=rP v/\Q v H1|_=>False
def mSFld (C:i9)(te tv:TE)(f:Str):TS:=λD σ H=>tv σ H λy H1=>te σ H1 λx H2=>match x with
 |.ref a=>∃dx fs,H2 a=rP (.ins C dx fs)/\fs.length<1000/\D.nx σ (upd H2 a (.ins C dx (putF f y fs)))|_=>False
def Gm (P:jL)(w:jU)(K:Fgg)(mg:Str->Option iX)(base:Heap)(CX:CXT)(k:Nat)(C:i9)(m:Str)(ps:List Str)(sp:Sp):Prop:=
 ∃f fd,FnOk P w K mg base CX k f fd ps sp/\Cls K C/\Meth K C m f/\Binds K fd ps []
def Gk (P:jL)(w:jU)(K:Fgg)(mg:Str->Option iX)(base:Heap)(CX:CXT)(k:Nat)(x:Str)(C:i9)(ps:List Str)(sp:Sp):Prop:=
 ∃f fd,FnOk P w K mg base CX k f fd ps sp/\Mk K C f/\mg x=rP (.ref C)/\Binds K fd ps []
section
variable {X:Cx}{e value o:jw}{f x:Str}{pos pos':Pos}{ta tv:TE}{C:i9}
theorem zkF_ (c:Cls X.K C)(n:NoAttr X.K C f)(he:PE X e ta)(hb:attributeBase e f X.env (eval e X.env)=eval e X.env:=by rfl):PE X (.Attribute e f pos) (mFld C ta f):=by
 intro pins s σ H Q I h;refine zjR_ hb (thn (he pins s σ H _ I h) λu s1 ah=>?_)
 obtain⟨x,H1,I1,rx,q1⟩:=ah;cases x with
 |ref a=>
  obtain⟨dx,fs,v,ea,l,q⟩:=q1;obtain rfl:u=jQ a:=rx;exact zet_ I1 ea c n l λu' s2 I2 ru=>⟨v,H1,I2,ru,q⟩
 |_=>exact q1.elim
theorem zlo_ (c:Cls X.K C)(n:NoAttr X.K C f)(ha:PE X o ta)(hv:PE X value tv)(hs:swapsWith value (rP (.Attribute o f pos')) pos.line X.env=pure rS:=by rfl):PS X (.Assign [.Attribute o f pos'] value pos) (mSFld C ta tv f):=by
 intro pins s σ H D I h;refine plainObj_wpAny_Assign_Attribute (thn (hv pins s σ H _ I h) λu s1 ⟨y,H1,I1,ry,q⟩=>thn (ha pins s1 σ H1 _ I1 q) λov s2 ah=>?_) hs
 obtain⟨x,H2,I2,rx,q2⟩:=ah;cases x with
 |ref a=>
  obtain⟨dx,fs,ea,l,q3⟩:=q2;obtain rfl:ov=jQ a:=rx;exact zeL_ I2 ea c n l ry λs3 I3=>⟨σ,_,I3,q3⟩
 |_=>exact q2.elim
end
theorem za0_:∀{ns:List Str}{vs:List V}{f:Str},f∉ns->(ns.zip vs).lookup f=rQ
 |[],_,_,_=>rfl|n::ns,[],_,_=>rfl|n::ns,w::vs,f,h=>by
  have df:(f == n)=rS:=beq_eq_false_iff_ne.mpr λz=>h (z ▸ je ..)
  rw[jR,oy,df];exact za0_ λz=>h (ji _ z)
theorem zd9_:∀{ns:List Str}{vs:List V}{f:Str}(v:V),f∉ns->vs.length=ns.length->putF f v (ns.zip vs)=(ns++[f]).zip (vs++[v])
 |[],[],f,v,_,_=>rfl|[],_::_,_,_,_,h=>by simp at h
 |_::_,[],_,_,_,h=>by simp at h
 |n::ns,w::vs,f,v,h,hl=>by
  have df:¬n=f:=λz=>h (z ▸ je ..)
  rw[jR,putF,if_neg df,zd9_ v (λz=>h (ji _ z)) (by simpa using hl)];rfl
section
variable {α:Type}
theorem dj_l {F h1 h2 h:Hp}(d:Dj F h)(j:Jn h1 h2 h):Dj F h1:=λp=>by
 rcases d p with z |z
 ·exact .inl z
 ·exact .inr (j.l.free z)
theorem dj_r {F h1 h2 h:Hp}(d:Dj F h)(j:Jn h1 h2 h):Dj F h2:=λp=>by
 rcases d p with z |z
 ·exact .inl z
 ·exact .inr (j.r.free z)
def two (p dx:i9)(o:HO):Hp:=λq=>if q=p then rP o else if q=dx then rP (.own p)else rQ
theorem zjJ_ {p dx:i9}{o:HO}:two p dx o p=rP o:=if_pos rfl
noncomputable abbrev owAt (u:V)(O:Own α):Own α:=⟨λa v F h=>v=u/\O.O a v F h,O.fr,λg q=>⟨q.1,O.mono g q.2⟩,λd q=>O.frz d q.2,λq=>O.notup q.2⟩
theorem jn_re {b t m a h:Hp}(jm:Jn b t m)(j:Jn a m h):Jn t (un a b) h:=λq=>by
 rcases j q with⟨x,y⟩|⟨x,y⟩
 ·rcases jm q with⟨c,e⟩|⟨c,e⟩
  ·right
   refine⟨by unfold un;rw[x,c],by rw[y,e]⟩
  ·left
   refine⟨c,by unfold un;rw[x,y,e]⟩
 ·left
  refine⟨jm.r.free x,?_⟩;unfold un;rw[y];cases z:a q with
  |none=>exact(jm.l.free x).symm ▸ rfl|some w=>rfl
theorem dj_of {a b t m h:Hp}(jm:Jn b t m)(j:Jn a m h):Dj a b:=λq=>by
 rcases j.dj q with z |z
 ·exact .inl z
 ·exact .inr (jm.l.free z)
variable {F0 H0 F h H:Hp}
theorem zbr_ {k:Hp}(ok:Okk F0 H0 F h H)(s:Same k h):Okk F0 H0 F k H:=by
 refine⟨ok.1,λp=>?_,s.trans ok.2.2.1,λp z=>ok.2.2.2.1 p λy=>z (s.free y),λp xs z=>ok.2.2.2.2 p xs (s _ _ z)⟩
 rcases ok.2.1 p with z |z
 ·exact .inl z
 ·exact .inr (s.free z)
theorem zf6_ {h:Hp}(p:i9)(z:h p≠rQ):less H h p=rQ:=by
 unfold less;cases y:h p with
 |none=>exact absurd y z|some w=>rfl
theorem zjU_:Same (less H h) H:=λp o z=>by
 unfold less at z;split at z
 ·exact z
 ·cases z
theorem zaX_ (hs:Same F H)(dj:Dj F h)(hh:Same h H)(nt:∀p xs,h p≠rP (.tup xs)):Okk F (less H h) F h H:=by
 refine⟨⟨Same.refl _,hs,zjU_,λp a b=>absurd a b⟩,dj,hh,λp z=>zf6_ p z,nt⟩
end
noncomputable def splitG (sep l:List Nat):List (List Nat):=(Txt.split ⟨l.toArray⟩ ⟨sep.toArray⟩).map λp=>p.cps.toList
section
variable {X:Cx}
def mSplitG:V->List V->Hp->VK->Prop:=λx xs H Q=>match x,xs with
 |.str l,[.str y]=>l.cps.toList.length<=100000/\y.cps.toList≠[]/\∀p,H p=rQ->Q (.ref p) (upd H p (.lst ((splitG y.cps.toList l.cps.toList).map tx)))|_,_=>False
theorem zfN_:MtR X "str.split" mSplitG:=by
 intro pins s σ H x xs v us Q I rx rv h;unfold mSplitG at h;split at h
 ·rename_i l y
  obtain⟨k,rfl⟩:=rx;obtain⟨u,rfl,ru⟩:=rv.one;obtain⟨k',rfl⟩:=ru;obtain⟨hl,hy,q⟩:=h;have gX:l.length=l.cps.toList.length:=by simp[k9]
  have e9:(y.length == 0)=rS:=by
   have:y.length≠0:=λe=>hy (by
    have e2:y.cps.toList.length=0:=by simpa [k9]using e
    exact lp.mp e2)
   simpa using this
  have iR:=split_le l y;refine zz_ ?_;refine LX.split_push e9 (λlz k2 e=>?_) (by rw[gX];exact zW_ hl) (by
   rw[len_partsBetween];have:=StrLaws.occ_length_le l y 0 l.length (l.length+1);rw[sizeLine_eq];lia)
  intro b7;have e1:splitG y.cps.toList l.cps.toList=(Txt.split l y).map λp=>p.cps.toList:=by
   unfold splitG;rw[<- z0_ l,<- z0_ y]
  have e2:(splitG y.cps.toList l.cps.toList).map tx=lz.map λp=>tx p.1.cps.toList:=by
   rw[e1,<- e,km,km];rfl
  have e3:(splitG y.cps.toList l.cps.toList).length<=100002:=by
   rw[e1,i7];lia
  refine⟨.ref s.heap.objs.size,_,I.laid (o:=.lst ((splitG y.cps.toList l.cps.toList).map tx)) (t':=k2) (λb ob q=>jo _ q) (jt _) ?_,rfl,q _ (I.hok.fresh (jt _))⟩
  refine⟨by rw[i7,sizeLine_eq];lia,strValues lz,0,?_,jO _ rfl⟩
  rw[e2];exact zcf_ lz
 ·exact h.elim
def mTrL (K:Fgg)(t:TE):TT:=λσ H Q=>t σ H λx H'=>match x with
 |.bl k=>Q k H'|.ref a=>∃xs,SqL K H' a xs/\Q (!xs.isEmpty) H'|_=>False
theorem znD_ {e:jw}{t:TE}(h:PE X e t)(he:∀whole,isTrue e X.env whole=(do let v <- whole;standAt e.pos;holding [v] (truthy v)):=by intro _;rfl):PT X e (mTrL X.K t):=by
 intro pins s σ H Q I hw;refine isTrue_plain (thn (h pins s σ H _ I hw) λv s1 ah=>?_) (he _)
 obtain⟨x,H1,I1,r1,q1⟩:=ah;cases x with
 |bl c=>cases r1;exact kz ⟨H1,I1,q1⟩|ref a=>
  cases r1;obtain⟨xs,hq,q⟩:=q1;obtain⟨aa,rv,p,hz⟩:=I1.list hq;have hl:=rv.length;refine wpAny_truthy_list p.isList (by rw[jq,<- hl];rw[sizeLine_eq]at hz;lia) ?_
  have e:aa.isEmpty=xs.isEmpty:=by cases rv<;>rfl
  refine⟨H1,I1.tok _,?_⟩
  simpa [e]using q
 |_=>exact q1.elim
variable {prog:jL}{w:jU}{A:jW}{E:iX->iY->Prop}{s:iY}
theorem parts2 {l:i9}{x y:iX}{Q:List iX->iY->Prop}(hA:A.handled=rQ)(hl:s.heap.IsList l #[x,y])(q:∀h1,Heap.ExtBut s.heap.objs.size s.heap h1->Q [x,y] {s with heap:=h1}):
  jD (model prog w) A (unpackItems (.ref l) 2 rQ) Q E s:=by
 have ne:l≠s.heap.objs.size:=by obtain⟨o,ho,_⟩:=hl;exact jT (jF ho)
 unfold unpackItems notIterableAtAll;refine iZ (iZ (wpAny_specialOf hl.typeIs slot_list_iter.lookup (jy ?_)));rw[if_neg (by decide)]
 refine iZ (wpAny_holding (wpAny_pyIter_list hl ?_));have i0:qa (s.heap.push {cls:=.type "list_iterator",data:=.fields #[.ref l,.int 0 0]}) s.heap.objs.size l 0:=⟨_,jO _ rfl,rfl,rfl⟩;refine iZ (wpAny_holding ?_);show jD _ _ (pyNext _>>=_) _ _ _;refine iZ (wpAny_pyNext_list_item i0 (hl.push _) rfl λh1 i1 e1=>?_)
 have l1:h1.IsList l #[x,y]:=(hl.push _).extBut e1.extBut ne;refine iZ (wpAny_holding ?_);show jD _ _ (pyNext _>>=_) _ _ _;refine iZ (wpAny_pyNext_list_item (s:={s with heap:=h1}) i1 l1 rfl λh2 i2 e2=>?_)
 have l2:h2.IsList l #[x,y]:=l1.extBut e2.extBut ne;refine iZ (wpAny_holding (jy (jy (jy ?_))));rw[if_neg (by simp)]
 refine iZ (wpAny_holding (wpAny_pyNext_list_end (s:={s with heap:=h2}) hA i2 l2 rfl λh3 e3=>?_))
 exact jy (q h3 λb o hb e=>e3 b o hb (e2.extBut b o hb (e1.extBut b o hb (jo _ e))))
end
section
variable {X:Cx}
def gLst2 (K:Fgg)(t:TGs):TG:=λv σ H Q=>match v with |.ref a=>∃x y,SqL K H a [x,y]/\t [x,y] σ H Q |_=>False
theorem zkV_ {es:List jw}{k:Nat}{t:TGs}{pos:Pos}(hc:X.calm=rR)(h:PGs X es t)
  (hn:(kP es X.env).length=2:=by rfl) (aD:(kP es X.env).findIdx? (·.1)=rQ:=by rfl):PG X (.Tuple es k pos) (gLst2 X.K t):=by
 intro pins s σ H v u Q I r hw;cases v with
 |ref a=>
  obtain⟨x,y,hq,hw⟩:=hw;cases r;obtain⟨aa,rv,hp,_⟩:=I.list hq;obtain⟨x',y',rfl⟩:∃x' y',aa=[x',y']:=by
   have:=rv.length
   match aa,this with
   |[x',y'],_=>exact⟨x',y',rfl⟩
  rw[nO];refine iZ (wpAny_standAt ?_);unfold unpack;rw[hn,aD];refine iZ (wpAny_holding (parts2 (I.ok.hd hc) hp.isList λh1 hx=>?_))
  have I1:Inv X pins σ H {s with heap:=h1}:=I.kept (t':=s.toks) λb o e=>hx b o (jT (jF e)) e
  exact h pins _ σ H _ _ Q I1 rv hw
 |_=>exact hw.elim
end
section
variable {K:Fgg}{E:XK}{α β:Type}{F0 H0 F h:Hp}{L:List Sl}{e te:TE}{T:Ty α}{r:Mo α}{t:TS}{σ:St}{f m:Str}{i n w j:Nat}
theorem zhn_ {lv:List Str}{fr:List (Str×Nat)}{wi:TI}{g:TG}{tt:TT}{te:TE}{r:Mo (List α)}{ss:α->List (Nat×Sl)}{c:α->Mo Bool}{f:α->Mo β}{O':Own β}
  (hi:EvI K wi E L r T) (hg:TgR K g T ss) (hd:∀a,DeadAt (cL lv fr L) ((ss a).map (·.1))) (ht:∀a,EvT K tt E0 (setL (cL lv fr L) (ss a)) (c a)) (he:∀a,EvO K te E0 (setL (cL lv fr L) (ss a)) (f a) O'):
  EvO K (tComp lv fr wi g tt te) E L (r.bind λxs=>compM (λx=>cond1 (c x) (f x)) xs []) (owLO O'):=by
 intro σ F0 H0 Q hL hs q;refine hi σ F0 H0 _ hL hs (q.bind.imp λxs F1 H1 x1 k1 J Y D hD=>?_)
 have ao:=hL.mono x1.1
 refine⟨λi m ys af H'=>m=xs.length-i/\i<=xs.length/\∃acc Fi hh,Ext F1 H1 Fi H'/\Fi D=rQ/\hh D=rQ/\H' D=rP (.lst ys)/\OwAll O' Fi acc ys hh/\Dj Fi hh/\Same hh H'/\(∀p,hh p≠rQ->H1 p=rQ)/\HoldF (cL lv fr L) af F1/\af.length=(cL lv fr L).length/\After K (compM (λx=>cond1 (c x) (f x)) (xs.drop i) acc) E F1 H1 (OwnK (owLO O') H0 Q),
  ⟨_,rfl,lZ _,[],F1,λ_=>rQ,.heap x1.2.1 (zF_ hD _),x1.2.1.free hD,rfl,zj_,λ_=>rfl,λ_=>.inr rfl,(λp o z=>by cases z),λp z=>absurd rfl z,zew_ ao,zhT_.symm,k1⟩,?_⟩
 rintro i m ys af H' ⟨rfl,hi,acc,Fi,hh,xi,hDi,hDh,hy,hp,dj,sh,fresh,hσ,cH,A⟩;by_cases aN:i<xs.length
 ·right
  have ex:xs[i]?=rP xs[i]:=jf aN;obtain⟨g1,g2⟩:=Y.go i H' xs[i] (xi.1.trans xi.2.1) ex;refine⟨g1,λcB b8 eJ=>i+1<=xs.length/\∃acc Fi hh,Ext F1 H1 Fi eJ/\Fi D=rQ/\hh D=rQ/\eJ D=rP (.lst cB)/\OwAll O' Fi acc cB hh/\Dj Fi hh/\Same hh eJ/\(∀p,hh p≠rQ->H1 p=rQ)/\HoldF (cL lv fr L) b8 F1/\b8.length=(cL lv fr L).length/\After K (compM (λx=>cond1 (c x) (f x)) (xs.drop (i+1)) acc) E F1 H1 (OwnK (owLO O') H0 Q),λcB b8 eJ z=>⟨xs.length-(i+1),by omega,rfl,z⟩,λv H2 e9=>?_⟩
  obtain⟨F2,x2,hv⟩:=g2 v H2 e9 Fi xi.1 xi.2.1;have keep:∀{Fa Ha Fb Hb:Hp},Ext Fa Ha Fb Hb->Fa D=rQ->Ha D=rP (.lst ys)->Dj Fa hh->Same hh Ha->(Fb D=rQ/\Hb D=rP (.lst ys))/\Dj Fb hh/\Same hh Hb:=by
   intro Fa Ha Fb Hb x h1 h2 h3 h4;refine⟨⟨?_,x.2.2.1 _ _ h2⟩,λp=>?_,h4.trans x.2.2.1⟩
   ·cases z:Fb D with
    |none=>rfl|some o=>have:=x.2.2.2 D h1 (by rw[z];exact sN _);rw[h2]at this;cases this
   ·cases y:hh p with
    |none=>exact .inr rfl|some w=>
     left;rcases h3 p with z |z
     ·cases zz:Fb p with
      |none=>rfl|some o=>have:=x.2.2.2 p z (by rw[zz];exact sN _);rw[h4 _ _ y]at this;cases this
     ·rw[z]at y;cases y
  obtain⟨⟨ir,hy2⟩,fU,sh2⟩:=keep x2 hDi hy dj sh;refine hg xs[i] v af F2 H2 _ x2.2.1 hv λvs aw=>?_
  have e7:HoldF (cL lv fr L) af F2:=hσ.mono (xi.1.trans x2.1);obtain⟨a1,a2,a3⟩:=zdv_ aw cH.symm e7;have cZ:HoldF (cL lv fr L) (setS af vs) F1:=by
   have dG:=hd xs[i];refine λj s e=>?_
   by_cases hj:∃q∈(ss xs[i]).map (·.1),q=j
   ·obtain⟨q,hq,rfl⟩:=hj
    rw[dG q hq s e];trivial
   ·have:((setS af vs)[j]?)=af[j]?:=zhh_ aw (λhq=>hj ⟨j,hq,rfl⟩)
    rw[this];exact hσ j s e
  have dE:xs.drop i=xs[i]::xs.drop (i+1):=nP aN;rw[dE]at A;unfold compM at A;cases ec:c xs[i]with
  |no=>unfold cond1 at A;rw[ec]at A;exact A.elim|ex cc=>unfold cond1 at A;rw[ec]at A;exact A.elim|ok bb=>
   refine ht xs[i] _ F2 H2 _ a1 x2.2.1 ?_;rw[ec];intro F3 H3 x3;obtain⟨⟨gq,hy3⟩,dj3,sh3⟩:=keep x3 ir hy2 fU sh2;have eL:=(xi.trans x2).trans x3;cases bb with
   |false=>
    rw[if_neg (by decide)]
    refine⟨aN,acc,F3,hh,eL,gq,hDh,hy3,hp.mono (x2.1.trans x3.1),dj3,sh3,fresh,cZ,by rw[a2];exact cH,?_⟩
    unfold cond1 at A;rw[ec]at A;exact A
   |true=>
    rw[if_pos rfl];cases ef:f xs[i]with
    |no=>unfold cond1 at A;rw[ec,ef]at A;exact A.elim|ex cc=>unfold cond1 at A;rw[ec,ef]at A;exact A.elim|ok y=>
     unfold cond1 at A;rw[ec,ef]at A;have A':After K (Mo.lim (acc.length+1) (compM (λx=>cond1 (c x) (f x)) (xs.drop (i+1)) (acc++[y]))) E F1 H1 (OwnK (owLO O') H0 Q):=A
     obtain⟨hz,A'⟩:=A'.lim;refine he xs[i] _ F3 H3 _ (a1.mono x3.1) x3.2.1 ?_;rw[ef];intro F4 H4 x4 v4 hn gE fT gK fg;obtain⟨⟨gp,hy4⟩,iM,sh4⟩:=keep x4 gq hy3 dj3 sh3;have hlen:=hp.len;have gg:hn D=rQ:=by
      grind
     have iK:Dj hh hn:=λp=>by
      cases z:hn p with
      |none=>exact .inr rfl|some w=>exact .inl (sh3.free (gE p (by rw[z];exact sN _)))
     have dW:=eL.trans x4;refine⟨hy4,by omega,aN,acc++[y],F4,un hh hn,?_,gp,by unfold un;rw[hDh];exact gg,zj_,(hp.mono ((x2.1.trans x3.1).trans x4.1)).snoc fg iK,λp=>?_,λp o z=>?_,λp z=>?_,cZ,by rw[a2];exact cH,A'⟩
     ·refine⟨dW.1,λb o z=>?_,λb o z=>?_,dW.2.2.2⟩
      ·unfold upd;split
       ·rename_i w;rw[w,gp]at z;cases z
       ·exact dW.2.1 _ _ z
      ·unfold upd;split
       ·rename_i w;rw[w,hD]at z;cases z
       ·exact dW.2.2.1 _ _ z
     ·unfold un
      cases z:hh p with
      |some w=>
       rcases iM p with y |y
       ·exact .inl y
       ·rw[y]at z;cases z
      |none=>exact fT p
     ·have gU:p≠D:=λw=>by
       unfold un at z;rw[w,hDh,gg]at z;cases z
      unfold upd;rw[if_neg gU];unfold un at z;cases w:hh p with
      |some o'=>rw[w]at z;cases z;exact sh4 _ _ w|none=>rw[w]at z;exact gK _ _ z
     ·unfold un at z
      cases w:hh p with
      |some o'=>exact fresh p (by rw[w];exact sN _)|none=>rw[w]at z;exact eL.2.2.1.free (gE p z)
 ·left
  have e:i=xs.length:=by omega
  subst e;refine⟨Y.stop H' (xi.1.trans xi.2.1),?_⟩;rw[ox]at A;have A':OwnK (owLO O') H0 Q acc Fi H':=A Fi H' xi;have dD:Dj (one D (.lst ys)) hh:=λp=>by
   unfold one;split
   ·rename_i w;rw[w];exact .inr hDh
   ·exact .inl rfl
  refine A' (.ref D) (un (one D (.lst ys)) hh) (λp z=>?_) (λp=>?_) (λp o z=>?_) ⟨D,ys,hh,rfl,zad_ dD,hp⟩
  ·unfold un one at z
   by_cases w:p=D
   ·rw[w];exact x1.2.2.1.free hD
   ·simp only[if_neg w]at z;exact x1.2.2.1.free (fresh p z)
  ·by_cases w:p=D
   ·rw[w];exact .inl hDi
   ·unfold un one;simp only[if_neg w];exact dj p
  ·unfold un one at z
   by_cases w:p=D
   ·simp only[if_pos w]at z;rw[w];cases z;exact hy
   ·simp only[if_neg w]at z;exact sh _ _ z
theorem jn_no {h1 h2 h:Hp}(j:Jn h1 h2 h)(n:∀p,h2 p=rQ):h=h1:=funext λp=>by
 rcases j p with⟨a,b⟩|⟨_,b⟩
 ·rw[b,n,a]
 ·exact b
section
open PySem PySem.Spec PyProof.Rows PySem.W
end
theorem zJ_ {α:Type}{us:List α}{n:Nat}(h:us.length=n+1):∃a t,us=a::t/\t.length=n:=by
 cases us with
 |nil=>cases h|cons a t=>exact⟨a,t,rfl,nE h⟩
theorem Fun.binds1 {x qual:Str}{st:kq}{f:i9}{fd:kZ}{ps:List Str}(hp:ps.length=1)(F:Fun K x qual st f fd)(h:∀(kV doc pm:iX) (an:Option i9) (ai ct:iX) (ua:iX),bindArgs (W.fnOf x qual (defArgs st) (defBody st) (defScope st) .none kV doc pm an ai ct) ⟨[ua],[]⟩=pure (ps.zip [ua])):Binds K fd ps []:=by
 refine F.binds λkV doc pm an ai ct us hl=>?_
 have h0:=hl.trans hp;obtain⟨ua,t1,rfl,h1⟩:=zJ_ h0;grind
theorem Fun.binds2 {x qual:Str}{st:kq}{f:i9}{fd:kZ}{ps:List Str}(hp:ps.length=2)(F:Fun K x qual st f fd)(h:∀(kV doc pm:iX) (an:Option i9) (ai ct:iX) (ua ub:iX),bindArgs (W.fnOf x qual (defArgs st) (defBody st) (defScope st) .none kV doc pm an ai ct) ⟨[ua,ub],[]⟩=pure (ps.zip [ua,ub])):Binds K fd ps []:=by
 refine F.binds λkV doc pm an ai ct us hl=>?_
 have h0:=hl.trans hp;obtain⟨ua,t1,rfl,h1⟩:=zJ_ h0;obtain⟨ub,t2,rfl,h2⟩:=zJ_ h1;grind
theorem Fun.binds4 {x qual:Str}{st:kq}{f:i9}{fd:kZ}{ps:List Str}(hp:ps.length=4)(F:Fun K x qual st f fd)(h:∀(kV doc pm:iX) (an:Option i9) (ai ct:iX) (ua ub uc ud:iX),bindArgs (W.fnOf x qual (defArgs st) (defBody st) (defScope st) .none kV doc pm an ai ct) ⟨[ua,ub,uc,ud],[]⟩=pure (ps.zip [ua,ub,uc,ud])):Binds K fd ps []:=by
 refine F.binds λkV doc pm an ai ct us hl=>?_
 have h0:=hl.trans hp;obtain⟨ua,t1,rfl,h1⟩:=zJ_ h0;obtain⟨ub,t2,rfl,h2⟩:=zJ_ h1;obtain⟨uc,t3,rfl,h3⟩:=zJ_ h2;obtain⟨ud,t4,rfl,h4⟩:=zJ_ h3;grind
theorem Fun.binds5 {x qual:Str}{st:kq}{f:i9}{fd:kZ}{ps:List Str}(hp:ps.length=5)(F:Fun K x qual st f fd)(h:∀(kV doc pm:iX) (an:Option i9) (ai ct:iX) (ua ub uc ud ue:iX),bindArgs (W.fnOf x qual (defArgs st) (defBody st) (defScope st) .none kV doc pm an ai ct) ⟨[ua,ub,uc,ud,ue],[]⟩=pure (ps.zip [ua,ub,uc,ud,ue])):Binds K fd ps []:=by
 refine F.binds λkV doc pm an ai ct us hl=>?_
 have h0:=hl.trans hp;obtain⟨ua,t1,rfl,h1⟩:=zJ_ h0;obtain⟨ub,t2,rfl,h2⟩:=zJ_ h1;obtain⟨uc,t3,rfl,h3⟩:=zJ_ h2;obtain⟨ud,t4,rfl,h4⟩:=zJ_ h3;obtain⟨ue,t5,rfl,h5⟩:=zJ_ h4;grind
end
section
end
section
variable {κ:Type}[DecidableEq κ]
end
section
end
section
variable {κ:Type}[DecidableEq κ]
end
section
end
section
variable {κ:Type}
variable [DecidableEq κ]
end
section
variable {κ:Type}[DecidableEq κ]
end
section
end
def Fi (K:Fgg)(x q:Str)(st:kq)(f:i9):Prop:=∃(oc:iX) (od:Option i9) (kV doc pm:iX) (an:Option i9) (ai ct:iX) (aA:Array (Option iX)),
 K.lookup f=rP ⟨oc,od,.func (W.fnOf x q (defArgs st) (defBody st) (defScope st) .none kV doc pm an ai ct),aA⟩/\oj K ai q=rR/\mh K (.ref f)=rR
def Fg (K:Fgg)(x:Str)(st:kq):Prop:=∃f,lF K jJ x=rP (rP (.ref f))/\Fi K x x st f
def Fm (K:Fgg)(c m q:Str)(st:kq):Prop:=∃cw f,lF K jJ c=rP (rP (.ref cw))/\lE K (.ref cw) m=rP (rP (.ref f))/\qA K (.ref f)=rR/\Fi K m q st f
def Fc (K:Fgg)(c:Str):Prop:=∃cw,lF K jJ c=rP (rP (.ref cw))/\nI K cw pk=rR/\nq K cw=rR/\o7 K cw=rR /\
 lE K (.ref cw) "__setattr__"=rP (rP (.builtin "object.__setattr__"))/\pT K cw=rR/\mh K (.ref cw)=rR
def Fa (K:Fgg)(c a:Str):Prop:=∃cw,lF K jJ c=rP (rP (.ref cw))/\lE K (.ref cw) a=rP rQ
def Fb (K:Fgg)(x:Str):Prop:=lF K jJ x=rP rQ
def Fv (K:Fgg)(x:Str)(v:V):Prop:=∃u,lF K jJ x=rP (rP u)/\RelV v u
def Fk (K:Fgg)(x:Str):Prop:=∃c,lF K jJ x=rP (rP (.ref c))
def Mgo (K:Fgg)(mg:Str->Option iX):Prop:=∃h:Heap,K.In h/\h.Ns jJ mg
section
variable {P:jL}{w:jU}{K:Fgg}{mg:Str->Option iX}{base:Heap}{CX:CXT}{x q c m a:Str}{st:kq}{f:i9}{fd:kZ}{ps:List Str}{k:Nat}{sp:Sp}{v:V}
theorem Fg.mk_ {oc:iX}{od:Option i9}{kV doc pm:iX}{an:Option i9}{ai ct:iX}{aA:Array (Option iX)}(h:lF K jJ x=rP (rP (.ref f)))(l:K.lookup f=rP ⟨oc,od,.func (W.fnOf x x (defArgs st) (defBody st) (defScope st) .none kV doc pm an ai ct),aA⟩)(c:oj K ai x=rR)(k:mh K (.ref f)=rR):Fg K x st:=⟨f,h,oc,od,kV,doc,pm,an,ai,ct,aA,l,c,k⟩
theorem Fm.mk_ {cw:i9}{oc:iX}{od:Option i9}{kV doc pm:iX}{an:Option i9}{ai ct:iX}{aA:Array (Option iX)}(h:lF K jJ c=rP (rP (.ref cw)))(h1:lE K (.ref cw) m=rP (rP (.ref f)))(h2:qA K (.ref f)=rR)(l:K.lookup f=rP ⟨oc,od,.func (W.fnOf m q (defArgs st) (defBody st) (defScope st) .none kV doc pm an ai ct),aA⟩)(h3:oj K ai q=rR)(k:mh K (.ref f)=rR):Fm K c m q st:=⟨cw,f,h,h1,h2,oc,od,kV,doc,pm,an,ai,ct,aA,l,h3,k⟩
theorem Fc.mk_ {cw:i9}(h:lF K jJ c=rP (rP (.ref cw)))(h1:nI K cw pk=rR)(h2:nq K cw=rR)(h3:o7 K cw=rR)(h4:lE K (.ref cw) "__setattr__"=rP (rP (.builtin "object.__setattr__")))(h5:pT K cw=rR)(h6:mh K (.ref cw)=rR):Fc K c:=⟨cw,h,h1,h2,h3,h4,h5,h6⟩
theorem Fa.mk_ {cw:i9}(h:lF K jJ c=rP (rP (.ref cw)))(h1:lE K (.ref cw) a=rP rQ):Fa K c a:=⟨cw,h,h1⟩
theorem Fv.mk_ {u:iX}(h:lF K jJ x=rP (rP u))(h1:RelV v u):Fv K x v:=⟨u,h,h1⟩
theorem Fk.mk_ {cw:i9}(h:lF K jJ x=rP (rP (.ref cw))):Fk K x:=⟨cw,h⟩
theorem Fi.fun_ (h:Fi K x q st f):∃fd,Fun K x q st f fd:=by
 obtain⟨oc,od,kV,doc,pm,an,ai,ct,aA,l,c,k⟩:=h;exact⟨_,zlK_ l c k⟩
theorem Mgo.gb (M:Mgo K mg)(h:Fb K x):Gb mg x:=by
 obtain⟨_,X,G⟩:=M;exact W.mg_none_of X G h
theorem Mgo.gv (M:Mgo K mg)(h:Fv K x v):Gc mg x v:=by
 obtain⟨_,X,G⟩:=M;obtain⟨u,e,r⟩:=h;exact⟨u,qe X G e,r⟩
theorem Mgo.gk (M:Mgo K mg)(h:Fk K x):mg x=rP (.ref (gA K x)):=by
 obtain⟨_,X,G⟩:=M;obtain⟨u,e⟩:=h;rw[zfn_ e];exact qe X G e
theorem Mgo.gkc (M:Mgo K mg)(h:Fk K x):Gc mg x (.ref (gA K x)):=⟨_,M.gk h,rfl⟩
theorem Fc.cls (h:Fc K c):Cls K (gA K c):=by
 obtain⟨cw,e,h1,h2,h3,h4,_⟩:=h;rw[zfn_ e];exact⟨h1,h2,h3,h4⟩
theorem Fa.no (h:Fa K c a):NoAttr K (gA K c) a:=by
 obtain⟨cw,e,h⟩:=h;rw[zfn_ e];exact h
abbrev OkF (P:jL)(w:jU)(K:Fgg)(mg:Str->Option iX)(base:Heap)(CX:CXT)(k:Nat)(x q:Str)(st:kq)(ps:List Str)(sp:Sp):Prop:=∀f fd,Fun K x q st f fd->FnOk P w K mg base CX k f fd ps sp/\Binds K fd ps []
theorem gd_of (M:Mgo K mg)(F:Fg K x st)(h:OkF P w K mg base CX k x x st ps sp):Gd P w K mg base CX k x ps sp:=by
 obtain⟨_,X,G⟩:=M;obtain⟨f,e,i⟩:=F;obtain⟨fd,F⟩:=i.fun_;exact⟨f,fd,(h f fd F).1,qe X G e,F.kp,(h f fd F).2⟩
theorem zkM_ (C:Fc K c)(F:Fm K c m q st)(h:OkF P w K mg base CX k m q st ps sp):Gm P w K mg base CX k (gA K c) m ps sp:=by
 obtain⟨cw,f,e,e2,e3,i⟩:=F;obtain⟨fd,F⟩:=i.fun_;exact⟨f,fd,(h f fd F).1,C.cls,by rw[zfn_ e];exact⟨e2,e3,F.kp⟩,(h f fd F).2⟩
theorem gk_of (M:Mgo K mg)(C:Fc K c)(F:Fm K c "__init__" q st)(h:OkF P w K mg base CX k "__init__" q st ps sp):Gk P w K mg base CX k c (gA K c) ps sp:=by
 obtain⟨cw,f,e,e2,e3,i⟩:=F;obtain⟨fd,F⟩:=i.fun_;obtain⟨iV,e',_,_,_,_,h5,h6⟩:=C;cases e.symm.trans e';refine⟨f,fd,(h f fd F).1,by rw[zfn_ e];exact⟨h5,e2,e3,h6⟩,M.gk ⟨_,e⟩,(h f fd F).2⟩
theorem gn_of (M:Mgo K mg)(F:Fg K x st)(h:∀f fd,Fun K x x st f fd->FnOkN P w K mg base k f fd ps sp/\Binds K fd ps []):GdN P w K mg base k x ps sp:=by
 obtain⟨_,X,G⟩:=M;obtain⟨f,e,i⟩:=F;obtain⟨fd,F⟩:=i.fun_;exact⟨f,fd,(h f fd F).1,qe X G e,F.kp,(h f fd F).2⟩
end
section
variable {K:Fgg}{x q:Str}{st:kq}{ps:List Str}
abbrev Bnd (K:Fgg)(x q:Str)(st:kq)(ps:List Str):Prop:=∀f fd,Fun K x q st f fd->Binds K fd ps []
variable {l:PySem.W.OpenLaw}{w:jU}{mg:Str->Option iX}{k:Nat}{sp:Sp}{fa:i9}
theorem okLaw (M:Mgo K mg)(F:Fg K "law" st)(fK:mg "law"=rP (.ref fa))(hb:∀(kV doc pm:iX) (an:Option i9) (ai ct:iX) (s:iY) (v:iX),bindArgs (W.fnOf "law" "law" (defArgs st) (defBody st) (defScope st) .none kV doc pm an ai ct) ⟨[v],[]⟩=pure [(x,v)])
  (h:∀(base:Heap) (f:i9) (fd:kZ),Fun K "law" "law" st f fd->FnOk l.prog w K mg base CX0 k f fd [x] sp):
  ∃fd:kZ,(∀(s:iY) (v:iX),BindsTo s fd ⟨[v],[]⟩ [(x,v)])/\∀base:Heap,K.In base->base.Ns jJ mg->FnOk l.prog w K mg base CX0 k fa fd [x] sp:=by
 obtain⟨_,X,G⟩:=M;obtain⟨f,e,oc,od,kV,doc,pm,an,ai,ct,aA,l',c,kk⟩:=F;cases fK.symm.trans (qe X G e);exact⟨_,λs v=>.of_eq (hb kV doc pm an ai ct s v),λbase _ _=>h base _ _ (zlK_ l' c kk)⟩
def spL (K:Fgg):Sp:=λvs H Q _=>∃(a:i9) (ns:List Int),vs=[.ref a]/\SqL K H a (ns.map V.int)/\ns.length<=63/\BitsOk ns/\∀H',Q (.bl rR) H'
end
abbrev zcp_:=@PySem.F.slot_str_ljust
abbrev zcF_:=@PySem.F.type_str_ljust
abbrev zcP_:=@PySem.F.slot_str_split
abbrev zcy_:=@PySem.F.type_str_split
abbrev zdG_:=@PySem.F.slot_str_join
abbrev zdI_:=@PySem.F.type_str_join
abbrev zgD_:=@PySem.F.plainAttrs_list
abbrev zaD_:=@PySem.F.slot_list_append
abbrev zaE_:=@PySem.F.type_list_append
section
end
def Fe1 (K:Fgg)(a:Str)(P:i9->Prop):Prop:=∃v,lF K jJ a=rP (rP (.ref v))/\P v
theorem Fe1.mk_ {K:Fgg}{a:Str}{P:i9->Prop}{v:i9}(h:lF K jJ a=rP (rP (.ref v)))(p:P v):Fe1 K a P:=⟨v,h,p⟩
theorem Fe1.g {K:Fgg}{a:Str}{P:i9->Prop}(h:Fe1 K a P):P (gA K a):=by
 obtain⟨v,h,p⟩:=h;rw[zfn_ h];exact p
def Fe2 (K:Fgg)(a b:Str)(P:i9->i9->Prop):Prop:=∃v w,lF K jJ a=rP (rP (.ref v))/\lF K jJ b=rP (rP (.ref w))/\P v w
theorem Fe2.mk_ {K:Fgg}{a b:Str}{P:i9->i9->Prop}{v w:i9}(h:lF K jJ a=rP (rP (.ref v)))(h2:lF K jJ b=rP (rP (.ref w)))(p:P v w):Fe2 K a b P:=⟨v,w,h,h2,p⟩
theorem Fe2.g {K:Fgg}{a b:Str}{P:i9->i9->Prop}(h:Fe2 K a b P):P (gA K a) (gA K b):=by
 obtain⟨v,w,h,h2,p⟩:=h;rw[zfn_ h,zfn_ h2];exact p
section
end
open PySem.SeqAt
open PySem.AutoSeq1 (wpAny_loadPart')
open PySem.MeetsSeq PySem.MeetsSeq2 PySem.MeetsSeq3
section
variable {X:Cx}{pins:Pnn}{σ:St}{H:Hp}{s:iY}{A:jW}
theorem zje_ {x y:V}{v u:iX}(rx:RelV x v)(ry:RelV y u)(fx:flatV x=rR)(fy:flatV y=rR):mq A s v u (eqV x y):=by
 cases x with
 |non=>
  cases rx;cases y with
  |non=>cases ry;exact SeqAt.RcAt.none_none|bl b=>cases ry;exact SeqAt.RcAt.none_bool _|int b=>obtain⟨t,rfl⟩:=ry;exact SeqAt.RcAt.none_int _ _|str b=>obtain⟨t,rfl⟩:=ry;exact SeqAt.RcAt.none_str _ _|_=>cases fy
 |bl a=>
  cases rx;cases y with
  |non=>cases ry;exact SeqAt.RcAt.bool_none _|bl b=>cases ry;exact SeqAt.RcAt.bool_bool _ _|int b=>obtain⟨t,rfl⟩:=ry;exact SeqAt.RcAt.bool_int _ _ _|str b=>obtain⟨t,rfl⟩:=ry;exact SeqAt.RcAt.bool_str _ _ _|_=>cases fy
 |int a=>
  obtain⟨t',rfl⟩:=rx;cases y with
  |non=>cases ry;exact SeqAt.RcAt.int_none _ _|bl b=>cases ry;exact SeqAt.RcAt.int_bool _ _ _|int b=>obtain⟨t,rfl⟩:=ry;exact SeqAt.RcAt.int_int _ _ _ _|str b=>obtain⟨t,rfl⟩:=ry;exact SeqAt.RcAt.int_str _ _ _ _|_=>cases fy
 |str a=>
  obtain⟨t',rfl⟩:=rx;cases y with
  |non=>cases ry;exact SeqAt.RcAt.str_none _ _|bl b=>cases ry;exact SeqAt.RcAt.str_bool _ _ _|int b=>obtain⟨t,rfl⟩:=ry;exact SeqAt.RcAt.str_int _ _ _ _|str b=>obtain⟨t,rfl⟩:=ry;exact SeqAt.RcAt.str_str _ _ _ _|_=>cases fy
 |_=>cases fx
theorem ziD_ {x y:V}{v u:iX}(rx:RelV x v)(ry:RelV y u)(fx:flatV x=rR)(fy:flatV y=rR):mz A s v u (!eqV x y):=by
 cases x with
 |non=>
  cases rx;cases y with
  |non=>cases ry;exact qJ|bl b=>cases ry;exact qK _|int b=>obtain⟨t,rfl⟩:=ry;exact qV _ _|str b=>obtain⟨t,rfl⟩:=ry;exact qW _ _|_=>cases fy
 |bl a=>
  cases rx;cases y with
  |non=>cases ry;exact qL _|bl b=>cases ry;exact qM _ _|int b=>obtain⟨t,rfl⟩:=ry;exact qX _ _ _|str b=>obtain⟨t,rfl⟩:=ry;exact qY _ _ _|_=>cases fy
 |int a=>
  obtain⟨t',rfl⟩:=rx;cases y with
  |non=>cases ry;exact qZ _ _|bl b=>cases ry;exact q8 _ _ _|int b=>obtain⟨t,rfl⟩:=ry;exact rB _ _ _ _|str b=>obtain⟨t,rfl⟩:=ry;exact rD _ _ _ _|_=>cases fy
 |str a=>
  obtain⟨t',rfl⟩:=rx;cases y with
  |non=>cases ry;exact q9 _ _|bl b=>cases ry;exact rb _ _ _|int b=>obtain⟨t,rfl⟩:=ry;exact rE _ _ _ _|str b=>obtain⟨t,rfl⟩:=ry;exact rF _ _ _ _|_=>cases fy
 |_=>cases fx
theorem rc_lf {p:i9}{aa:Array iX}{y:V}{u:iX}(hp:s.heap.IsList p aa)(ry:RelV y u)(fy:flatV y=rR)(hu:A.units<cLine):mq A s (.ref p) u rS:=by
 cases y with
 |non=>cases ry;exact SeqAt.RcAt.list_none hp hu|bl b=>cases ry;exact SeqAt.RcAt.list_bool _ hp hu|int b=>obtain⟨t,rfl⟩:=ry;exact SeqAt.RcAt.list_int _ _ hp hu|str b=>obtain⟨t,rfl⟩:=ry;exact SeqAt.RcAt.list_str _ _ hp hu|_=>cases fy
theorem rc_lF {p:i9}{aa:Array iX}{y:V}{u:iX}(hp:s.heap.IsList p aa)(ry:RelV y u)(fy:flatV y=rR)(hu:A.units<cLine):mq A s u (.ref p) rS:=by
 cases y with
 |non=>cases ry;exact SeqAt.RcAt.none_list hp hu|bl b=>cases ry;exact SeqAt.RcAt.bool_list _ hp hu|int b=>obtain⟨t,rfl⟩:=ry;exact SeqAt.RcAt.int_list _ _ hp hu|str b=>obtain⟨t,rfl⟩:=ry;exact SeqAt.RcAt.str_list _ _ hp hu|_=>cases fy
theorem rc_tf {p:i9}{aa:Array iX}{y:V}{u:iX}(hp:s.heap.IsTuple p aa)(ry:RelV y u)(fy:flatV y=rR)(hu:A.units<cLine):mq A s (.ref p) u rS:=by
 cases y with
 |non=>cases ry;exact SeqAt.RcAt.tuple_none hp hu|bl b=>cases ry;exact SeqAt.RcAt.tuple_bool _ hp hu|int b=>obtain⟨t,rfl⟩:=ry;exact SeqAt.RcAt.tuple_int _ _ hp hu|str b=>obtain⟨t,rfl⟩:=ry;exact SeqAt.RcAt.tuple_str _ _ hp hu|_=>cases fy
theorem rc_tF {p:i9}{aa:Array iX}{y:V}{u:iX}(hp:s.heap.IsTuple p aa)(ry:RelV y u)(fy:flatV y=rR)(hu:A.units<cLine):mq A s u (.ref p) rS:=by
 cases y with
 |non=>cases ry;exact SeqAt.RcAt.none_tuple hp hu|bl b=>cases ry;exact SeqAt.RcAt.bool_tuple _ hp hu|int b=>obtain⟨t,rfl⟩:=ry;exact SeqAt.RcAt.int_tuple _ _ hp hu|str b=>obtain⟨t,rfl⟩:=ry;exact SeqAt.RcAt.str_tuple _ _ hp hu|_=>cases fy
theorem zmJ_ {p:i9}{aa:Array iX}{y:V}{u:iX}(hp:s.heap.IsList p aa)(ry:RelV y u)(fy:flatV y=rR)(hu:A.units<cLine):mz A s (.ref p) u rR:=by
 cases y with
 |non=>cases ry;exact qN hp hu|bl b=>cases ry;exact qO _ hp hu|int b=>obtain⟨t,rfl⟩:=ry;exact rd _ _ hp hu|str b=>obtain⟨t,rfl⟩:=ry;exact rf _ _ hp hu|_=>cases fy
theorem zoj_ {p:i9}{aa:Array iX}{y:V}{u:iX}(hp:s.heap.IsList p aa)(ry:RelV y u)(fy:flatV y=rR)(hu:A.units<cLine):mz A s u (.ref p) rR:=by
 cases y with
 |non=>cases ry;exact qP hp hu|bl b=>cases ry;exact qQ _ hp hu|int b=>obtain⟨t,rfl⟩:=ry;exact rg _ _ hp hu|str b=>obtain⟨t,rfl⟩:=ry;exact rj _ _ hp hu|_=>cases fy
theorem zmK_ {p:i9}{aa:Array iX}{y:V}{u:iX}(hp:s.heap.IsTuple p aa)(ry:RelV y u)(fy:flatV y=rR)(hu:A.units<cLine):mz A s (.ref p) u rR:=by
 cases y with
 |non=>cases ry;exact qw hp hu|bl b=>cases ry;exact qx _ hp hu|int b=>obtain⟨t,rfl⟩:=ry;exact qR _ _ hp hu|str b=>obtain⟨t,rfl⟩:=ry;exact qS _ _ hp hu|_=>cases fy
theorem zml_ {p:i9}{aa:Array iX}{y:V}{u:iX}(hp:s.heap.IsTuple p aa)(ry:RelV y u)(fy:flatV y=rR)(hu:A.units<cLine):mz A s u (.ref p) rR:=by
 cases y with
 |non=>cases ry;exact qy hp hu|bl b=>cases ry;exact qz _ hp hu|int b=>obtain⟨t,rfl⟩:=ry;exact qT _ _ hp hu|str b=>obtain⟨t,rfl⟩:=ry;exact qU _ _ hp hu|_=>cases fy
theorem zjQ_ (I:Inv X pins σ H s){n:Nat}{x y:V}{b:Bool}(h:EqD X.K H n x y b):∀(A:jW) (v u:iX),A.units+n<cLine->RelV x v->RelV y u->mq A s v u b:=by
 induction h with
 |flat hx hy=>exact λA v u _ rx ry=>zje_ rx ry hx hy|lst e hp hq hl h ih=>exact λA v u hu rx ry=>(zcJ_ I (.lst e hp hq hl h) A v u hu rx ry).2 _ _ rfl rfl|lstN hp hq hl=>exact λA v u hu rx ry=>(zcJ_ I (.lstN hp hq hl) A v u hu rx ry).2 _ _ rfl rfl|tup e hp hq h ih=>exact λA v u hu rx ry=>(zcJ_ I (.tup e hp hq h) A v u hu rx ry).2 _ _ rfl rfl|lt hp hq=>exact λA v u hu rx ry=>(zcJ_ I (.lt hp hq) A v u hu rx ry).2 _ _ rfl rfl|tl hp hq=>exact λA v u hu rx ry=>(zcJ_ I (.tl hp hq) A v u hu rx ry).2 _ _ rfl rfl|lf hp hy=>intro A v u hu rx ry;cases rx;obtain⟨aa,_,p1,_⟩:=I.list hp;exact rc_lf p1.isList ry hy (by lia)
 |fl hp hy=>intro A v u hu rx ry;cases ry;obtain⟨aa,_,p1,_⟩:=I.list hp;exact rc_lF p1.isList rx hy (by lia)
 |tf hp hy=>intro A v u hu rx ry;cases rx;obtain⟨aa,_,p1,_⟩:=I.tuple hp;exact rc_tf p1 ry hy (by lia)
 |ft hp hy=>intro A v u hu rx ry;cases ry;obtain⟨aa,_,p1,_⟩:=I.tuple hp;exact rc_tF p1 rx hy (by lia)
 |up h ih=>exact λA v u hu rx ry=>ih A v u (by lia) rx ry
def mEqA (K:Fgg):R2:=λx y H Q=>∃n b,n<=50/\EqD K H n x y b/\Q (.bl b) H
theorem znV_ (hu:X.A.units+60<cLine):OpR X (jX .Eq) (mEqA X.K):=by
 intro pins s σ H x y v u Q I rx ry h;obtain⟨n,b,hn,h,q⟩:=h;exact(zjQ_ I h X.A v u (by lia) rx ry) X.prog X.w X.xe _ ⟨.bl b,H,I,rfl,q⟩
theorem zin_ (I:Inv X pins σ H s){n:Nat}{x y:V}{b:Bool}(h:EqD X.K H n x y b):∀(A:jW) (v u:iX),A.units+n<cLine->RelV x v->RelV y u->mz A s v u (!b):=by
 induction h with
 |flat hx hy=>exact λA v u _ rx ry=>ziD_ rx ry hx hy|lst e hp hq hl h ih=>exact λA v u hu rx ry=>zd3_ I (.lst e hp hq hl h) A v u hu rx ry _ _ rfl rfl|lstN hp hq hl=>exact λA v u hu rx ry=>zd3_ I (.lstN hp hq hl) A v u hu rx ry _ _ rfl rfl|tup e hp hq h ih=>exact λA v u hu rx ry=>zd3_ I (.tup e hp hq h) A v u hu rx ry _ _ rfl rfl|lt hp hq=>exact λA v u hu rx ry=>zd3_ I (.lt hp hq) A v u hu rx ry _ _ rfl rfl|tl hp hq=>exact λA v u hu rx ry=>zd3_ I (.tl hp hq) A v u hu rx ry _ _ rfl rfl|lf hp hy=>intro A v u hu rx ry;cases rx;obtain⟨aa,_,p1,_⟩:=I.list hp;exact zmJ_ p1.isList ry hy (by lia)
 |fl hp hy=>intro A v u hu rx ry;cases ry;obtain⟨aa,_,p1,_⟩:=I.list hp;exact zoj_ p1.isList rx hy (by lia)
 |tf hp hy=>intro A v u hu rx ry;cases rx;obtain⟨aa,_,p1,_⟩:=I.tuple hp;exact zmK_ p1 ry hy (by lia)
 |ft hp hy=>intro A v u hu rx ry;cases ry;obtain⟨aa,_,p1,_⟩:=I.tuple hp;exact zml_ p1 rx hy (by lia)
 |up h ih=>exact λA v u hu rx ry=>ih A v u (by lia) rx ry
def mNeA (K:Fgg):R2:=λx y H Q=>∃n b,n<=50/\EqD K H n x y b/\Q (.bl (!b)) H
theorem zol_ (hu:X.A.units+60<cLine):OpR X (jX .NotEq) (mNeA X.K):=by
 intro pins s σ H x y v u Q I rx ry h;obtain⟨n,b,hn,h,q⟩:=h;exact(zin_ I h X.A v u (by lia) rx ry) X.prog X.w X.xe _ ⟨.bl (!b),H,I,rfl,q⟩
end
def Fs (K:Fgg)(c m q:Str)(st:kq):Prop:=∃cw f,lF K jJ c=rP (rP (.ref cw))/\o9 K (.ref cw) "__getattribute__"=rP (rP (.builtin "type.__getattribute__"))/\W.readsIn K cw (.type "type")=rR/\W.findCls K (.ref cw) (.type "type") m=rP (.val (.ref f))/\Fi K m q st f
section
variable {K:Fgg}{q c m:Str}{st:kq}{f:i9}
theorem Fs.mk_ {cw:i9}{oc:iX}{od:Option i9}{kV doc pm:iX}{an:Option i9}{ai ct:iX}{aA:Array (Option iX)}(h:lF K jJ c=rP (rP (.ref cw)))(h1:o9 K (.ref cw) "__getattribute__"=rP (rP (.builtin "type.__getattribute__")))(h2:W.readsIn K cw (.type "type")=rR)(h3:W.findCls K (.ref cw) (.type "type") m=rP (.val (.ref f)))
  (l:K.lookup f=rP ⟨oc,od,.func (W.fnOf m q (defArgs st) (defBody st) (defScope st) .none kV doc pm an ai ct),aA⟩) (hc:oj K ai q=rR) (hk:mh K (.ref f)=rR):Fs K c m q st:=⟨cw,f,h,h1,h2,h3,oc,od,kV,doc,pm,an,ai,ct,aA,l,hc,hk⟩
end
section
variable {κ:Type}
section
variable [DecidableEq κ]
end
end
section
end
noncomputable def Xc.c:Xc->String
 |.pl c=>c|.at c _=>c
def CatT (K:Fgg)(S:String)(t:List (String×Bool)):Prop:=∀p∈t,(if p.2 then catK K (gA K p.1) (gA K S)else catN K (gA K p.1) (gA K S))=rR
theorem zaG_ {β:Type}{c:String}{b:β}:∀{t:List (String×β)},t.lookup c=rP b->(c,b)∈t
 |[],h=>by cases h
 |(d,x)::t,h=>by
  rw[oy]at h;split at h
  ·grind
  ·exact ji _ (zaG_ h)
section
variable {X:Cx}{e o:jw}{es:List jw}{m:Str}{pos pos' apos:Pos}{ta:TE}{t:TA}{C:i9}{k:Nat}{ps:List Str}{sp:Sp}
def tDropMX (C:i9)(m:Str)(sp:Sp)(te:TE)(ta:TA):TX:=λD W σ H=>te σ H λx H1=>∃a dx fs,x=.ref a/\H1 a=rP (.ins C dx fs)/\fs.lookup m=rQ/\ta σ H1 λvs H2=>sp (x::(vs++[])) H2 (λ_ H3=>D.nx σ H3) (W σ)
theorem zhR_ {pl:Sem Bool}(G:Gm X.prog X.w X.K X.mg X.base (CXx X.prog X.w) k C m ps sp)(hr:Room k X.A)(he:PE X.nox o ta)(ha:PA X.nox (e::es) t)
  (aD:jE (e::es) X.env=(rS,eval e X.env)::jE es X.env:=by rfl) (aw:(lh pos (jE es X.env)).any (·.1)=rS:=by rfl)
  (ht:eval (.Call (.Attribute o m apos) (e::es) [] pos) X.env=(do
   let ov <- eval o X.env
   standAt apos.atName
   let(f,first) <- holding [ov] (getMethod ov m pl)
   callWith pos f first (lh pos (jE (e::es) X.env)) (mH pos (lS [] X.env))):=by rfl)
  (hs:swapsWith (.Call (.Attribute o m apos) (e::es) [] pos) rQ pos'.line X.env=pure rS:=by rfl):PSx X (.Expr (.Call (.Attribute o m apos) (e::es) [] pos) pos') (tDropMX C m sp ta t):=by
 obtain⟨f,fd,F,c,hm,hb⟩:=G;intro pins s σ H D W I h;refine wpAny_Expr_any (thn (Q:=EP X pins σ λ_ H3=>D.nx σ H3) ?_ λv s1 ⟨y,H1,I1,r1,q1⟩=>⟨σ,H1,I1,q1⟩) I.quiet hs
 refine PySem.W.methodCall_KW (pl:=pl) (thn ((PE.nox (X:=X.wish (XP X pins W)) he) pins s σ H _ (I.wish _) h) λu s1 ah=>?_) ht
 obtain⟨x,H1,I1,rx,a,dx,fs,ex,ea,l,q⟩:=ah;subst ex;obtain rfl:u=jQ a:=rx;have I1:=I1.unwish;refine za8_ I1 ea c hm l ?_;refine pL (first:=[.ref a]) (h₀:=X.base) I.ok.mod.kin hm.kp (thn ((PA.nox (X:=X.wish (XP X pins W)) ha) pos pins s1 σ H1 _ (I1.wish _) q) λus s2 ⟨vs,H2,I2,r,q2⟩=>⟨I2.unwish.kIn,?_⟩) aD aw
 have I2:=I2.unwish;have r2:Vals (V.ref a::(vs++[])) (jQ a::us++[]):=by rw[ko,ko];exact .cons rfl r
 have hl:(jQ a::us++[]).length=ps.length:=by rw[<- r2.length];exact F.len _ _ _ _ q2
 refine wpAny_call (codeAny_mono (F.run X.A X.stack s2 H2 ⟨jQ a::us,[]⟩ (jQ a::us++[]) (V.ref a::(vs++[])) _ (W σ) hr I2.env0 (.inl I2.tk) (hb s2 (jQ a::us) I2.kIn hl) r2 q2) λr s' hq=>?_)
 cases r with
 |error e=>exact⟨σ,H2,s2,I2,hq⟩|ok fl=>
  cases fl with
  |ret u=>exact I2.after hq|next=>exact jM hq|brk=>exact jM hq|cont=>exact jM hq
end
section
variable {X:Cx}{body orelse:List kq}{tb:TX}{th:TH}{te:TS}{x:Str}{pos:Pos}{e:jw}{hs:List ExceptHandler}
theorem ziP_:PH X hs tH0:=λ_ _ _ _ _ _ _ _ _ _ _ _ h=>h.elim
def tTryHE (tb:TX)(te:TS)(th:TH):TS:=λD σ H=>tb {D with nx:=λaf H'=>te D af H'} (λaf c d H'=>∃C,c=.ref C/\th C d D af H') σ H
theorem zhi_ {h₀:ExceptHandler}(aD:X.stack=X.env::X.outer)(ba:X.env.frame=rP X.env.locals)(hb:PSsx X body tb)(hl:PSs X orelse te)(hh:PH X (h₀::hs) th):PS X (.Try body (h₀::hs) orelse [] pos) (tTryHE tb te th):=by
 intro pins s σ H D I h;refine wpAny_Try_except (ke (hb pins s σ H _ _ I h) (λf s1 q=>?_) λe s1 q=>?_)
 ·cases f with
  |next=>obtain⟨af,H',I',q⟩:=q;exact hl pins s1 af H' D I' q|ret v=>exact q|brk=>exact q|cont=>exact q
 ·obtain⟨af,Hb,sb,Ib,x,T,C,d,H',rfl,os,bare,un,ok,ht,aC,C',hC',q⟩:=q
  cases hC';have I1:Inv X pins af H' s1:=Ib.call' (ch:=[]) os un ok bare (λb z=>absurd z (by simp))
  obtain⟨oe,vs,a0,oT,ts',he,aY,hd,h1,hTe,hT,hdT,h3⟩:=aC.obj;have land:∀h',zfm_ X s1 x T |>.StaysIn h'->h'.FunFrames (zfm_ X s1 x T) X.stack->h'.TracedW (zfm_ X s1 x T) x (.ref C) a0->s1.heap.UpToSlots h'->Dc x d h'->Inv X pins af (upd H' x (XO x C d)) {s1 with heap:=h'}:=λh' a b c up dd=>landed Ib os bare un ok aC ⟨a,lu _ (jr _ je),b,c⟩ up dd
  have tr:s1.heap.TracedW (zfm_ X s1 x T) x (.ref C) a0:=⟨oe,vs,T,oT,ts',he,aY,hd,h1,lu _ (jr _ (ji _ je)),hTe,hT,hdT,h3⟩;have aQ:s1.heap.FunFrames (zfm_ X s1 x T) X.stack:=ng I1.stack zfA_;rw[aD]at aQ;refine ze7_ (outer:=X.outer) (I1.ok.frames.trans (congrArg rP aD)) aQ ba tr (λb o q=>nz _ q) (lu _ (jr _ je)) aC.dc λh4 n4 d4=>?_
  refine fl_d n4.1 n4.2.1 n4.2.2.1 d4 λh5 a5 b5 c5 u5 d5=>?_
  have u4:s1.heap.UpToSlots h4:=n4.2.2.2;rw[<- aD]at b5;refine hh pins af H' D _ x C d _ (land h5 a5 b5 c5 (u4.trans u5) d5) aC.hx (λA' Q' E' kk=>?_) q
  exact fl_d a5 b5 c5.at d5 λh6 a6 b6 c6 u6 d6=>kk h6 (land h6 a6 b6 c6 ((u4.trans u5).trans u6) d6)
end
def FtT (K:Fgg)(x:Str)(xs:List (List Nat)):Prop:=∀H:Hp,SqT K H (gA K x) (xs.map tx)
section
end
instance:Inhabited V:=⟨.non⟩
section
end
theorem zf9_ (l:List Nat):(jV l.length).filterMap (λk=>l[l.length-1-k]?)=l.reverse:=by
 have h:(jV l.length).map (λk=>l[l.length-1-k]?)=l.reverse.map rP:=by
  refine List.ext_getElem (by simp) λi h1 h2=>?_
  rw[i7,kl]at h1;rw[ni,nM,ni,List.getElem_reverse,jf (by lia)]
 have e:(jV l.length).filterMap (λk=>l[l.length-1-k]?)=((jV l.length).map (λk=>l[l.length-1-k]?)).filterMap id:=by
  rw[mQ];rfl
 rw[e,h,mQ];exact List.filterMap_some
theorem zeU_ (x:Str):(j5 rQ rQ (-1) x.length).filterMap (x.cps[·]?)=x.cps.toList.reverse:=by
 have h2:x.cps.toList.length=x.length:=by simp[k9]
 unfold j5 sliceRange;simp only;rw[if_neg (show¬(-1:Int) > 0 by decide),if_neg (show¬(-1:Int) > 0 by decide),if_neg (show¬(-1:Int) > 0 by decide),mQ,<- zf9_,h2]
 have hc:(if(x.length:Int)-1 > -1 then((x.length:Int)-1 - -1 - -1-1) / - -1 else 0)=(x.length:Int):=by
  split
  ·rw[show(- -1:Int)=1 by decide,qC];lia
  ·lia
 rw[hc,Int.toNat_natCast];refine zaC_ λk hk=>?_
 have hk:=kH.mp hk;show x.cps[((x.length:Int)-1 + -1*(k:Int)).toNat]?=x.cps.toList[x.length-1-k]?
 rw[show((x.length:Int)-1 + -1*(k:Int)).toNat=x.length-1-k by lia]
 simp
def tRevS (te:TE)(ts:TO):TE:=λσ H Q=>te σ H λx H1=>ts σ H1 λo H2=>o=rP (-1)/\match x with
 |.str z=>z.cps.toList.length<=jj/\Q (tx z.cps.toList.reverse) H2|_=>False
section
variable {X:Cx}{e st:jw}{te:TE}{ts:TO}{pos p2:Pos}
theorem zlC_ (he:PE X e te)(hs:PO X (rP st) ts):PE X (.Subscript e (.Slice rQ rQ (rP st) p2) pos) (tRevS te ts):=by
 intro pins s σ H Q I h;refine Subscript_ (thn (he pins s σ H _ I h) λv s1 ah=>?_)
 obtain⟨x,H1,I1,r1,q1⟩:=ah;have pn:∀(s:iY) (Q':iX->iY->Prop),Q' .none s->jD (model X.prog X.w) X.A (evalPart rQ X.env) Q' X.xe s:=λs Q' q=>by rw[evalPart_none];exact jy q
 refine wpAny_Slice (pn _ _ (pn _ _ ?_));refine thn (hs pins s1 σ H1 _ I1 q1) λiP s3 ah=>?_
 obtain⟨o,H3,I3,po,eo,q3⟩:=ah;subst eo;cases x with
 |str z=>
  obtain⟨hz,q⟩:=q3;obtain⟨t,rfl⟩:=r1;obtain⟨l,rfl,hl⟩:=zav_ po;have I4:Inv X pins σ H3 {s3 with heap:=s3.heap.push {cls:=.type "slice",data:=.fields #[.none,.none,partValue l]}}:=I3.kept (t':=s3.toks) λb ob q=>jo _ q
  show jD (model X.prog X.w) X.A (subscriptTail e (.Slice rQ rQ (rP st) p2) (.str z t) (.ref s3.heap.objs.size)) (EP X pins σ Q) X.xe {s3 with heap:=s3.heap.push {cls:=.type "slice",data:=.fields #[.none,.none,partValue l]}}
  refine tail_any (ops:=[.str z t,.ref s3.heap.objs.size]) (typeIs_str _ _ _) pI.lookup ?_ (by with_unfolding_all rfl)
  refine wpAny_getItem_str_slice (l:=rQ) (u:=rQ) (st:=l) ⟨_,jO _ rfl,rfl,rfl⟩ (by rw[hl];rfl) ?_
  unfold sliceMade;rw[if_neg (by rw[hl];simp)]
  have e2:slicePicked z rQ rQ l=j5 rQ rQ (-1) z.length:=by unfold slicePicked;rw[hl];rfl
  rw[e2,zeU_];refine⟨?_,tx z.cps.toList.reverse,H3,I4.tok _,⟨_,rfl⟩,q⟩;show z.cps.toList.reverse.toArray.size<=jj
  rw[jq,List.length_reverse];exact hz
 |_=>exact q3.elim
end
section
variable {prog:jL}{w:jU}{A:jW}{E:iX->iY->Prop}
theorem parts5 {s:iY}{l:i9}{x y z u v:iX}{Q:List iX->iY->Prop}(hA:A.handled=rQ)(hl:s.heap.IsList l #[x,y,z,u,v])
  (q:∀h',(∀b o,b≠s.heap.objs.size->s.heap.get? b=rP o->h'.get? b=rP o)->Q [x,y,z,u,v] {s with heap:=h'}):jD (model prog w) A (unpackItems (.ref l) 5 rQ) Q E s:=by
 have ne:l≠s.heap.objs.size:=by obtain⟨o,ho,_⟩:=hl;exact jT (jF ho)
 unfold unpackItems notIterableAtAll;refine iZ (iZ (wpAny_specialOf hl.typeIs slot_list_iter.lookup (jy ?_)));rw[if_neg (by decide)]
 refine iZ (wpAny_holding (wpAny_pyIter_list hl ?_));have i0:qa (s.heap.push {cls:=.type "list_iterator",data:=.fields #[.ref l,.int 0 0]}) s.heap.objs.size l 0:=⟨_,jO _ rfl,rfl,rfl⟩;refine iZ (wpAny_holding ?_);show jD _ _ (pyNext _>>=_) _ _ _;refine iZ (wpAny_pyNext_list_item i0 (hl.push _) rfl λh1 i1 e1=>?_)
 have l1:h1.IsList l #[x,y,z,u,v]:=(hl.push _).extBut e1.extBut ne;refine iZ (wpAny_holding ?_);show jD _ _ (pyNext _>>=_) _ _ _;refine iZ (wpAny_pyNext_list_item (s:={s with heap:=h1}) i1 l1 rfl λh2 i2 e2=>?_)
 have l2:h2.IsList l #[x,y,z,u,v]:=l1.extBut e2.extBut ne;refine iZ (wpAny_holding ?_);show jD _ _ (pyNext _>>=_) _ _ _;refine iZ (wpAny_pyNext_list_item (s:={s with heap:=h2}) i2 l2 rfl λh3 i3 e3=>?_)
 have l3:h3.IsList l #[x,y,z,u,v]:=l2.extBut e3.extBut ne;refine iZ (wpAny_holding ?_);show jD _ _ (pyNext _>>=_) _ _ _;refine iZ (wpAny_pyNext_list_item (s:={s with heap:=h3}) i3 l3 rfl λh4 i4 e4=>?_)
 have l4:h4.IsList l #[x,y,z,u,v]:=l3.extBut e4.extBut ne;refine iZ (wpAny_holding ?_);show jD _ _ (pyNext _>>=_) _ _ _;refine iZ (wpAny_pyNext_list_item (s:={s with heap:=h4}) i4 l4 rfl λh5 i5 e5=>?_)
 have l5:h5.IsList l #[x,y,z,u,v]:=l4.extBut e5.extBut ne;refine iZ (wpAny_holding (jy (jy (jy (jy (jy (jy ?_)))))));rw[if_neg (by simp)]
 refine iZ (wpAny_holding (wpAny_pyNext_list_end (s:={s with heap:=h5}) hA i5 l5 rfl λh6 e6=>?_))
 exact jy (q h6 λb o hb e=>e6 b o hb (e5.extBut b o hb (e4.extBut b o hb (e3.extBut b o hb (e2.extBut b o hb (e1.extBut b o hb (jo _ e)))))))
end
section
variable {X:Cx}
def gLst5 (K:Fgg)(t:TGs):TG:=λv σ H Q=>match v with |.ref a=>∃x y z u w,SqL K H a [x,y,z,u,w]/\t [x,y,z,u,w] σ H Q |_=>False
theorem zlR_ {es:List jw}{k:Nat}{t:TGs}{pos:Pos}(hc:X.calm=rR)(h:PGs X es t)
  (hn:(kP es X.env).length=5:=by rfl) (aD:(kP es X.env).findIdx? (·.1)=rQ:=by rfl):PG X (.Tuple es k pos) (gLst5 X.K t):=by
 intro pins s σ H v u Q I r hw;cases v with
 |ref a=>
  obtain⟨x,y,z,m,n,hq,hw⟩:=hw;cases r;obtain⟨aa,rv,hp,_⟩:=I.list hq;obtain⟨x',y',z',m',n',rfl⟩:∃x' y' z' m' n',aa=[x',y',z',m',n']:=by
   have:=rv.length
   match aa,this with
   |[x',y',z',m',n'],_=>exact⟨x',y',z',m',n',rfl⟩
  rw[nO];refine iZ (wpAny_standAt ?_);unfold unpack;rw[hn,aD];refine iZ (wpAny_holding (parts5 (I.ok.hd hc) hp.isList λh1 hx=>?_))
  have I1:Inv X pins σ H {s with heap:=h1}:=I.kept (t':=s.toks) λb o e=>hx b o (jT (jF e)) e
  exact h pins _ σ H _ _ Q I1 rv hw
 |_=>exact hw.elim
end
def Nb (K:Fgg):Prop:=W.nsOkIn K cStatics=rR/\lF K cStatics sharingNotToldKey=rP rQ
theorem Nb.mk_ {K:Fgg}(h1:W.nsOkIn K cStatics=rR)(h2:lF K cStatics sharingNotToldKey=rP rQ):Nb K:=⟨h1,h2⟩
theorem Nb.no {K:Fgg}{h:Heap}(n:Nb K)(X:K.In h):NoneBooked h:=⟨_,.of_isNs (qF X n.1),pK X n.1 n.2⟩
def tRepl (y z:Str)(to:TE):TE:=λσ H Q=>to σ H λv H1=>∃x:Str,v=.str x/\x.length+(x.length+1)*z.length<=16777216/\Q (.str (Txt.replace x y z)) H1
section
variable {X:Cx}{o e:jw}{to:TE}{apos aj:Pos}
theorem zjy_ {y z:Str}{j1 j2:Nat}{p1 p2:Pos}(nb:Nb X.K)(ho:PE X o to)(m:M2 X o "replace" apos (.Constant (.str y) j1 p1) (.Constant (.str z) j2 p2) aj):
  PE X (.Call (.Attribute o "replace" apos) [.Constant (.str y) j1 p1,.Constant (.str z) j2 p2] [] aj) (tRepl y z to):=by
 intro pins s σ H Q I h;refine wpAny_Call_method m.base m.few m.line mV PySem.F.slot_str_replace PySem.F.type_str_replace (thn (ho pins s σ H _ I h) λu s1 ah=>?_)
 obtain⟨x,H1,I1,rx,l,ex,hb,q1⟩:=ah;subst ex;obtain⟨t,rfl⟩:=rx;refine⟨typeIs_str _ _ _,(λa z=>by cases z),?_⟩
 rw[m.trees];refine Calls.callWith_builtin rfl (Calls.evalArgs_plain (Calls.spliced_cons (Calls.Constant_str (Calls.spliced_cons (Calls.Constant_str (Calls.spliced_nil ?_))))));have tk:=I1.tk;exact zz_ (SC.replaceA (s:={s1 with toks:=s1.toks+1+1}) (by show s1.toks≠0;lia) (by show s1.toks+1≠0;lia) (by show s1.toks≠s1.toks+1;lia) hb (λt' k hk=>⟨.str _,H1,I1.tok _ (i6 (kn _) hk),⟨_,rfl⟩,q1⟩) (nb.no I1.kIn))
def mRstrip:V->List V->Hp->VK->Prop:=λx xs H Q=>∃l:Str,x=.str l/\xs=[]/\l.length<=jj/\Q (.str (Txt.rstrip l)) H
theorem zfU_:MtR X "str.rstrip" mRstrip:=by
 intro pins s σ H x xs v us Q I rx rv h;obtain⟨l,rfl,rfl,hl,q⟩:=h;obtain⟨t,rfl⟩:=rx;cases rv;exact zz_ (SC.rstrip (λt' k hk=>⟨.str _,H,I.tok _ (i6 I.tk hk),⟨_,rfl⟩,q⟩) hl)
def rDPop:V->List V->Hp->VK->Prop:=λx xs H Q=>∃a kvs k v,x=.ref a/\xs=[kV k]/\H a=rP (.dK kvs)/\valV kvs k=rP v/\Q v (upd H a (.dK (dropK kvs k)))
theorem zg3_:MtR X "dict.pop" rDPop:=by
 intro pins s σ H x xs v us Q I rx rv h;obtain⟨a,kvs,k,w,rfl,rfl,ea,l,q⟩:=h;obtain rfl:v=jQ a:=rx;cases rv with
 |cons r t=>cases t;exact d_pop I ea r l (.inl rfl) λw' s3 I3 a8=>⟨w,_,I3,a8,q⟩
section
end
def SqK (K:Fgg)(a:i9)(xs:List V):Prop:=∃(o:qb) (aa:Array iX) (n:Nat),K.lookup a=rP o/\o.cls=.type "tuple" /\ o.data=.seq aa n/\aa.size<=jj/\Vals xs aa.toList
def Rws (K:Fgg):List DictEntry->List (List Nat×List V)->Prop
 |[],rs=>rs=[]|e::es,rs=>∃r dZ,rs=r::dZ/\(∃t p,e.key=.str ⟨r.1.toArray⟩ t/\e.val=.ref p/\SqK K p r.2)/\Rws K es dZ
def Kd (w:jU)(K:Fgg)(x:Str)(rs:List (List Nat×List V)):Prop:=∃a es n,lF K jJ x=rP (rP (.ref a))/\K.lookup a=rP ⟨.type "dict",rQ,.dict es n,#[]⟩/\W.KeysLit w.params es.toList/\(a==sysModules)=rS/\Rws K es.toList rs
theorem Kd.mk_ {w:jU}{K:Fgg}{x:Str}{rs:List (List Nat×List V)}{a:i9}{es:Array DictEntry}{n:Nat}(h1:lF K jJ x=rP (rP (.ref a)))(h2:K.lookup a=rP ⟨.type "dict",rQ,.dict es n,#[]⟩)(h3:W.KeysLit w.params es.toList)(h4:(a==sysModules)=rS)(h5:Rws K es.toList rs):Kd w K x rs:=⟨a,es,n,h1,h2,h3,h4,h5⟩
theorem Rws.nil_ {K:Fgg}:Rws K [] []:=rfl
theorem Rws.cons_ {K:Fgg}{e:DictEntry}{es:List DictEntry}{l:List Nat}{vs:List V}{rs:List (List Nat×List V)}{t:Tok}{p:i9}{od:Option i9}{aa:Array iX}{n:Nat}{aA:Array (Option iX)}(h1:e.key=.str ⟨l.toArray⟩ t)(h2:e.val=.ref p)(h3:K.lookup p=rP ⟨.type "tuple",od,.seq aa n,aA⟩)(h4:Vals vs aa.toList)(h5:aa.size<=jj)(h:Rws K es rs):Rws K (e::es) ((l,vs)::rs):=⟨_,_,rfl,⟨t,p,h1,h2,_,aa,n,h3,rfl,rfl,h5,h4⟩,h⟩
noncomputable def atRw (rs:List (List Nat×List V))(l:List Nat):Option (List V):=(rs.find? λr=>r.1 == l).map (·.2)
theorem zcM_ {K:Fgg}{x:Str}:∀{es:List DictEntry}{rs:List (List Nat×List V)},Rws K es rs->(match atRw rs x.cps.toList with |none=>es.find? (λe=>lR x e.key)=rQ |some vs=>∃p,(es.find? λe=>lR x e.key).map (·.val)=rP (.ref p)/\SqK K p vs)
 |[],_,h=>by cases(show _=_ from h);exact rfl
 |e::es,_,h=>by
  obtain⟨r,dZ,rfl,⟨t,p,ek,ev,sq⟩,h⟩:=h;have ih:=zcM_ (x:=x) h;have ec:lR x e.key=(r.1 == x.cps.toList):=by
   rw[ek];by_cases z:r.1=x.cps.toList
   ·have:x=⟨r.1.toArray⟩:=by rw[z]
    rw[z,this];simp[lR]
   ·have z':¬(⟨r.1.toArray⟩:Str)=x:=λq=>z (by rw[<- q])
    unfold lR;exact(beq_eq_false_iff_ne.mpr z').trans (beq_eq_false_iff_ne.mpr z).symm
  unfold atRw at ih ⊢;rw[kX,kX,ec];cases q:(r.1 == x.cps.toList)with
  |true=>exact⟨p,by rw[<- ev];rfl,sq⟩|false=>exact ih
theorem zdJ_ {es:Array DictEntry}{x:Str}:findBy lR es x=(es.toList.find? λe=>lR x e.key).map (·.val):=by
 obtain⟨l⟩:=es;unfold findBy;rw[List.find?_toArray]
def rKIn (K:Fgg)(n:Str)(rs:List (List Nat×List V)):R2:=λx y H Q=>∃l:Str,x=.str l/\y=.ref (gA K n)/\Q (.bl !(atRw rs l.cps.toList).isSome) H
def rKIx (K:Fgg)(n:Str)(rs:List (List Nat×List V)):R2:=λx y H Q=>∃(l:Str) (vs:List V),y=.str l/\x=.ref (gA K n)/\atRw rs l.cps.toList=rP vs/\∀p,SqK K p vs->Q (.ref p) H
theorem zm0_ {n:Str}{rs:List (List Nat×List V)}(k:Kd X.w X.K n rs):OpR X (jX .NotIn) (rKIn X.K n rs):=by
 intro pins s σ H x y v u Q I rx ry h;obtain⟨l,rfl,rfl,q⟩:=h;obtain⟨a,es,m,e1,e2,e3,e4,e5⟩:=k;rw[zfn_ e1]at ry;obtain rfl:u=jQ a:=ry;obtain⟨t,rfl⟩:=rx;refine wpAny_notIn_of (strKind_is X.prog X.w l t) e4 (W.mapOf_K (prog:=X.prog) I.kIn e2 e3) ?_;refine⟨_,H,I.tok _,?_,q⟩;rw[zdJ_];have f:=zcM_ (x:=l) e5;cases z:atRw rs l.cps.toList with
 |none=>rw[z]at f;rw[f];rfl|some vs=>rw[z]at f;obtain⟨p,e,_⟩:=f;rw[e];rfl
theorem ix_kd {n:Str}{rs:List (List Nat×List V)}(k:Kd X.w X.K n rs):IxR X (rKIx X.K n rs):=by
 intro value slice pins s σ H x y v u Q I rx ry h hs;obtain⟨l,vs,rfl,rfl,hr,q⟩:=h;obtain⟨a,es,m,e1,e2,e3,e4,e5⟩:=k;rw[zfn_ e1]at rx;obtain rfl:v=jQ a:=rx;obtain⟨t,rfl⟩:=ry;have f:=zcM_ (x:=l) e5;rw[hr]at f;obtain⟨p,e,sq⟩:=f;have hm:=W.mapOf_K (prog:=X.prog) (w:=X.w) I.kIn e2 e3;exact tail_any hm.typeIs slot_dict_getitem.lookup (wpAny_getItem_of (strKind_is X.prog X.w l t) hm (zdJ_.trans e) ⟨.ref p,H,I.tok _,rfl,q p sq⟩) hs
end
end L2
namespace VI
open PySem PySem.Spec PyProof.Rows L2
inductive Nd where
 |tup |lst |dct (ks:List Key)|obj (c:Str) (ns:List Str)|scr |ktup |exc (c:String)
 deriving DecidableEq
inductive D where
 |non |bl (b:Bool)|int (i:Int)|str (l:List Nat)|nd (k:Nd) (ds:List D)|fz (d:D)|pin (v:V)|gone
def SqU (K:jG)(a:i9)(xs:List V):Prop:=∃(o:qb) (aa:Array iX) (n:Nat),K.lookup a=rP o/\o.cls=.type "tuple" /\ o.data=.seq aa n/\aa.size<=jj/\Vals xs aa.toList
def NdR (K:jG)(k:Nd)(p:i9)(us:List V)(H:Hp):Prop:=match k with
 |.tup=>H p=rP (.tup us)|.lst=>H p=rP (.lst us)|.scr=>SqL K H p us|.ktup=>SqU K p us|.exc c=>us=[]/\∃d,H p=rP (XO p (gA K c) d)|.dct ks=>Rd H p (.dK (ks.zip us))/\ks.length=us.length/\ks.Nodup|.obj c ns=>∃dx,H p=rP (.ins (gA K c) dx (ns.zip us))/\ns.length=us.length
theorem zb2_ {H H':Hp}{p:i9}{u:HO}(g:Same H H')(h:Rd H p u):Rd H' p u:=h.imp (g _ _) λ⟨o,e⟩=>⟨o,g _ _ e⟩
theorem NdR.mono {K:jG}{k:Nd}{p:i9}{us:List V}{H H':Hp}(g:Same H H')(h:NdR K k p us H):NdR K k p us H':=by
 cases k with
 |tup=>exact g _ _ h|lst=>exact g _ _ h|scr=>exact g.seq h|ktup=>exact h|exc c=>exact⟨h.1,h.2.imp λ_ e=>g _ _ e⟩|dct ks=>exact⟨zb2_ g h.1,h.2⟩|obj c ns=>obtain⟨dx,e,l⟩:=h;exact⟨dx,g _ _ e,l⟩
mutual
def DR (K:jG):D->V->Hp->Prop
 |.non,v,_=>v=.non|.bl b,v,_=>v=.bl b|.int i,v,_=>v=.int i|.str l,v,_=>v=tx l|.nd k ds,v,H=>∃p us,v=.ref p/\NdR K k p us H/\DRs K ds us H|.fz d,v,H=>DR K d v H|.pin u,v,_=>v=u|.gone,_,_=>True
def DRs (K:jG):List D->List V->Hp->Prop
 |[],us,_=>us=[]|d::ds,us,H=>∃v vs,us=v::vs/\DR K d v H/\DRs K ds vs H
end
def Nk (K:jG)(H H':Hp):Prop:=∀k p us,NdR K k p us H->NdR K k p us H'
theorem DR.up {K:jG}{H H':Hp}(g:Nk K H H'):∀{d:D}{v:V},DR K d v H->DR K d v H'
 |.non,_,h=>by unfold DR at h ⊢;exact h
 |.bl _,_,h=>by unfold DR at h ⊢;exact h
 |.int _,_,h=>by unfold DR at h ⊢;exact h
 |.str _,_,h=>by unfold DR at h ⊢;exact h
 |.pin _,_,h=>by unfold DR at h ⊢;exact h
 |.gone,_,h=>by unfold DR at h ⊢;exact h
 |.fz d,_,h=>by unfold DR at h ⊢;exact DR.up g h
 |.nd k ds,_,h=>by unfold DR at h ⊢;obtain⟨p,us,e,n,r⟩:=h;exact⟨p,us,e,g _ _ _ n,go r⟩
where go:∀{ds:List D}{us:List V},DRs K ds us H->DRs K ds us H'
 |[],_,h=>by unfold DRs at h ⊢;exact h
 |d::ds,_,h=>by unfold DRs at h ⊢;obtain⟨v,vs,e,a,r⟩:=h;exact⟨v,vs,e,DR.up g a,go r⟩
theorem zdg_ {K:jG}{H H':Hp}(g:Same H H'):Nk K H H':=λ_ _ _ n=>n.mono g
theorem DR.mono {K:jG}{H H':Hp}(g:Same H H'){d:D}{v:V}(h:DR K d v H):DR K d v H':=h.up (zdg_ g)
theorem DRs.mono {K:jG}{H H':Hp}(g:Same H H'){ds:List D}{us:List V}(h:DRs K ds us H):DRs K ds us H':=DR.up.go (zdg_ g) h
theorem DRs.prs {K:jG}{H:Hp}:∀{ds:List D}{us:List V},DRs K ds us H↔Paired (λd v=>DR K d v H) ds us
 |[],us=>⟨λh=>by unfold DRs at h;subst h;exact .nil,λh=>by cases h;unfold DRs;rfl⟩|d::ds,us=>⟨λh=>by unfold DRs at h;obtain⟨v,vs,rfl,a,r⟩:=h;exact .cons a (DRs.prs.mp r),λh=>by
  cases h with |cons a r=>unfold DRs;exact⟨_,_,rfl,a,DRs.prs.mpr r⟩⟩
mutual
def D.imm:D->Bool
 |.nd .tup ds=>D.imms ds|.nd .ktup ds=>D.imms ds|.nd _ _=>rS|.fz d=>d.imm|.pin _=>rS|.gone=>rS|_=>rR
def D.imms:List D->Bool
 |[]=>rR|d::ds=>d.imm && D.imms ds
end
mutual
def D.new:D->Bool
 |.nd _ ds=>D.news ds|.fz d=>d.imm|.pin _=>rS|.gone=>rS|_=>rR
def D.news:List D->Bool
 |[]=>rR|d::ds=>d.new && D.news ds
end
def Cell (K:jG)(k:Nd)(p:i9)(us:List V)(F h:Hp):Prop:=match k with
 |.tup=>F p=rP (.tup us)/\∀q,h q=rQ|.scr=>False|.exc _=>False|.ktup=>SqU K p us/\∀q,h q=rQ|.lst=>h=one p (.lst us)|.dct ks=>h=one p (.dK (ks.zip us))/\ks.length=us.length/\ks.Nodup|.obj c ns=>∃dx,dx≠p/\h=two p dx (.ins (gA K c) dx (ns.zip us))/\ns.length=us.length
mutual
def OD (K:jG):D->V->Hp->Hp->Prop
 |.nd k ds,v,F,h=>∃p us h0 h2,v=.ref p/\Cell K k p us F h0/\Jn h0 h2 h/\ODs K ds us F h2|d,v,F,h=>(∀p,h p=rQ)/\DR K d v F
def ODs (K:jG):List D->List V->Hp->Hp->Prop
 |[],us,_,h=>us=[]/\∀p,h p=rQ|d::ds,us,F,h=>∃v vs h1 h2,us=v::vs/\Jn h1 h2 h/\OD K d v F h1/\ODs K ds vs F h2
end
section
variable {K:j3}{F F' h h1 h2 H:Hp}{d:D}{ds:List D}{v:V}{us:List V}{k:Nd}{p:i9}
theorem ze_ {p q:i9}{o:HO}:one p o q=if q=p then rP o else rQ:=rfl
theorem Cell.mono (g:Tups F F')(c:Cell K k p us F h):Cell K k p us F' h:=by
 cases k with
 |tup=>exact⟨g _ _ c.1,c.2⟩|lst=>exact c|scr=>exact c|exc _=>exact c|ktup=>exact c|dct ks=>exact c|obj c' ns=>exact c
theorem Cell.notup (c:Cell K k p us F h)(q:i9)(xs:List V):h q≠rP (.tup xs):=by
 cases k with
 |tup=>rw[c.2];exact λz=>by cases z
 |ktup=>rw[c.2];exact λz=>by cases z
 |scr=>exact jM c|exc _=>exact jM c|lst=>rw[show h=_ from c,ze_];split<;>exact λz=>by cases z
 |dct ks=>rw[c.1,ze_];split<;>exact λz=>by cases z
 |obj c' ns=>
  obtain⟨dx,n,e,l⟩:=c;rw[e];unfold two;split
  ·exact λz=>by cases z
  ·split<;>exact λz=>by cases z
theorem Cell.nd (c:Cell K k p us F h)(g:Same F H)(g':Same h H):NdR K k p us H:=by
 cases k with
 |tup=>exact g _ _ c.1|ktup=>exact c.1|scr=>exact jM c|exc _=>exact jM c|lst=>exact g' _ _ (by rw[show h=_ from c];exact zD_)|dct ks=>exact⟨.inl (g' _ _ (by rw[c.1];exact zD_)),c.2⟩|obj c' ns=>obtain⟨dx,n,e,l⟩:=c;exact⟨dx,g' _ _ (by rw[e];exact zjJ_),l⟩
theorem OD.up (g:Nk K F F'):∀{d:D}{v:V}{h:Hp},OD K d v F h->OD K d v F' h
 |.nd k ds,_,_,q=>by unfold OD at q ⊢;obtain⟨p,us,h0,h2,e,c,j,r⟩:=q;exact⟨p,us,h0,h2,e,c.mono (λp xs=>g .tup p xs),j,go r⟩
 |.non,_,_,q=>by unfold OD at q ⊢;exact⟨q.1,q.2.up g⟩
 |.bl _,_,_,q=>by unfold OD at q ⊢;exact⟨q.1,q.2.up g⟩
 |.int _,_,_,q=>by unfold OD at q ⊢;exact⟨q.1,q.2.up g⟩
 |.str _,_,_,q=>by unfold OD at q ⊢;exact⟨q.1,q.2.up g⟩
 |.fz _,_,_,q=>by unfold OD at q ⊢;exact⟨q.1,q.2.up g⟩
 |.pin _,_,_,q=>by unfold OD at q ⊢;exact⟨q.1,q.2.up g⟩
 |.gone,_,_,q=>by unfold OD at q ⊢;exact⟨q.1,q.2.up g⟩
where go:∀{ds:List D}{us:List V}{h:Hp},ODs K ds us F h->ODs K ds us F' h
 |[],_,_,q=>by unfold ODs at q ⊢;exact q
 |d::ds,_,_,q=>by unfold ODs at q ⊢;obtain⟨v,vs,h1,h2,e,j,a,r⟩:=q;exact⟨v,vs,h1,h2,e,j,OD.up g a,go r⟩
theorem OD.mono (g:Same F F'){d:D}{v:V}{h:Hp}(q:OD K d v F h):OD K d v F' h:=q.up (zdg_ g)
theorem OD.mono.go (g:Same F F'){ds:List D}{us:List V}{h:Hp}(q:ODs K ds us F h):ODs K ds us F' h:=OD.up.go (zdg_ g) q
theorem OD.notup:∀{d:D}{v:V}{h:Hp},OD K d v F h->∀p xs,h p≠rP (.tup xs)
 |.nd k ds,_,_,q,p,xs=>by
  unfold OD at q;obtain⟨_,us,h0,h2,e,c,j,r⟩:=q;rcases j p with⟨_,y⟩|⟨_,y⟩
  ·rw[y];exact go r p xs
  ·rw[y];exact c.notup p xs
 |.non,_,_,q,p,xs=>by unfold OD at q;rw[q.1];exact λz=>by cases z
 |.bl _,_,_,q,p,xs=>by unfold OD at q;rw[q.1];exact λz=>by cases z
 |.int _,_,_,q,p,xs=>by unfold OD at q;rw[q.1];exact λz=>by cases z
 |.str _,_,_,q,p,xs=>by unfold OD at q;rw[q.1];exact λz=>by cases z
 |.fz _,_,_,q,p,xs=>by unfold OD at q;rw[q.1];exact λz=>by cases z
 |.pin _,_,_,q,p,xs=>by unfold OD at q;rw[q.1];exact λz=>by cases z
 |.gone,_,_,q,p,xs=>by unfold OD at q;rw[q.1];exact λz=>by cases z
where go:∀{ds:List D}{us:List V}{h:Hp},ODs K ds us F h->∀p xs,h p≠rP (.tup xs)
 |[],_,_,q,p,xs=>by unfold ODs at q;rw[q.2];exact λz=>by cases z
 |d::ds,_,_,q,p,xs=>by
  unfold ODs at q;obtain⟨v,vs,h1,h2,e,j,a,r⟩:=q;rcases j p with⟨_,y⟩|⟨_,y⟩
  ·rw[y];exact go r p xs
  ·rw[y];exact OD.notup a p xs
theorem OD.view (g:Same F H):∀{d:D}{v:V}{h:Hp},Same h H->OD K d v F h->DR K d v H
 |.nd k ds,_,_,g',q=>by
  unfold OD at q;unfold DR;obtain⟨p,us,h0,h2,e,c,j,r⟩:=q;exact⟨p,us,e,c.nd g (j.l.trans g'),go (j.r.trans g') r⟩
 |.non,_,_,_,q=>by unfold OD at q;exact q.2.mono g
 |.bl _,_,_,_,q=>by unfold OD at q;exact q.2.mono g
 |.int _,_,_,_,q=>by unfold OD at q;exact q.2.mono g
 |.str _,_,_,_,q=>by unfold OD at q;exact q.2.mono g
 |.fz _,_,_,_,q=>by unfold OD at q;exact q.2.mono g
 |.pin _,_,_,_,q=>by unfold OD at q;exact q.2.mono g
 |.gone,_,_,_,q=>by unfold OD at q;exact q.2.mono g
where go:∀{ds:List D}{us:List V}{h:Hp},Same h H->ODs K ds us F h->DRs K ds us H
 |[],_,_,_,q=>by unfold ODs at q;unfold DRs;exact q.1
 |d::ds,_,_,g',q=>by
  unfold ODs at q;unfold DRs;obtain⟨v,vs,h1,h2,e,j,a,r⟩:=q;exact⟨v,vs,e,OD.view g (j.l.trans g') a,go (j.r.trans g') r⟩
theorem DR.imm (g:Tups F F'):∀{d:D}{v:V},d.imm=rR->DR K d v F->DR K d v F'
 |.nd .tup ds,_,z,q=>by unfold D.imm at z;unfold DR at q ⊢;obtain⟨p,us,e,n,r⟩:=q;exact⟨p,us,e,g _ _ n,go z r⟩
 |.nd .ktup ds,_,z,q=>by unfold D.imm at z;unfold DR at q ⊢;obtain⟨p,us,e,n,r⟩:=q;exact⟨p,us,e,n,go z r⟩
 |.nd .scr _,_,z,_=>by simp[D.imm]at z
 |.nd (.exc _) _,_,z,_=>by simp[D.imm]at z
 |.nd .lst _,_,z,_=>by simp[D.imm]at z
 |.nd (.dct _) _,_,z,_=>by simp[D.imm]at z
 |.nd (.obj _ _) _,_,z,_=>by simp[D.imm]at z
 |.non,_,_,q=>by unfold DR at q ⊢;exact q
 |.bl _,_,_,q=>by unfold DR at q ⊢;exact q
 |.int _,_,_,q=>by unfold DR at q ⊢;exact q
 |.str _,_,_,q=>by unfold DR at q ⊢;exact q
 |.fz d,_,z,q=>by unfold D.imm at z;unfold DR at q ⊢;exact DR.imm g z q
 |.pin _,_,z,_=>by simp[D.imm]at z
 |.gone,_,z,_=>by simp[D.imm]at z
where go:∀{ds:List D}{us:List V},D.imms ds=rR->DRs K ds us F->DRs K ds us F'
 |[],_,_,q=>by unfold DRs at q ⊢;exact q
 |d::ds,_,z,q=>by
  unfold D.imms at z;obtain⟨z1,z2⟩:=jP.mp z;unfold DRs at q ⊢;obtain⟨v,vs,e,a,r⟩:=q;exact⟨v,vs,e,DR.imm g z1 a,go z2 r⟩
theorem OD.of_imm (hn:∀p,h p=rQ):∀{d:D}{v:V},d.imm=rR->DR K d v F->OD K d v F h
 |.nd .tup ds,_,z,q=>by
  unfold D.imm at z;unfold DR at q;unfold OD;obtain⟨p,us,e,n,r⟩:=q;exact⟨p,us,h,h,e,⟨n,hn⟩,λq=>.inl ⟨hn q,rfl⟩,go z r⟩
 |.nd .ktup ds,_,z,q=>by
  unfold D.imm at z;unfold DR at q;unfold OD;obtain⟨p,us,e,n,r⟩:=q;exact⟨p,us,h,h,e,⟨n,hn⟩,λq=>.inl ⟨hn q,rfl⟩,go z r⟩
 |.nd .scr _,_,z,_=>by simp[D.imm]at z
 |.nd (.exc _) _,_,z,_=>by simp[D.imm]at z
 |.nd .lst _,_,z,_=>by simp[D.imm]at z
 |.nd (.dct _) _,_,z,_=>by simp[D.imm]at z
 |.nd (.obj _ _) _,_,z,_=>by simp[D.imm]at z
 |.non,_,_,q=>by unfold OD;exact⟨hn,q⟩
 |.bl _,_,_,q=>by unfold OD;exact⟨hn,q⟩
 |.int _,_,_,q=>by unfold OD;exact⟨hn,q⟩
 |.str _,_,_,q=>by unfold OD;exact⟨hn,q⟩
 |.fz d,_,_,q=>by unfold OD;exact⟨hn,q⟩
 |.pin _,_,z,_=>by simp[D.imm]at z
 |.gone,_,z,_=>by simp[D.imm]at z
where go:∀{ds:List D}{us:List V},D.imms ds=rR->DRs K ds us F->ODs K ds us F h
 |[],_,_,q=>by unfold DRs at q;unfold ODs;exact⟨q,hn⟩
 |d::ds,_,z,q=>by
  unfold D.imms at z;obtain⟨z1,z2⟩:=jP.mp z;unfold DRs at q;unfold ODs;obtain⟨v,vs,e,a,r⟩:=q;exact⟨v,vs,h,h,e,λq=>.inl ⟨hn q,rfl⟩,OD.of_imm hn z1 a,go z2 r⟩
theorem OD.newImm (g:Tups F F'):∀{d:D}{v:V}{h:Hp},d.new=rR->OD K d v F h->OD K d v F' h
 |.nd k ds,_,_,z,q=>by unfold D.new at z;unfold OD at q ⊢;obtain⟨p,us,h0,h2,e,c,j,r⟩:=q;exact⟨p,us,h0,h2,e,c.mono g,j,go z r⟩
 |.non,_,_,_,q=>by unfold OD at q ⊢;exact⟨q.1,q.2.imm g rfl⟩
 |.bl _,_,_,_,q=>by unfold OD at q ⊢;exact⟨q.1,q.2.imm g rfl⟩
 |.int _,_,_,_,q=>by unfold OD at q ⊢;exact⟨q.1,q.2.imm g rfl⟩
 |.str _,_,_,_,q=>by unfold OD at q ⊢;exact⟨q.1,q.2.imm g rfl⟩
 |.fz d,_,_,z,q=>by unfold D.new at z;unfold OD at q ⊢;exact⟨q.1,q.2.imm g (by unfold D.imm;exact z)⟩
 |.pin _,_,_,z,_=>by simp[D.new]at z
 |.gone,_,_,z,_=>by simp[D.new]at z
where go:∀{ds:List D}{us:List V}{h:Hp},D.news ds=rR->ODs K ds us F h->ODs K ds us F' h
 |[],_,_,_,q=>by unfold ODs at q ⊢;exact q
 |d::ds,_,_,z,q=>by
  unfold D.news at z;obtain⟨z1,z2⟩:=jP.mp z;unfold ODs at q ⊢;obtain⟨v,vs,h1,h2,e,j,a,r⟩:=q;exact⟨v,vs,h1,h2,e,j,OD.newImm g z1 a,go z2 r⟩
end
abbrev tyD (K:jG):Ty D:=⟨DR K,λg h=>h.mono g⟩
abbrev owD (K:jG):Own D:=⟨OD K,tyD K,λg h=>h.mono g,λd h=>OD.view z2_ (zcu_ d) h,λh=>h.notup⟩
noncomputable abbrev Env:=List (Option D)
def slot (K:jG):Option D->Sl
 |none=>.dead|some d=>.ow (owD K) d
abbrev Lof (K:jG)(env:Env):List Sl:=env.map (slot K)
noncomputable def D.un:D->D
 |.fz d=>d.un|d=>d
def D.vw (d:D):D:=if d.imm then d else match d with |.fz _=>d |_=>.fz d
section
variable {K:j3}{E:XK}{F h h1 h2 H:Hp}{d:D}{ds:List D}{v:V}{us:List V}{k:Nd}{p:i9}{Q:VK}
theorem DR.un:∀{d:D},DR K d v H->DR K d.un v H
 |.fz d,q=>by unfold DR at q;unfold D.un;exact DR.un q
 |.non,q=>q|.bl _,q=>q|.int _,q=>q|.str _,q=>q|.nd _ _,q=>q|.pin _,q=>q|.gone,q=>q
theorem DR.int {i:Int}(h:DR K (.int i) v H):v=.int i:=by unfold DR at h;exact h
theorem DR.str {l:List Nat}(h:DR K (.str l) v H):v=tx l:=by unfold DR at h;exact h
theorem DR.bl {b:Bool}(h:DR K (.bl b) v H):v=.bl b:=by unfold DR at h;exact h
theorem DR.non (h:DR K .non v H):v=.non:=by unfold DR at h;exact h
theorem DR.nd (h:DR K (.nd k ds) v H):∃p us,v=.ref p/\NdR K k p us H/\DRs K ds us H:=by unfold DR at h;exact h
theorem OD.vw (hn:∀p,h p=rQ)(r:DR K d v F):OD K d.vw v F h:=by
 unfold D.vw;split
 ·exact OD.of_imm hn (by assumption) r
 ·split
  ·unfold OD;exact⟨hn,r⟩
  ·unfold OD;exact⟨hn,by unfold DR;exact r⟩
theorem ODs.vw (hn:∀p,h p=rQ):∀{ds:List D}{us:List V},DRs K ds us F->ODs K (ds.map D.vw) us F h
 |[],_,q=>by unfold DRs at q;unfold ODs;exact⟨q,hn⟩
 |d::ds,_,q=>by
  unfold DRs at q;obtain⟨v,vs,e,a,r⟩:=q;rw[ju];unfold ODs;exact⟨v,vs,h,h,e,λq=>.inl ⟨hn q,rfl⟩,OD.vw hn a,ODs.vw hn r⟩
theorem DRs.len (h:DRs K ds us H):ds.length=us.length:=Paired.length (DRs.prs.mp h)
theorem DRs.get (h:DRs K ds us H)(i:Nat):(ds[i]?=rQ/\us[i]?=rQ)\/∃d v,ds[i]?=rP d/\us[i]?=rP v/\DR K d v H:=Prs.get (T:=tyD K) (DRs.prs.mp h) i
theorem DRs.app {es:List D}{ws:List V}(a:DRs K ds us H)(b:DRs K es ws H):DRs K (ds++es) (us++ws) H:=DRs.prs.mpr (Prs.append (T:=tyD K) (DRs.prs.mp a) (DRs.prs.mp b))
theorem DRs.atI (h:DRs K ds us H){i:Int}{d:D}(e:atI ds i=rP d):∃v,L2.atI us i=rP v/\DR K d v H:=zjb_ (T:=tyD K) (DRs.prs.mp h) e
theorem gotV (q:After K (.ok d.vw) E F H (OwnK (owD K) H Q))(hs:Same F H)(r:DR K d v F):Q v H:=
 q.ok hs v (λ_=>rQ) (λp z=>absurd rfl z) (λp=>.inr rfl) (λp o z=>by cases z) (OD.vw (λ_=>rfl) r)
theorem got (q:After K (.ok d) E F H (OwnK (owD K) H Q))(hs:Same F H)(r:DR K d v F)(i:d.imm=rR:=by rfl):Q v H:=
 q.ok hs v (λ_=>rQ) (λp z=>absurd rfl z) (λp=>.inr rfl) (λp o z=>by cases z) (OD.of_imm (λ_=>rfl) i r)
theorem gotI {i:Int}(q:After K (.ok (.int i)) E F H (OwnK (owD K) H Q))(hs:Same F H):Q (.int i) H:=got q hs (by unfold DR;rfl)
theorem gotS {i:List Nat}(q:After K (.ok (.str i)) E F H (OwnK (owD K) H Q))(hs:Same F H):Q (tx i) H:=got q hs (by unfold DR;rfl)
theorem gotB {i:Bool}(q:After K (.ok (.bl i)) E F H (OwnK (owD K) H Q))(hs:Same F H):Q (.bl i) H:=got q hs (by unfold DR;rfl)
theorem gotN (q:After K (.ok .non) E F H (OwnK (owD K) H Q))(hs:Same F H):Q .non H:=got q hs (by unfold DR;rfl)
theorem no_r {h:Hp}(z:Hp)(hz:∀p,z p=rQ):Jn h z h:=λp=>.inr ⟨hz p,rfl⟩
theorem newL (q:After K (.ok (.nd .lst (ds.map .vw))) E F H (OwnK (owD K) H Q))(hs:Same F H)(hp:H p=rQ)(r:DRs K ds us F):Q (.ref p) (upd H p (.lst us)):=by
 refine q F _ (.heap hs (zF_ hp _)) (.ref p) (one p (.lst us)) (λb z=>?_) (λb=>?_) (λb o z=>?_) ?_
 ·rw[ze_]at z;split at z
  ·rename_i e;rw[e];exact hp
  ·exact absurd rfl z
 ·rw[ze_];split
  ·rename_i e;rw[e];exact .inl (hs.free hp)
  ·exact .inr rfl
 ·rw[ze_]at z;split at z
  ·rename_i e;rw[e];cases z;exact zj_
  ·cases z
 ·show OD K _ _ _ _
  unfold OD;exact⟨p,us,_,λ_=>rQ,rfl,rfl,no_r _ λ_=>rfl,ODs.vw (λ_=>rfl) r⟩
def addD (a b:D):Mo D:=match a.un,b.un with
 |.int i,.int j=>.ok (.int (i+j))|.str x,.str y=>.lim (x.length+y.length) (.ok (.str (x++y)))|.nd .lst xs,.nd .lst ys=>.lim (xs.length+ys.length) (.ok (.nd .lst ((xs++ys).map .vw)))|_,_=>.no
abbrev Op2D (K:jG)(m:R2)(E:XK)(g:D->D->Mo D):Prop:=Op2O K m E (tyD K) (tyD K) g (owD K)
theorem znC_:Op2D K mAdd E addD:=by
 intro a b x y F H Q hs ha hb q;have ha:=DR.un ha;have hb:=DR.un hb;unfold addD at q;split at q
 ·rename_i e1 e2;rw[e1]at ha;rw[e2]at hb;cases ha.int;cases hb.int;exact gotI q hs
 ·rename_i e1 e2;rw[e1]at ha;rw[e2]at hb;cases ha.str;cases hb.str
  obtain⟨c,q⟩:=q.lim;exact⟨c,gotS q hs⟩
 ·rename_i e1 e2;rw[e1]at ha;rw[e2]at hb
  obtain⟨p,us,rfl,n,r⟩:=ha.nd;obtain⟨p2,ws,rfl,n2,r2⟩:=hb.nd;obtain⟨c,q⟩:=q.lim;exact⟨us,ws,hs _ _ n,hs _ _ n2,by rw[<- r.len,<- r2.len];exact c,λl hl=>newL q hs hl (r.app r2)⟩
 ·exact q.elim
def i2D (g:Int->Int->Mo D)(a b:D):Mo D:=match a.un,b.un with |.int i,.int j=>g i j |_,_=>.no
theorem znE_ {g:Int->Int->V}{f:Int->Int->D}(h:∀i j F,DR K (f i j) (g i j) F)(im:∀i j,(f i j).imm=rR):Op2D K (mI0 g) E (i2D λi j=>.ok (f i j)):=by
 intro a b x y F H Q hs ha hb q;have ha:=DR.un ha;have hb:=DR.un hb;unfold i2D at q;split at q
 ·rename_i e1 e2;rw[e1]at ha;rw[e2]at hb;cases ha.int;cases hb.int;exact got q hs (h _ _ _) (im _ _)
 ·exact q.elim
theorem od_i {C:Int->Int->Prop}[∀i j,Decidable (C i j)]{g:Int->Int->V}{f:Int->Int->D}(h:∀i j F,DR K (f i j) (g i j) F)(im:∀i j,(f i j).imm=rR):Op2D K (mI C g) E (i2D λi j=>.grd (C i j) (.ok (f i j))):=by
 intro a b x y F H Q hs ha hb q;have ha:=DR.un ha;have hb:=DR.un hb;unfold i2D at q;split at q
 ·rename_i e1 e2;rw[e1]at ha;rw[e2]at hb;cases ha.int;cases hb.int
  obtain⟨c,q⟩:=q.grd;exact⟨c,got q hs (h _ _ _) (im _ _)⟩
 ·exact q.elim
abbrev modD:=i2D λi j=>.grd (0<j) (.ok (.int (i % j)))
abbrev divD:=i2D λi j=>.grd (CDivG i j) (.ok (.int (i / j)))
abbrev powD:=i2D λi j=>.grd (CPow i j) (.ok (.int (i ^ j.toNat)))
theorem znt_:Op2D K mMod E modD:=od_i (C:=λ_ j=>0<j) (λ_ _ _=>by unfold DR;rfl) λ_ _=>rfl
theorem zms_:Op2D K mDivG E divD:=od_i (λ_ _ _=>by unfold DR;rfl) λ_ _=>rfl
theorem zm7_:Op2D K mPow E powD:=od_i (λ_ _ _=>by unfold DR;rfl) λ_ _=>rfl
abbrev leD:=i2D λi j=>.ok (.bl (decide (i<=j)))
abbrev gtD:=i2D λi j=>.ok (.bl (decide (j<i)))
abbrev ltD:=i2D λi j=>.ok (.bl (decide (i<j)))
theorem od_le:Op2D K mLe E leD:=znE_ (λ_ _ _=>by unfold DR;rfl) λ_ _=>rfl
theorem od_gt:Op2D K mGt E gtD:=znE_ (λ_ _ _=>by unfold DR;rfl) λ_ _=>rfl
theorem od_lt:Op2D K mLt E ltD:=znE_ (λ_ _ _=>by unfold DR;rfl) λ_ _=>rfl
def mulD (a b:D):Mo D:=match a.un,b.un with
 |.int i,.int j=>.grd (IntMulOk i j) (.ok (.int (i*j)))|.str x,.int n=>.grd (CRep x.length n) (.ok (.str (repL x n)))|.nd .lst xs,.int n=>.grd (CRep xs.length n) (.ok (.nd .lst ((repL xs n).map .vw)))|_,_=>.no
theorem DRs.rep (r:DRs K ds us H)(n:Int):DRs K (repL ds n) (repL us n) H:=DRs.prs.mpr (zi5_ (T:=tyD K) (DRs.prs.mp r) n)
theorem DRs.cut (r:DRs K ds us H)(lo hi:Option Int):DRs K (cutG ds lo hi) (cutV us lo hi) H:=DRs.prs.mpr (zkf_ (T:=tyD K) (DRs.prs.mp r) lo hi)
theorem zow_:Op2D K mMulX E mulD:=by
 intro a b x y F H Q hs ha hb q;have ha:=DR.un ha;have hb:=DR.un hb;unfold mulD at q;split at q
 ·rename_i e1 e2;rw[e1]at ha;rw[e2]at hb;cases ha.int;cases hb.int
  obtain⟨c,q⟩:=q.grd;exact⟨c,gotI q hs⟩
 ·rename_i e1 e2;rw[e1]at ha;rw[e2]at hb;cases ha.str;cases hb.int
  obtain⟨c,q⟩:=q.grd;exact⟨c,gotS q hs⟩
 ·rename_i e1 e2;rw[e1]at ha;rw[e2]at hb
  obtain⟨p,us,rfl,n,r⟩:=ha.nd;cases hb.int;obtain⟨c,q⟩:=q.grd;exact⟨us,hs _ _ n,by rw[<- r.len];exact c,λl hl=>newL q hs hl (r.rep _)⟩
 ·exact q.elim
def ixD (a b:D):Mo D:=match a.un,b.un with
 |.nd .lst xs,.int i=>.opt ((atI xs i).map .vw)|.nd .tup xs,.int i=>.opt ((atI xs i).map .vw)|.nd .scr xs,.int i=>.opt ((atI xs i).map .vw)|.nd .ktup xs,.int i=>.opt ((atI xs i).map .vw)|.str l,.int i=>.lim l.length (.opt ((atI l i).map λc=>.str [c]))|_,_=>.no
theorem zfK_ {ds:List D}{i:Int}(hs:Same F H)(n:SqL K H p us\/SqT K H p us)(r:DRs K ds us F)(q:After K (.opt ((atI ds i).map .vw)) E F H (OwnK (owD K) H Q)):mIx K (.ref p) (.int i) H Q:=by
 obtain⟨d,e,q⟩:=q.opt;obtain⟨d',e',rfl⟩:=jz.mp e;obtain⟨v,e2,rv⟩:=r.atI e';refine⟨us,n,?_⟩;rw[e2];exact gotV q hs rv
theorem od_ix:Op2D K (mIx K) E ixD:=by
 intro a b x y F H Q hs ha hb q;have ha:=DR.un ha;have hb:=DR.un hb;unfold ixD at q;split at q
 ·rename_i e1 e2;rw[e1]at ha;rw[e2]at hb;obtain⟨p,us,rfl,n,r⟩:=ha.nd;cases hb.int;exact zfK_ hs (.inl (.of (hs _ _ n))) r q
 ·rename_i e1 e2;rw[e1]at ha;rw[e2]at hb;obtain⟨p,us,rfl,n,r⟩:=ha.nd;cases hb.int;exact zfK_ hs (.inr (.of (hs _ _ n))) r q
 ·rename_i e1 e2;rw[e1]at ha;rw[e2]at hb;obtain⟨p,us,rfl,n,r⟩:=ha.nd;cases hb.int;exact zfK_ hs (.inl (hs.seq n)) r q
 ·rename_i e1 e2;rw[e1]at ha;rw[e2]at hb;obtain⟨p,us,rfl,n,r⟩:=ha.nd;cases hb.int;exact zfK_ hs (.inr (.inr n)) r q
 ·rename_i l i e1 e2;rw[e1]at ha;rw[e2]at hb;cases ha.str;cases hb.int
  obtain⟨z,q⟩:=q.lim;obtain⟨d,e,q⟩:=q.opt;obtain⟨c,e',rfl⟩:=jz.mp e;refine⟨z,?_⟩;show(match atI l i with |some c=>Q (tx [c]) H |none=>False)
  rw[e'];exact gotS q hs
 ·exact q.elim
def keyD (d:D):Option Key:=match d.un with
 |.int i=>rP (.inl i)|.str l=>rP (.inr ⟨l.toArray⟩)|_=>rQ
theorem ziZ_ {k:Key}(e:keyD d=rP k)(h:DR K d v H):keyV v=rP k/\v=kV k:=by
 have h:=DR.un h;unfold keyD at e;cases hd:d.un with
 |int i=>rw[hd]at e h;cases e;cases h.int;exact⟨rfl,rfl⟩|str l=>rw[hd]at e h;cases e;cases h.str;exact⟨rfl,rfl⟩|_=>rw[hd]at e;cases e
def valD (ks:List Key)(ds:List D)(k:Key):Option D:=((ks.zip ds).find? λq=>decide (q.1=k)).map (·.2)
theorem zmA_ {k:Key}:∀{ks:List Key}{ds:List D}{us:List V},DRs K ds us H->(valD ks ds k=rQ/\valV (ks.zip us) k=rQ)\/∃d v,valD ks ds k=rP d/\valV (ks.zip us) k=rP v/\DR K d v H
 |[],ds,us,h=>.inl ⟨rfl,rfl⟩|k0::ks,[],us,h=>by unfold DRs at h;subst h;exact .inl ⟨rfl,rfl⟩
 |k0::ks,d::ds,us,h=>by
  unfold DRs at h;obtain⟨v,vs,rfl,a,r⟩:=h;by_cases e:k0=k
  ·subst e
   exact .inr ⟨d,v,by simp[valD],by simp[valV],a⟩
  ·rcases zmA_ (k:=k) (ks:=ks) r with⟨h1,h2⟩|⟨d',v',h1,h2,h3⟩
   ·exact .inl ⟨by unfold valD at h1 ⊢;rw[jR,mr (by simpa using e)];exact h1,by unfold valV at h2 ⊢;rw[jR,mr (by simpa using e)];exact h2⟩
   ·exact .inr ⟨d',v',by unfold valD at h1 ⊢;rw[jR,mr (by simpa using e)];exact h1,by unfold valV at h2 ⊢;rw[jR,mr (by simpa using e)];exact h2,h3⟩
def dgetD (a b:D):Mo D:=match a.un,keyD b with
 |.nd (.dct ks) ds,rP k=>.opt ((valD ks ds k).map .vw)|_,_=>.no
def dinD (neg:Bool)(b a:D):Mo D:=match a.un,keyD b with
 |.nd (.dct ks) ds,rP k=>.ok (.bl (if neg then !(valD ks ds k).isSome else(valD ks ds k).isSome))|_,_=>.no
theorem zjT_ {x y:V}{R:i9->List (Key×V)->Key->Prop}{kvs:List (Key×V)}{k:Key}(hx:x=.ref p)(hy:keyV y=rP k)(h:H p=rP (.dK kvs))(r:R p kvs k):atD x y H R:=by
 subst hx;unfold atD;dsimp only;rw[hy];exact⟨kvs,h,r⟩
def atR (x y:V)(H:Hp)(R:i9->List (Key×V)->Key->Prop):Prop:=match x with
 |.ref a=>(match keyV y with |some k=>∃kvs,Rd H a (.dK kvs)/\R a kvs k |none=>False)|_=>False
theorem ziu_ {x y:V}{H:Hp}{R:i9->List (Key×V)->Key->Prop}(h:atR x y H R):∃a kvs k,x=.ref a/\y=kV k/\Rd H a (.dK kvs)/\R a kvs k:=by
 unfold atR at h;cases x with
 |ref a=>
  cases e:keyV y with
  |none=>rw[e]at h;exact h.elim|some k=>
   rw[e]at h;obtain⟨kvs,h1,h2⟩:=h;exact⟨a,kvs,k,rfl,zgx_ e,h1,h2⟩
 |_=>exact h.elim
theorem zih_ {x y:V}{R:i9->List (Key×V)->Key->Prop}{kvs:List (Key×V)}{k:Key}(hx:x=.ref p)(hy:keyV y=rP k)(h:Rd H p (.dK kvs))(r:R p kvs k):atR x y H R:=by
 subst hx;unfold atR;dsimp only;rw[hy];exact⟨kvs,h,r⟩
section
variable {t t1 t2:TE}{r r1 r2:Mo D}{env:Env}
abbrev EvX (K:jG)(t:TE)(E:XK)(env:Env)(r:Mo D):Prop:=EvO K t E (Lof K env) r (owD K)
abbrev EvV (K:jG)(t:TE)(E:XK)(env:Env)(r:Mo D):Prop:=EvF K t E (Lof K env) r (tyD K)
theorem ex_v (h:EvX K t E env r):EvV K t E env r:=h.fr
theorem ex_op {m:R2}{g:D->D->Mo D}(o:Op2D K m E g)(h1:EvX K t1 E env r1)(h2:EvX K t2 E env r2):EvX K (tOp m t1 t2) E env (r1.bind λa=>r2.bind λb=>g a b):=zmq_ o (ex_v h1) (ex_v h2)
def getE (env:Env)(i:Nat):Mo D:=match env[i]? with |some (rP d)=>.ok d.vw |_=>.no
theorem zoz_ (i:Nat):EvX K (mVar i) E env (getE env i):=by
 intro σ F H Q hL hs q;unfold getE at q;split at q
 ·rename_i d e
  obtain⟨v,ev,rv⟩:=hL i (slot K (rP d)) (by rw[jB,e];rfl)
  unfold mVar;cases z:σ[i]? with
  |none=>rw[z]at ev;cases ev|some o=>rw[z]at ev;cases(show o=rP v from ev);exact gotV q hs rv
 ·exact q.elim
theorem ex_c {d:D}{v:V}(h:∀F,DR K d v F)(i:d.imm=rR:=by rfl):EvX K (tC v) E env (.ok d):=λσ F H Q hL hs q=>got q hs (h F) i
def blD (d:D):Mo Bool:=match d.un with |.bl b=>.ok b |_=>.no
theorem ze8_ (h:EvX K t E env r):EvT K (mTest t) E (Lof K env) (r.bind blD):=by
 intro σ F H Q hL hs q;refine ex_v h σ F H _ hL hs (q.bind.imp λa F1 H1 x1 k1 v1 aM=>?_)
 have ha:=DR.un aM;unfold blD at k1;split at k1
 ·rename_i b e;rw[e]at ha;cases ha.bl;exact k1.ok x1.2.1
 ·exact k1.elim
theorem zmC_ (h:EvX K t E env r):EvX K (mNotV t) E env (r.bind λa=>(blD a).bind λb=>.ok (.bl (!b))):=by
 intro σ F H Q hL hs q;refine ex_v h σ F H _ hL hs (q.bind.imp λa F1 H1 x1 k1 v1 aM=>?_)
 have ha:=DR.un aM;unfold blD at k1;split at k1
 ·rename_i b e;rw[e]at ha;cases ha.bl
  exact gotB (k1.imp λa F3 H3 x3 k3=>k3.back x1.2.2.1) x1.2.1
 ·exact k1.elim
def andD (a:D)(r:Mo D):Mo D:=(blD a).bind λb=>if b then r else .ok (.bl rS)
def orD (a:D)(r:Mo D):Mo D:=(blD a).bind λb=>if b then .ok (.bl rR)else r
theorem znT_ (h1:EvX K t1 E env r1)(h2:EvX K t2 E env r2):EvX K (mAndV t1 t2) E env (r1.bind λa=>andD a r2):=by
 intro σ F H Q hL hs q;refine ex_v h1 σ F H _ hL hs (q.bind.imp λa F1 H1 x1 k1 v1 aM=>?_)
 have ha:=DR.un aM;unfold andD blD at k1;split at k1
 ·rename_i b e;rw[e]at ha;cases ha.bl
  refine⟨λz=>?_,λz=>?_⟩
  ·subst z;exact h2 σ F1 H1 _ (hL.mono x1.1) x1.2.1 (After.imp (show After K r2 E F1 H1 _ from k1) λa F3 H3 x3 k3=>k3.back x1.2.2.1)
  ·subst z;exact gotB (After.imp (show After K (.ok (D.bl rS)) E F1 H1 (OwnK (owD K) H Q)from k1) λa F3 H3 x3 k3=>k3.back x1.2.2.1) x1.2.1
 ·exact k1.elim
theorem ex_or (h1:EvX K t1 E env r1)(h2:EvX K t2 E env r2):EvX K (mOrV t1 t2) E env (r1.bind λa=>orD a r2):=by
 intro σ F H Q hL hs q;refine ex_v h1 σ F H _ hL hs (q.bind.imp λa F1 H1 x1 k1 v1 aM=>?_)
 have ha:=DR.un aM;unfold orD blD at k1;split at k1
 ·rename_i b e;rw[e]at ha;cases ha.bl
  refine⟨λz=>?_,λz=>?_⟩
  ·subst z;exact gotB (After.imp (show After K (.ok (D.bl rR)) E F1 H1 (OwnK (owD K) H Q)from k1) λa F3 H3 x3 k3=>k3.back x1.2.2.1) x1.2.1
  ·subst z;exact h2 σ F1 H1 _ (hL.mono x1.1) x1.2.1 (After.imp (show After K r2 E F1 H1 _ from k1) λa F3 H3 x3 k3=>k3.back x1.2.2.1)
 ·exact k1.elim
theorem ex_if {tt:TT}{b:Mo Bool}(ht:EvT K tt E (Lof K env) b)(h1:EvX K t1 E env r1)(h2:EvX K t2 E env r2):EvX K (mIf tt t1 t2) E env (b.bind λc=>if c then r1 else r2):=zl6_ ht h1 h2
end
end
section
variable {K:j3}{E:XK}{F F' h h1 h2 H H':Hp}{d:D}{ds:List D}{v:V}{us:List V}{k:Nd}{p:i9}{Q:VK}{env:Env}{t:TE}{r r1 r2:Mo D}{ta:TA}{ra:Mo (List D)}
def allT (f:D->D->Option Bool):List D->List D->Option Bool
 |a::as,b::bs=>(f a b).bind λx=>(allT f as bs).map λy=>x && y
 |_,_=>rP rR
def D.flat?:D->Option V
 |.non=>rP .non|.bl b=>rP (.bl b)|.int i=>rP (.int i)|.str l=>rP (tx l)|_=>rQ
noncomputable def sqT:D->Option (Bool×List D)
 |.nd .lst xs=>rP (rR,xs)|.nd .tup xs=>rP (rS,xs)|_=>rQ
def eqS (f:D->D->Option Bool)(a b:D):Option Bool:=match sqT a with
 |none=>(match sqT b with |none=>a.flat?.bind λx=>b.flat?.map λy=>eqV x y |some _=>a.flat?.map λ_=>rS)|some (k,xs)=>(match sqT b with
  |none=>b.flat?.map λ_=>rS|some (k',ys)=>bif k == k' then(bif k then(if xs.length=ys.length then allT f xs ys else rP rS)else(allT f xs ys).map λb=>b && xs.length == ys.length)else rP rS)
def eqT:Nat->D->D->Option Bool
 |0,a,b=>a.un.flat?.bind λx=>b.un.flat?.map λy=>eqV x y|n+1,a,b=>eqS (eqT n) a.un b.un
theorem zmh_ {k:Bool}{xs:List D}(e:sqT d=rP (k,xs))(h:DR K d v H):∃p us,v=.ref p/\DRs K xs us H/\H p=rP (bif k then .lst us else .tup us):=by
 cases d with
 |nd k ds=>
  obtain⟨p,us,rfl,m,r⟩:=h.nd;cases k with
  |lst=>cases e;exact⟨p,us,rfl,r,m⟩|tup=>cases e;exact⟨p,us,rfl,r,m⟩|_=>cases e
 |_=>cases e
theorem zbH_ {x:V}(e:d.flat?=rP x)(h:DR K d v H):v=x/\flatV x=rR:=by
 cases d with
 |non=>cases e;exact⟨h.non,rfl⟩|bl=>cases e;exact⟨h.bl,rfl⟩|int=>cases e;exact⟨h.int,rfl⟩|str=>cases e;exact⟨h.str,rfl⟩|_=>cases e
theorem ziE_ {f:D->D->Option Bool}:∀{xs ys:List D}{b:Bool},allT f xs ys=rP b->∃e:Nat->Bool,(∀(i:Nat) x y,xs[i]?=rP x->ys[i]?=rP y->f x y=rP (e i))/\b=(jV (min xs.length ys.length)).all e
 |[],_,_,h=>by cases h;exact⟨λ_=>rR,λi x y hx=>by simp at hx,by simp⟩
 |_::_,[],_,h=>by cases h;exact⟨λ_=>rR,λi x y hx hy=>by simp at hy,by simp⟩
 |x::xs,y::ys,b,h=>by
  unfold allT at h;obtain⟨c,hc,h⟩:=jv.mp h;obtain⟨c',bj,rfl⟩:=jz.mp h;obtain⟨e,h1,h2⟩:=ziE_ bj;refine⟨λi=>match i with |0=>c |i+1=>e i,λi u w hu hw=>?_,?_⟩
  ·cases i with
   |zero=>simp at hu hw;subst hu hw;exact hc|succ i=>exact h1 i u w (by simpa using hu) (by simpa using hw)
  ·rw[h2,jg,jg,Nat.succ_min_succ,List.range_succ_eq_map,jY,List.all_map];rfl
theorem eqt_D:∀{n:Nat}{a b:D}{x y:V}{c:Bool},eqT n a b=rP c->DR K a x H->DR K b y H->EqD K H n x y c:=by
 intro n;induction n with
 |zero=>
  intro a b x y c h ha hb;unfold eqT at h;obtain⟨x',hx,h⟩:=jv.mp h;obtain⟨y',hy,rfl⟩:=jz.mp h;obtain⟨rfl,f1⟩:=zbH_ hx (DR.un ha);obtain⟨rfl,f2⟩:=zbH_ hy (DR.un hb);exact .flat f1 f2
 |succ n ih=>
  intro a b x y c h ha hb;have ha:=DR.un ha;have hb:=DR.un hb;have sub:∀{xs ys:List D}{us ws:List V}{e:Nat->Bool},DRs K xs us H->DRs K ys ws H->(∀(i:Nat) x y,xs[i]?=rP x->ys[i]?=rP y->eqT n x y=rP (e i))->∀(i:Nat) u w,us[i]?=rP u->ws[i]?=rP w->EqD K H n u w (e i):=λr r2 g i u w hu hw=>by
   rcases r.get i with⟨_,z⟩|⟨d,v,e1,e2,e3⟩
   ·rw[z]at hu;cases hu
   rcases r2.get i with⟨_,z⟩|⟨d',v',g1,g2,g3⟩
   ·rw[z]at hw;cases hw
   rw[e2]at hu;rw[g2]at hw;cases hu;cases hw;exact ih (g i _ _ e1 g1) e3 g3
  have fl:∀{a b:D},DR K a x H->DR K b y H->(a.flat?.bind λx=>b.flat?.map λy=>eqV x y)=rP c->EqD K H (n+1) x y c:=λha hb h=>by
   obtain⟨x',hx,h⟩:=jv.mp h;obtain⟨y',hy,rfl⟩:=jz.mp h;obtain⟨rfl,f1⟩:=zbH_ hx ha;obtain⟨rfl,f2⟩:=zbH_ hy hb;exact(EqD.flat f1 f2).le (lZ _)
  have h:eqS (eqT n) a.un b.un=rP c:=h;unfold eqS at h;cases ea:sqT a.un with
  |none=>
   rw[ea]at h;cases eb:sqT b.un with
   |none=>rw[eb]at h;exact fl ha hb h|some q=>
    rw[eb]at h;obtain⟨y',hy,rfl⟩:=jz.mp h;obtain⟨rfl,f2⟩:=zbH_ hy ha;obtain⟨p,us,rfl,r,m⟩:=zmh_ (k:=q.1) (xs:=q.2) eb hb;cases z:q.1<;>rw[z]at m
    ·exact .ft (.of m) f2
    ·exact .fl (.of m) f2
  |some q=>
   rw[ea]at h;obtain⟨p,us,rfl,r1,n1⟩:=zmh_ (k:=q.1) (xs:=q.2) ea ha;obtain⟨k,xs⟩:=q;cases eb:sqT b.un with
   |none=>
    rw[eb]at h;obtain⟨y',hy,rfl⟩:=jz.mp h;obtain⟨rfl,f2⟩:=zbH_ hy hb;cases k
    ·exact .tf (.of n1) f2
    ·exact .lf (.of n1) f2
   |some q=>
    rw[eb]at h;obtain⟨q',ws,rfl,r2,n2⟩:=zmh_ (k:=q.1) (xs:=q.2) eb hb;obtain⟨k',ys⟩:=q;cases k<;>cases k'
    ·obtain⟨c',hc,rfl⟩:=jz.mp (show(allT (eqT n) xs ys).map _=_ from h)
     obtain⟨e,g1,rfl⟩:=ziE_ hc;rw[r1.len,r2.len];exact .tup e (.of n1) (.of n2) (sub r1 r2 g1)
    ·cases h;exact .tl (.of n1) (.of n2)
    ·cases h;exact .lt (.of n1) (.of n2)
    ·have h:(if xs.length=ys.length then allT (eqT n) xs ys else rP rS)=rP c:=h
     split at h
     ·rename_i hl
      obtain⟨e,g1,rfl⟩:=ziE_ h;rw[<- hl,mB,r1.len];exact .lst e (.of n1) (.of n2) (by rw[<- r1.len,<- r2.len,hl]) (sub r1 r2 g1)
     ·rename_i hl;cases h;exact .lstN (.of n1) (.of n2) (by rw[<- r1.len,<- r2.len];exact hl)
def eqD (neg:Bool)(a b:D):Mo D:=(Mo.opt (eqT 12 a b)).bind λc=>.ok (.bl (if neg then !c else c))
theorem od_eq:Op2D K (mEqA K) E (eqD rS):=by
 intro a b x y F H Q hs ha hb q;unfold eqD at q;cases e:eqT 12 a b with
 |none=>rw[e]at q;exact q.elim|some c=>rw[e]at q;exact⟨12,c,by decide,eqt_D e ((tyD K).mono hs ha) ((tyD K).mono hs hb),gotB q hs⟩
theorem od_ne:Op2D K (mNeA K) E (eqD rR):=by
 intro a b x y F H Q hs ha hb q;unfold eqD at q;cases e:eqT 12 a b with
 |none=>rw[e]at q;exact q.elim|some c=>rw[e]at q;exact⟨12,c,by decide,eqt_D e ((tyD K).mono hs ha) ((tyD K).mono hs hb),gotB q hs⟩
theorem un_fz:∀(d:D) {x:D},d.un≠.fz x
 |.fz d,x=>by unfold D.un;exact un_fz d
 |.non,_=>λz=>by cases z
 |.bl _,_=>λz=>by cases z
 |.int _,_=>λz=>by cases z
 |.str _,_=>λz=>by cases z
 |.nd _ _,_=>λz=>by cases z
 |.pin _,_=>λz=>by cases z
 |.gone,_=>λz=>by cases z
def isD (neg:Bool)(a b:D):Mo D:=match b with
 |.non=>(match a.un with |.pin _=>.no |.gone=>.no |.non=>.ok (.bl (!neg))|_=>.ok (.bl neg))|.bl c=>(match a.un with |.bl b=>.ok (.bl (if neg then !decide (b=c)else decide (b=c)))|_=>.no)|_=>.no
theorem zoA_ (ha:DR K d v H){neg:Bool}{b:D}{c:Mo Unit}(hc:isD neg d .non=.ok b):b=.bl (if neg then !decide (v=.non)else decide (v=.non)):=by
 have ha:=DR.un ha;unfold isD at hc;cases z:d.un with
 |non=>rw[z]at ha hc;cases ha.non;cases hc;cases neg<;>rfl
 |bl=>rw[z]at ha hc;cases ha.bl;cases hc;cases neg<;>rfl
 |int=>rw[z]at ha hc;cases ha.int;cases hc;cases neg<;>rfl
 |str=>rw[z]at ha hc;cases ha.str;cases hc;cases neg<;>rfl
 |nd=>rw[z]at ha hc;obtain⟨_,_,rfl,_⟩:=ha.nd;cases hc;cases neg<;>rfl
 |fz=>exact absurd z (un_fz d)|pin=>rw[z]at hc;cases hc|gone=>rw[z]at hc;cases hc
theorem zk5_ {neg:Bool}{a b:D}{k:D->Hp->Hp->Prop}(q:After K (isD neg a b) E F H k):(b=.non/\∃c,isD neg a .non=.ok c/\After K (.ok c) E F H k)\/∃c e,b=.bl c/\a.un=.bl e/\After K (.ok (.bl (if neg then !decide (e=c)else decide (e=c)))) E F H k:=by
 unfold isD at q ⊢;split at q
 ·refine .inl ⟨rfl,?_⟩
  split at q
  ·exact q.elim
  ·exact q.elim
  ·exact⟨_,rfl,q⟩
  ·exact⟨_,rfl,q⟩
 ·split at q
  ·exact .inr ⟨_,_,rfl,by assumption,q⟩
  ·exact q.elim
 ·exact q.elim
theorem zm5_:Op2D K mIsNot E (isD rR):=by
 intro a b x y F H Q hs ha hb q;rcases zk5_ q with⟨rfl,c,e,q⟩|⟨c,e,rfl,z,q⟩
 ·cases DR.non (K:=K) (H:=F) hb
  cases zoA_ (c:=.no) ha e;exact gotB q hs
 ·have ha:=DR.un ha
  rw[z]at ha;cases ha.bl;cases DR.bl (K:=K) (H:=F) hb;exact gotB q hs
def flats:List D->Option (List V)
 |[]=>rP []|d::ds=>d.un.flat?.bind λx=>(flats ds).map λxs=>x::xs
theorem zgQ_:∀{ds:List D}{xs us:List V},flats ds=rP xs->DRs K ds us H->us=xs/\xs.all flatV=rR
 |[],_,_,e,h=>by cases e;unfold DRs at h;exact⟨h,rfl⟩
 |d::ds,_,_,e,h=>by
  unfold flats at e;unfold DRs at h;obtain⟨x,ex,e⟩:=jv.mp e;obtain⟨xs,exs,rfl⟩:=jz.mp e;obtain⟨v,vs,rfl,a,r⟩:=h;obtain⟨rfl,f1⟩:=zbH_ ex (DR.un a);obtain⟨rfl,f2⟩:=zgQ_ exs r;exact⟨rfl,by rw[jY,f1,f2];rfl⟩
def inSeq (neg:Bool)(a:D)(ys:List D):Mo D:=(Mo.opt (a.un.flat?.bind λx=>(flats ys).map λzs=>inV x zs)).bind λc=>.ok (.bl (if neg then !c else c))
def inD (neg:Bool)(a b:D):Mo D:=match b.un with
 |.str t=>(match a.un with |.str l=>.ok (.bl (if neg then !inS l t else inS l t))|_=>.no)|.nd .lst ys=>inSeq neg a ys|.nd .tup ys=>inSeq neg a ys|.nd .ktup ys=>inSeq neg a ys|_=>.no
theorem zh1_ {neg:Bool}{a:D}{ys:List D}{x:V}(hs:Same F H)(ha:DR K a x F)(n:SqL K H p us\/SqT K H p us)(r:DRs K ys us F)(q:After K (inSeq neg a ys) E F H (OwnK (owD K) H Q)):mIn K neg x (.ref p) H Q:=by
 unfold inSeq at q;cases e:(a.un.flat?.bind λx=>(flats ys).map λzs=>inV x zs)with
 |none=>rw[e]at q;exact q.elim|some c=>
  rw[e]at q;obtain⟨x',ex,e⟩:=jv.mp e;obtain⟨zs,ez,rfl⟩:=jz.mp e;obtain⟨rfl,f1⟩:=zbH_ ex (DR.un ha);obtain⟨rfl,f2⟩:=zgQ_ ez r;exact⟨us,n,f1,f2,gotB q hs⟩
theorem od_in {neg:Bool}:Op2D K (mIn K neg) E (inD neg):=by
 intro a b x y F H Q hs ha hb q;have hb:=DR.un hb;unfold inD at q;split at q
 ·rename_i l e;rw[e]at hb;cases hb.str
  have ha:=DR.un ha;split at q
  ·rename_i e;rw[e]at ha;cases ha.str;exact gotB q hs
  ·exact q.elim
 ·rename_i e;rw[e]at hb;obtain⟨p,us,rfl,n,r⟩:=hb.nd;exact zh1_ hs ha (.inl (.of (hs _ _ n))) r q
 ·rename_i e;rw[e]at hb;obtain⟨p,us,rfl,n,r⟩:=hb.nd;exact zh1_ hs ha (.inr (.of (hs _ _ n))) r q
 ·rename_i e;rw[e]at hb;obtain⟨p,us,rfl,n,r⟩:=hb.nd;exact zh1_ hs ha (.inr (.inr n)) r q
 ·exact q.elim
def intD (d:D):Mo Int:=match d.un with |.int i=>.ok i |_=>.no
theorem ep_x (hx:EvX K t E env r):EvP K (mPart t) E (Lof K env) (r.bind λd=>(intD d).bind λi=>.ok (rP i)):=by
 intro σ F H Q hL hs q;refine ex_v hx σ F H _ hL hs (q.bind.imp λa F1 H1 x1 k1 v1 aM=>?_)
 have ha:=DR.un aM;unfold intD at k1;split at k1
 ·rename_i i e;rw[e]at ha;cases ha.int;exact k1.ok x1.2.1
 ·exact k1.elim
def slD (a:D)(lo hi:Option Int):Mo D:=match a.un with
 |.str l=>.lim l.length (.ok (.str (cutG l lo hi)))|.nd .lst xs=>.ok (.nd .lst ((cutG xs lo hi).map .vw))|.nd .scr xs=>.ok (.nd .lst ((cutG xs lo hi).map .vw))|_=>.no
def OwnKs (K:jG)(H:Hp)(Q:List V->Hp->Prop)(ds:List D)(F' H':Hp):Prop:=∀vs h,(∀p,h p≠rQ->H p=rQ)->Dj F' h->Same h H'->ODs K ds vs F' h->Q vs H'
def EvAs (K:jG)(t:TA)(E:XK)(env:Env)(r:Mo (List D)):Prop:=∀σ F H (Q:List V->Hp->Prop),HoldF (Lof K env) σ F->Same F H->After K r E F H (OwnKs K H Q)->t σ H Q
abbrev csD (K:jG):Cs (List D):=⟨DRs K,λg h=>h.mono g⟩
theorem zgS_:EvAs K tNil E env (.ok []):=λσ F H Q hL hs q=>q.ok hs [] (λ_=>rQ) (λp z=>absurd rfl z) (λp=>.inr rfl) (λp o z=>by cases z) (by unfold ODs;exact⟨rfl,λ_=>rfl⟩)
theorem zkX_ (x:Ext F H F' H')(d:Dj F h)(s:Same h H):Dj F' h:=λp=>by
 cases z:h p with
 |none=>exact .inr rfl|some o=>
  left;rcases d p with y |y
  ·cases w:F' p with
   |none=>rfl|some o'=>have:=x.2.2.2 p y (by rw[w];exact sN _);rw[s _ _ z]at this;cases this
  ·rw[y]at z;cases z
theorem zax_ (h1:EvX K t E env r)(h2:EvAs K ta E env ra):EvAs K (tCons t ta) E env (r.bind λa=>ra.bind λas=>.ok (a::as)):=by
 intro σ F H Q hL hs q;refine h1 σ F H _ hL hs (q.bind.imp λa F1 H1 x1 k1 v k aQ cz s1 o1=>?_)
 refine h2 σ F1 H1 _ (hL.mono x1.1) x1.2.1 (k1.bind.imp λas F2 H2 x2 k2 vs k' dP fU s2 o2=>?_)
 have d1:Dj k k':=λp=>by
  cases z:k p with
  |none=>exact .inl rfl|some o=>
   right;cases y:k' p with
   |none=>rfl|some o'=>have:=dP p (by rw[y];exact sN _);rw[s1 _ _ z]at this;cases this
 refine k2.ok x2.2.1 (v::vs) (un k k') (λp z=>?_) (λp=>?_) (λp o z=>?_) ?_
 ·unfold un at z
  cases y:k p with
  |some o=>exact aQ p (by rw[y];exact sN _)|none=>rw[y]at z;exact x1.2.2.1.free (dP p z)
 ·unfold un
  cases y:k p with
  |some o=>
   rcases zkX_ x2 cz s1 p with w |w
   ·exact .inl w
   ·rw[y]at w;cases w
  |none=>exact fU p
 ·unfold un at z
  cases y:k p with
  |some o'=>rw[y]at z;cases z;exact x2.2.2.1 _ _ (s1 _ _ y)|none=>rw[y]at z;exact s2 _ _ z
 ·unfold ODs
  exact⟨v,vs,k,k',rfl,zad_ d1,o1.mono x2.1,o2⟩
theorem zcm_ (h:EvAs K ta E env ra):EvA K ta E (Lof K env) ra (csD K):=by
 intro σ F H Q hL hs q;refine h σ F H Q hL hs ?_;cases ra with
 |ok a=>
  intro F' H' x vs h' fresh d s o;refine q (un F' h') H' ⟨x.1.trans z2_,λp o e=>?_,x.2.2.1,λp a b=>?_⟩ vs (OD.view.go z2_ (zcu_ d) o)
  ·unfold un at e
   cases z:F' p with
   |some w=>rw[z]at e;cases e;exact x.2.1 _ _ z|none=>rw[z]at e;exact s _ _ e
  ·unfold un at b
   cases z:F' p with
   |some w=>exact x.2.2.2 p a (by rw[z];exact sN _)|none=>rw[z]at b;exact fresh p b
 |ex c=>exact q|no=>exact q
theorem ODs.len:∀{ds:List D}{us:List V}{h:Hp},ODs K ds us F h->ds.length=us.length
 |[],_,_,q=>by unfold ODs at q;rw[q.1];rfl
 |d::ds,_,_,q=>by unfold ODs at q;obtain⟨v,vs,h1,h2,rfl,j,a,r⟩:=q;rw[jg,jg,ODs.len r]
theorem zn1_ (h:EvAs K ta E env ra):EvX K (tTup ta) E env (ra.bind λds=>.lim ds.length (.ok (.nd .tup ds))):=by
 intro σ F H Q hL hs q;refine h σ F H _ hL hs (q.bind.imp λds F1 H1 x1 k1 vs k aQ cz s1 o1=>?_)
 obtain⟨c,k1⟩:=k1.lim;rw[ODs.len o1]at c;refine⟨c,λp hp=>?_⟩
 have nk:k p=rQ:=by
  cases z:k p with
  |none=>rfl|some o=>rw[s1 _ _ z]at hp;cases hp
 have y:=Ext.new x1.2.1 (o:=.tup vs) hp;refine k1 _ _ y (.ref p) k aQ (zkX_ y cz s1) (s1.trans (zF_ hp _)) ?_;show OD K _ _ _ _
 unfold OD;exact⟨p,vs,λ_=>rQ,k,rfl,⟨zj_,λ_=>rfl⟩,λq=>.inl ⟨rfl,rfl⟩,OD.mono.go y.1 o1⟩
theorem zmt_ (h:EvAs K ta E env ra):EvX K (tLst ta) E env (ra.bind λds=>.lim ds.length (.ok (.nd .lst ds))):=by
 intro σ F H Q hL hs q;refine h σ F H _ hL hs (q.bind.imp λds F1 H1 x1 k1 vs k aQ cz s1 o1=>?_)
 obtain⟨c,k1⟩:=k1.lim;rw[ODs.len o1]at c;refine⟨c,λp hp=>?_⟩
 have nk:k p=rQ:=by
  cases z:k p with
  |none=>rfl|some o=>rw[s1 _ _ z]at hp;cases hp
 have d1:Dj (one p (.lst vs)) k:=λq=>by
  rw[ze_];split
  ·rename_i e;rw[e];exact .inr nk
  ·exact .inl rfl
 refine k1 F1 _ (.heap x1.2.1 (zF_ hp _)) (.ref p) (un (one p (.lst vs)) k) (λq z=>?_) (λq=>?_) (λq o z=>?_) ?_
 ·unfold un at z;rw[ze_]at z
  by_cases e:q=p
  ·subst e;exact x1.2.2.1.free hp
  ·rw[if_neg e]at z;exact aQ q z
 ·unfold un;rw[ze_]
  by_cases e:q=p
  ·subst e;exact .inl (x1.2.1.free hp)
  ·rw[if_neg e];exact cz q
 ·unfold un at z;rw[ze_]at z
  by_cases e:q=p
  ·subst e;rw[if_pos rfl]at z;cases z;exact zj_
  ·rw[if_neg e]at z;rw[zv_ e];exact s1 _ _ z
 ·show OD K _ _ _ _
  unfold OD;exact⟨p,vs,_,k,rfl,rfl,zad_ d1,o1⟩
abbrev BlD (K:jG)(m:List V->Hp->VK->Prop)(E:XK)(g:List D->Mo D):Prop:=BlO K m E (csD K) g (owD K)
theorem ex_cb {m:List V->Hp->VK->Prop}{g:List D->Mo D}(o:BlD K m E g)(h:EvAs K ta E env ra):EvX K (tCB m ta) E env (ra.bind g):=zmP_ o (zcm_ h)
theorem DRs.one (h:DRs K [d] us H):∃v,us=[v]/\DR K d v H:=by
 unfold DRs at h;obtain⟨v,vs,rfl,a,r⟩:=h;unfold DRs at r;subst r;exact⟨v,rfl,a⟩
def on1 (f:D->Mo D)(ds:List D):Mo D:=match ds with |[d]=>f d.un |_=>.no
theorem zdW_ {m:List V->Hp->VK->Prop}{f:D->Mo D}(h:∀d v F H (Q:VK),Same F H->DR K d v F->After K (f d) E F H (OwnK (owD K) H Q)->m [v] H Q):BlD K m E (on1 f):=by
 intro ds vs F H Q hs hd q;unfold on1 at q;split at q
 ·obtain⟨v,rfl,a⟩:=DRs.one hd;exact h _ _ F H Q hs (DR.un a) q
 ·exact q.elim
def lenD:List D->Mo D:=on1 λd=>match d with
 |.str l=>.lim l.length (.ok (.int l.length))|.nd .lst xs=>.ok (.int xs.length)|.nd .tup xs=>.ok (.int xs.length)|.nd .scr xs=>.ok (.int xs.length)|.nd .ktup xs=>.ok (.int xs.length)|_=>.no
theorem zmf_:BlD K (mLen K) E lenD:=zdW_ λd v F H Q hs hd q=>by
 split at q
 ·cases hd.str;obtain⟨c,q⟩:=q.lim;exact⟨c,gotI q hs⟩
 ·obtain⟨p,us,rfl,n,r⟩:=hd.nd;exact⟨us,.inl (.of (hs _ _ n)),by rw[<- r.len];exact gotI q hs⟩
 ·obtain⟨p,us,rfl,n,r⟩:=hd.nd;exact⟨us,.inr (.of (hs _ _ n)),by rw[<- r.len];exact gotI q hs⟩
 ·obtain⟨p,us,rfl,n,r⟩:=hd.nd;exact⟨us,.inl (hs.seq n),by rw[<- r.len];exact gotI q hs⟩
 ·obtain⟨p,us,rfl,n,r⟩:=hd.nd;exact⟨us,.inr (.inr n),by rw[<- r.len];exact gotI q hs⟩
 ·exact q.elim
def dlenD:List D->Mo D:=on1 λd=>match d with |.nd (.dct ks) xs=>.ok (.int xs.length)|_=>.no
def mLenR:List V->Hp->VK->Prop:=λxs H Q=>match xs with |[.ref a]=>∃kvs,Rd H a (.dK kvs)/\Q (.int kvs.length) H |_=>False
theorem zfz_ {X:Cx}:CallR X (.builtin "len") mLenR:=by
 intro pins s σ H xs us Q I r h;unfold mLenR at h;split at h
 ·rename_i a
  obtain⟨kvs,ha,q⟩:=h;obtain⟨u,rfl,ru⟩:=vals1 r;cases ru;exact d_len I ha λt s' I'=>⟨.int kvs.length,H,I',⟨t,rfl⟩,q⟩
 ·exact h.elim
theorem zjo_:BlD K mLenR E dlenD:=zdW_ λd v F H Q hs hd q=>by
 split at q
 ·rename_i ks xs
  obtain⟨p,us,rfl,n,r⟩:=hd.nd;refine⟨_,zb2_ hs n.1,?_⟩;rw[show(ks.zip us).length=xs.length from by rw[lX,n.2.1,mB,r.len]]
  exact gotI q hs
 ·exact q.elim
def strD:List D->Mo D:=on1 λd=>match d with |.int i=>.grd (i.natAbs.log2<1920) (.ok (.str (strI i)))|_=>.no
theorem zmV_:BlD K mStr E strD:=zdW_ λd v F H Q hs hd q=>by
 split at q
 ·cases hd.int;obtain⟨c,q⟩:=q.grd;exact⟨c,gotS q hs⟩
 ·exact q.elim
abbrev MeD (K:jG)(m:V->List V->Hp->VK->Prop)(E:XK)(g:List Nat->List D->Mo D):Prop:=MeO K m E (csD K) g (owD K)
def strOf (d:D):Mo (List Nat):=match d.un with |.str l=>.ok l |_=>.no
theorem ex_me {m:V->List V->Hp->VK->Prop}{g:List Nat->List D->Mo D}(o:MeD K m E g)(h0:EvX K t E env r)(h:EvAs K ta E env ra):EvX K (tBM K "str" m t ta) E env (r.bind λd=>(strOf d).bind λl=>ra.bind λc=>g l c):=by
 intro σ F H Q hL hs q;refine ex_v h0 σ F H _ hL hs (q.bind.imp λd F1 H1 x1 k1 v hv=>?_)
 have ha:=DR.un hv;unfold strOf at k1;split at k1
 ·rename_i l e;rw[e]at ha;cases ha.str
  refine⟨?_,?_⟩
  ·exact rfl
  ·refine zcm_ h σ F1 H1 _ (hL.mono x1.1) x1.2.1 (After.imp (After.bind (show After K (ra.bind λc=>g l c) E F1 H1 _ from k1)) λc F2 H2 x2 k2 vs a9=>?_)
   exact o l c vs F2 H2 Q x2.2.1 a9 (k2.imp λa F3 H3 x3 k3=>k3.back (x1.2.2.1.trans x2.2.2.1))
 ·exact k1.elim
end
noncomputable def Nd.own:Nd->Bool
 |.scr=>rS |.ktup=>rS |.exc _=>rS |_=>rR
def D.at:D->List Nat->Option D
 |d,[]=>rP d|.nd k ds,i::js=>bif k.own then ds[i]?.bind λd=>d.at js else rQ|_,_=>rQ
theorem zaz_ {k:Nd}{ds:List D}{j:Nat}{js:List Nat}:(D.nd k ds).at (j::js)=bif k.own then ds[j]?.bind λd=>d.at js else rQ:=by rw[D.at]
def kidsO:HO->List V
 |.tup us=>us |.lst us=>us |.dK kvs=>kvs.map (·.2)|.frz _ (.dK kvs)=>kvs.map (·.2)|.ins _ _ fs=>fs.map (·.2)|_=>[]
def vAt (H:Hp):V->List Nat->Option V
 |v,[]=>rP v|v,j::js=>(match v with |.ref p=>(H p).bind λo=>(kidsO o)[j]? |_=>rQ).bind λw=>vAt H w js
noncomputable def D.put:D->List Nat->D->D
 |_,[],x=>x|.nd k ds,i::js,x=>(match ds[i]? with |some d=>.nd k (ds.set i (d.put js x))|none=>.nd k ds)|d,_,_=>d
section
variable {K:j3}{F F' h h1 h2 H H':Hp}{d:D}{ds:List D}{v:V}{us:List V}{k:Nd}{p:i9}
theorem ODs.focus:∀{ds:List D}{us:List V}{h:Hp}{i:Nat}{c:D},ODs K ds us F h->ds[i]?=rP c ->
  ∃u h1 h2,us[i]?=rP u/\Jn h1 h2 h/\OD K c u F h1/\∀c' F' u' h1' h',Same F F'->OD K c' u' F' h1'->Jn h1' h2 h'->ODs K (ds.set i c') (us.set i u') F' h'
 |[],_,_,_,_,_,e=>by simp at e
 |d::ds,_,h,0,c,q,e=>by
  unfold ODs at q;obtain⟨v,vs,h1,h2,rfl,j,a,r⟩:=q;simp at e;subst e;refine⟨v,h1,h2,rfl,j,a,λc' F' u' h1' h' g o j'=>?_⟩
  rw[lV,lV];unfold ODs;exact⟨u',vs,h1',h2,rfl,j',o,OD.mono.go g r⟩
 |d::ds,_,h,i+1,c,q,e=>by
  unfold ODs at q;obtain⟨v,vs,h1,h2,rfl,j,a,r⟩:=q;obtain⟨u,k1,k2,e1,j1,o1,f⟩:=ODs.focus r (by simpa using e)
  obtain⟨m,jm,jh⟩:=zp_ j1 (zai_ j);refine⟨u,k1,m,by simpa using e1,jh,o1,λc' F' u' bJ h' g o' j'=>?_⟩
  rw[lG,lG];unfold ODs;exact⟨v,vs.set i u',h1,un bJ k2,rfl,jn_re jm j',a.mono g,f c' F' u' bJ _ g o' (zad_ (dj_of jm j'))⟩
theorem zbT_ {α:Type}{l:List α}{i:Nat}{x:α}(h:l[i]?=rP x):l.set i x=l:=zhU_ h
theorem Cell.same (g:Same F F')(c:Cell K k p us F h):Cell K k p us F' h:=c.mono g.tups
theorem zio_ {k:Nd}(hk:k.own=rR)(n:NdR K k p us H):∃o,H p=rP o/\kidsO o=us:=by
 cases k with
 |tup=>exact⟨_,n,rfl⟩|lst=>exact⟨_,n,rfl⟩|dct ks=>exact n.1.elim (λe=>⟨_,e,oz (nB n.2.1.symm)⟩) λ⟨_,e⟩=>⟨_,e,oz (nB n.2.1.symm)⟩|obj c ns=>obtain⟨dx,e,l⟩:=n;exact⟨_,e,oz (nB l.symm)⟩|_=>cases hk
theorem zbh_ (g:Same H H'):∀{js:List Nat}{v u:V},vAt H v js=rP u->vAt H' v js=rP u
 |[],_,_,h=>h|j::js,v,u,h=>by
  unfold vAt at h ⊢;obtain⟨w,hw,h2⟩:=jv.mp h;clear h;cases v with
  |ref p=>
   obtain⟨o,ho,hw⟩:=jv.mp hw;dsimp only;rw[g _ _ ho];exact jv.mpr ⟨w,hw,zbh_ g h2⟩
  |_=>cases hw
theorem zeE_ {k:Nd}{j:Nat}{js:List Nat}{w u:V}(hk:k.own=rR)(n:NdR K k p us H)(hw:us[j]?=rP w)(h:vAt H w js=rP u):vAt H (.ref p) (j::js)=rP u:=by
 obtain⟨o,ho,e⟩:=zio_ hk n;unfold vAt;dsimp only;rw[ho];exact jv.mpr ⟨w,by rw[<- e]at hw;exact hw,h⟩
theorem zcR_ {k:Nd}{j:Nat}{w:V}(hk:k.own=rR)(n:NdR K k p us H)(hw:us[j]?=rP w):∀{js:List Nat}{v:V},vAt H v js=rP (.ref p)->vAt H v (js++[j])=rP w
 |[],_,h=>by cases h;exact zeE_ hk n hw rfl
 |i::js,v,h=>by
  rw[lq];unfold vAt at h ⊢;obtain⟨x,hx,h⟩:=jv.mp h;exact jv.mpr ⟨x,hx,zcR_ hk n hw h⟩
theorem OD.focus:∀{js:List Nat}{d:D}{v:V}{h:Hp}{c:D},OD K d v F h->d.at js=rP c ->
  ∃u h1 h2,(∀H,Same F H->Same h H->vAt H v js=rP u)/\Jn h1 h2 h/\OD K c u F h1/\∀c' F' h1' h',Same F F'->OD K c' u F' h1'->Jn h1' h2 h'->OD K (d.put js c') v F' h'
 |[],d,v,h,c,q,e=>by
  unfold D.at at e;cases e;refine⟨v,h,λ_=>rQ,λH _ _=>rfl,λp=>.inr ⟨rfl,rfl⟩,q,λc' F' h1' h' g o j=>?_⟩
  unfold D.put;have:h'=h1':=by
   funext p;rcases j p with⟨a,b⟩|⟨a,b⟩
   ·rw[a,b]
   ·exact b
  rw[this];exact o
 |i::js,.nd k ds,v,h,c,q,e=>by
  rw[zaz_]at e;cases hk:k.own with
  |false=>rw[hk]at e;cases e|true=>
  rw[hk,cond_true]at e;obtain⟨d',e1,e2⟩:=jv.mp e;unfold OD at q;obtain⟨p,us,h0,hr,rfl,cl,j,r⟩:=q;obtain⟨u1,k1,k2,eu,jk,o1,f⟩:=ODs.focus r e1;obtain⟨u,m1,m2,vp,jm,o2,g⟩:=OD.focus o1 e2;obtain⟨a,ja,jb⟩:=zp_ jm jk;obtain⟨b,jc,jd⟩:=zp_ jb (zai_ j);refine⟨u,m1,b,λH s1 s2=>zeE_ hk (cl.nd s1 (j.l.trans s2)) eu (vp H s1 (jk.l.trans (j.r.trans s2))),jd,o2,λc' F' h1' h' s o' j'=>?_⟩
  unfold D.put;rw[e1];dsimp only;unfold OD;have d1:Dj h1' a:=λq=>by
   rcases j'.dj q with z |z
   ·exact .inl z
   ·exact .inr (jc.l.free z)
  have d2:Dj h1' m2:=λq=>by
   rcases d1 q with z |z
   ·exact .inl z
   ·exact .inr (ja.l.free z)
  have jx:Jn (un h1' m2) k2 (un h1' a):=λq=>by
   unfold un;rcases ja q with⟨z,w⟩|⟨z,w⟩
   ·rw[z]
    cases y:h1' q with
    |none=>left;exact⟨rfl,w⟩|some o=>
     right;rcases d1 q with t |t
     ·rw[t]at y;cases y
     ·rw[w]at t;exact⟨t,rfl⟩
   ·right
    refine⟨z,?_⟩;cases y:h1' q with
    |none=>exact w|some o=>rfl
  have on:=g c' F' h1' (un h1' m2) s o' (zad_ d2);have rn:=f _ F' u1 _ (un h1' a) s on jx;rw[zbT_ eu]at rn;refine⟨p,us,h0,un h1' a,rfl,cl.same s,?_,rn⟩;intro q;unfold un;rcases j' q with⟨z,w⟩|⟨z,w⟩
  ·rw[z,w]
   rcases jc q with⟨y,t⟩|⟨y,t⟩
   ·right;exact⟨y,t⟩
   ·left;exact⟨y,t⟩
  ·rw[w]
   have z0:h0 q=rQ:=jc.r.free z;left;refine⟨z0,?_⟩;cases y:h1' q with
   |none=>exact(jc.l.free z).symm|some o=>rfl
 |_::_,.non,_,_,_,_,e=>by simp[D.at]at e
 |_::_,.bl _,_,_,_,_,e=>by simp[D.at]at e
 |_::_,.int _,_,_,_,_,e=>by simp[D.at]at e
 |_::_,.str _,_,_,_,_,e=>by simp[D.at]at e
 |_::_,.fz _,_,_,_,_,e=>by simp[D.at]at e
 |_::_,.pin _,_,_,_,_,e=>by simp[D.at]at e
 |_::_,.gone,_,_,_,_,e=>by simp[D.at]at e
theorem Hold.atG:∀{L:List Sl}{σ:L2.St}{h:Hp}{i:Nat}{s:Sl},Hold L σ F h->L[i]?=rP s ->
  ∃o h1 h2,σ[i]?=rP o/\Jn h1 h2 h/\s.P o F h1/\∀s' o' F' h1' h',Same F F'->s'.P o' F' h1'->Jn h1' h2 h'->Hold (L.set i s') (σ.set i o') F' h'
 |[],_,_,_,_,_,e=>by simp at e
 |s::L,[],_,_,_,q,_=>q.elim
 |s::L,o::σ,h,0,t,q_,e=>by
  obtain⟨h1,h2,j,p,r⟩:=q_;simp at e;subst e;exact⟨o,h1,h2,rfl,j,p,λs' o' F' h1' h' g p' j'=>⟨h1',h2,j',p',r.mono g⟩⟩
 |s::L,o::σ,h,i+1,t,q_,e=>by
  obtain⟨h1,h2,j,p,r⟩:=q_;obtain⟨o1,k1,k2,e1,j1,p1,f⟩:=Hold.atG r (by simpa using e)
  obtain⟨m,jm,jh⟩:=zp_ j1 (zai_ j);exact⟨o1,k1,m,by simpa using e1,jh,p1,λs' o' F' bJ h' g gN j'=>⟨h1,un bJ k2,jn_re jm j',p.mono g,f s' o' F' bJ _ g gN (zad_ (dj_of jm j'))⟩⟩
theorem Hold.more:∀{L:List Sl}{σ:L2.St}{h g h':Hp},Hold L σ F h->Jn g h h'->Hold L σ F h'
 |[],[],_,_,_,_,_=>trivial|s::L,[],_,_,_,q,_=>q.elim|[],_::_,_,_,_,q,_=>q.elim|s::L,o::σ,h,g,h',q_,j'=>by
  obtain⟨h1,h2,j,p,r⟩:=q_;obtain⟨m,jm,jh⟩:=zp_ j (zai_ j');exact⟨h1,m,jh,p,Hold.more r (zai_ jm)⟩
noncomputable abbrev Ws:=Nat->Option V
def slotW (K:jG)(w:Option V)(o:Option D):Sl:=match o with
 |none=>.dead|some d=>(match w with |none=>.ow (owD K) d |some u=>.ow (owAt u (owD K)) d)
abbrev LofW (K:jG)(ws:Ws)(env:Env):List Sl:=env.mapIdx λi o=>slotW K (ws i) o
variable {ws:Ws}{env:Env}{σ:L2.St}{i:Nat}{js:List Nat}{c:D}
theorem z4_ {o:Option D}(ho:env[i]?=rP o):(LofW K ws env)[i]?=rP (slotW K (ws i) o):=by
 rw[l8,ho];rfl
theorem zbO_ {o:Option D}:(LofW K ws env).set i (slotW K (ws i) o)=LofW K ws (env.set i o):=by
 refine nU λj=>?_
 rw[lb,l8,l8,lb,mR];by_cases e:i=j
 ·subst e;rw[if_pos rfl,if_pos rfl];split<;>rfl
 ·rw[if_neg e,if_neg e]
theorem zlS_ {w:Option V}{o:Option D}{x:Option V}(h:(slotW K w o).Z x F):(slot K o).Z x F:=by
 cases o with
 |none=>trivial|some d=>cases w with |none=>exact h |some u=>exact h
theorem zaL_ (h:HoldF (LofW K ws env) σ F):HoldF (Lof K env) σ F:=by
 intro i s e;rw[jB]at e;cases z:env[i]? with
 |none=>rw[z]at e;cases e|some o=>
  rw[z]at e;cases e;exact zlS_ (h i _ (z4_ z))
theorem zbc_ {w:Option V}{d:D}{x:Option V}(h:(slotW K w (rP d)).P x F h1):∃v,x=rP v/\(∀u,w=rP u->v=u)/\OD K d v F h1:=by
 cases w with
 |none=>obtain⟨v,e,o⟩:=h;exact⟨v,e,(λu z=>by cases z),o⟩|some u=>obtain⟨v,e,z,o⟩:=h;exact⟨v,e,(λu' y=>by cases y;exact z),o⟩
theorem zbL_ {w:Option V}{d:D}{v:V}(hw:∀u,w=rP u->v=u)(o:OD K d v F h1):(slotW K w (rP d)).P (rP v) F h1:=by
 cases w with
 |none=>exact⟨v,rfl,o⟩|some u=>exact⟨v,rfl,hw u rfl,o⟩
theorem zaA_ (hL:Hold (LofW K ws env) σ F h)(hi:env[i]?=rP (rP d))(hc:d.at js=rP c):
  ∃v u h1 h2,σ[i]?=rP (rP v)/\(∀H,Same F H->Same h H->vAt H v js=rP u)/\Jn h1 h2 h/\OD K c u F h1/\∀c' F' h1' h',Same F F'->OD K c' u F' h1'->Jn h1' h2 h'->Hold (LofW K ws (env.set i (rP (d.put js c')))) σ F' h':=by
 obtain⟨o,k1,k2,e1,j,pp,f⟩:=Hold.atG hL (z4_ hi);obtain⟨v,rfl,hv,od⟩:=zbc_ pp;obtain⟨u,m1,m2,vp,jm,o1,g⟩:=od.focus hc;obtain⟨a,ja,jb⟩:=zp_ jm j;refine⟨v,u,m1,a,e1,(λH s1 s2=>vp H s1 (j.l.trans s2)),jb,o1,λc' F' h1' h' s o' j'=>?_⟩
 have d1:Dj h1' m2:=λq=>by
  rcases j'.dj q with z |z
  ·exact .inl z
  ·exact .inr (ja.l.free z)
 have:=f (slotW K (ws i) (rP (d.put js c'))) (rP v) F' (un h1' m2) h' s (zbL_ hv (g c' F' h1' _ s o' (zad_ d1))) ?_
 ·rw[zbO_,zbT_ e1]at this;exact this
 ·intro q
  unfold un;rcases j' q with⟨z,w⟩|⟨z,w⟩
  ·rw[z,w]
   rcases ja q with⟨y,t⟩|⟨y,t⟩
   ·left;exact⟨y,t⟩
   ·right;exact⟨y,t⟩
  ·rw[w]
   have z0:k2 q=rQ:=ja.r.free z;right;refine⟨z0,?_⟩;cases y:h1' q with
   |none=>exact(ja.l.free z).symm|some o=>rfl
end
inductive Mr (s α:Type) where
 |ok (a:α) (t:s)|ex (c:Xc) (t:s)|no
noncomputable abbrev Fn:=List D->Mr (List D) D
def Fn.val (f:Fn)(ds:List D):Mo D:=match f ds with |.ok d _=>.ok d |.ex c _=>.ex c |.no=>.no
section
variable {K:j3}{E:XK}{F F' F0 H0 h h1 h2 H H':Hp}{d:D}{ds:List D}{v:V}{us vs:List V}{k:Nd}{p:i9}{Q:VK}{env:Env}{t:TE}{r:Mo D}{ta:TA}{ra:Mo (List D)}{f:Fn}
def FinC (K:jG)(r:Mr (List D) D)(E:XK)(F0 H0:Hp)(vs:List V)(Q:VK):Prop:=match r with
 |.ok d ds=>∀v F h H hr h2,Okk F0 H0 F h H->Jn hr h2 h->OD K d v F hr->ODs K ds vs F h2->Q v H|.ex c ds=>∀F h H,Okk F0 H0 F h H->ODs K ds vs F h->Tell K E c H0 F H|.no=>False
def CtG (K:jG)(f:Fn):Sp:=λvs H Q E=>∃F h ds,Same F H/\Dj F h/\Same h H/\ODs K ds vs F h/\FinC K (f ds) E F (less H h) vs Q
theorem zi1_ (hn:∀p,h p=rQ):less H h=H:=funext λp=>z9_ (hn p)
theorem zbM_ (hs:Same F H)(hd:DRs K ds vs F)(q:After K (f.val (ds.map D.vw)) E F H (OwnK (owD K) H Q)):CtG K f vs H Q E:=by
 refine⟨F,λ_=>rQ,ds.map D.vw,hs,λ_=>.inr rfl,(λp o z=>by cases z),ODs.vw (λ_=>rfl) hd,?_⟩
 rw[zi1_ λ_=>rfl]
 unfold Fn.val at q;cases e:f (ds.map D.vw)with
 |no=>rw[e]at q;exact q|ok d ds'=>
  rw[e]at q;intro v F' h' H' hr h2 ok j o _;refine q F' H' ok.1 v hr (λp z=>ok.2.2.2.1 p ?_) (dj_l ok.2.1 j) (j.l.trans ok.2.2.1) o
  cases y:hr p with
  |none=>exact absurd y z|some w=>rw[j.l _ _ y];exact sN _
 |ex c ds'=>rw[e]at q;exact λF' h' H' ok _=>q F' H' ok.1
theorem zky_ (h:EvAs K ta E env ra):EvX K (tCall (CtG K f) [] E ta) E env (ra.bind λds=>f.val (ds.map D.vw)):=by
 intro σ F H Q hL hs q;refine zcm_ h σ F H _ hL hs (q.bind.imp λds F1 H1 x1 k1 vs a9=>?_)
 rw[ko];exact zbM_ x1.2.1 a9 (k1.imp λr F2 H2 x2 k2=>k2.back x1.2.2.1)
theorem zbG_:∀{ns:List Str}{us:List V}{f:Str}{v:V},us[ns.idxOf f]?=rP v->ns.length=us.length->(ns.zip us).lookup f=rP v
 |[],us,f,v,h,l=>by cases us with |nil=>simp at h |cons=>simp at l
 |n::ns,[],f,v,h,l=>by simp at l
 |n::ns,u::us,f,v,h,l=>by
  rw[jR,oy];by_cases e:n=f
  ·subst e;simp at h;simp[h]
  ·rw[oV,show(n == f)=rS from beq_eq_false_iff_ne.mpr e,cond_false,mj]at h
   rw[show(f == n)=rS from beq_eq_false_iff_ne.mpr λz=>e z.symm]
   exact zbG_ h (by simpa using l)
def tFld (K:jG)(cs:List Str)(t:TE)(f:Str):TE:=λσ H Q=>∃c∈cs,mFld (gA K c) t f σ H Q
def fldD (cs:List Str)(f:Str)(d:D):Mo D:=match d.un with
 |.nd (.obj c ns) ds=>if c∈cs then .opt ((ds[ns.idxOf f]?).map .vw)else .no
 |_=>.no
theorem zoa_ {cs:List Str}{f:Str}(h0:cs≠[])(hx:EvX K t E env r):EvX K (tFld K cs t f) E env (r.bind (fldD cs f)):=by
 intro σ F H Q hL hs q;have main:∀c∈cs,(∀d,r=.ok d->∃ns ds,d.un=.nd (.obj c ns) ds)->tFld K cs t f σ H Q:=λc hc hd=>⟨c,hc,by
  refine ex_v hx σ F H _ hL hs ?_;cases e:r with
  |no=>rw[e]at q;exact q|ex x=>rw[e]at q;exact q|ok d=>
   obtain⟨ns,ds,e2⟩:=hd d e;rw[e]at q;intro F1 H1 x1 v hv;have hv:=DR.un hv;rw[e2]at hv;obtain⟨p,us,rfl,⟨dx,hp,l⟩,rs⟩:=hv.nd;have q:After K (fldD cs f d) E F H _:=q;unfold fldD at q;rw[e2]at q;dsimp only at q;rw[if_pos hc]at q;obtain⟨d',e3,q⟩:=q.opt;obtain⟨d0,e4,rfl⟩:=jz.mp e3;rcases rs.get (ns.idxOf f)with⟨z,_⟩|⟨d1,w,g1,g2,g3⟩
   ·rw[z]at e4;cases e4
   ·rw[g1]at e4;cases e4
    refine⟨dx,_,w,x1.2.1 _ _ hp,zbG_ g2 l,?_⟩;exact gotV (E:=E) (λF2 H2 x2=>(q F2 H2 (x1.trans x2)).back x1.2.2.1) x1.2.1 g3⟩
 cases e:r with
 |no=>rw[e]at q;exact q.elim|ok d=>
  rw[e]at q;have q':After K (fldD cs f d) E F H (OwnK (owD K) H Q):=q;unfold fldD at q';split at q'
  ·rename_i c ns ds e2
   by_cases hc:c∈cs
   ·exact main c hc λd' z=>by rw[e]at z;cases z;exact⟨ns,ds,e2⟩
   ·rw[if_neg hc]at q';exact q'.elim
  ·exact q'.elim
 |ex x=>
  cases cs with
  |nil=>exact absurd rfl h0|cons c cs=>exact main c (je ..) λd' z=>by rw[e]at z;cases z
def walkD (d:D):Mo (List D):=match d.un with
 |.str l=>.ok (l.map λc=>.str [c])|.nd .lst xs=>.ok xs|.nd .tup xs=>.ok xs|.nd .scr xs=>.ok xs|.nd .ktup xs=>.ok xs|_=>.no
theorem yl_L {F1:Hp}(hl:SqL K F1 p us)(r:DRs K ds us F1):Yl K (Itl K p) ds (tyD K) F1:=by
 refine⟨λi H x hH hx=>?_,λH hH=>⟨us,hH.seq hl,by rw[r.len];exact jt _⟩⟩
 rcases r.get i with⟨a,_⟩|⟨y,u,a,b,c⟩
 ·rw[a]at hx;cases hx
 ·rw[a]at hx;cases hx
  refine⟨⟨us,u,hH.seq hl,b⟩,?_⟩;rintro v H' ⟨rfl,z⟩ F hF cq;have e:=z us (hH.seq hl);rw[b]at e;cases e;exact⟨F,.refl cq,(tyD K).mono hF c⟩
theorem yl_T {F1:Hp}(hl:∀H,Same F1 H->SqT K H p us)(r:DRs K ds us F1):Yl K (Itt K p) ds (tyD K) F1:=by
 refine⟨λi H x hH hx=>?_,λH hH=>⟨us,hl H hH,by rw[r.len];exact jt _⟩⟩
 rcases r.get i with⟨a,_⟩|⟨y,u,a,b,c⟩
 ·rw[a]at hx;cases hx
 ·rw[a]at hx;cases hx
  refine⟨⟨us,u,hl H hH,b⟩,?_⟩;rintro v H' ⟨rfl,z⟩ F hF cq;have e:=z us (hl _ hH);rw[b]at e;cases e;exact⟨F,.refl cq,(tyD K).mono hF c⟩
def iAnyW (K:jG)(vs:List V)(σ:L2.St)(H1:Hp)(R:It->Hp->Prop):Prop:=match vs with |[x]=>iAny K (tC x) σ H1 R |_=>False
def WkW (K:jG)(E:XK)(wi:List V->L2.St->Hp->(It->Hp->Prop)->Prop)(g:List D->Mo (List D)):Prop:=
 ∀ds vs σ F1 H1 R,Same F1 H1->DRs K ds vs F1->After K (g ds) E F1 H1 (λxs F' H'=>∀J,Yl K J xs (tyD K) F'->R J H')->wi vs σ H1 R
theorem ei_w {wi:List V->L2.St->Hp->(It->Hp->Prop)->Prop}{g:List D->Mo (List D)}(w:WkW K E wi g)(hx:EvAs K ta E env ra):EvI K (λσ H R=>ta σ H λvs H1=>wi vs σ H1 R) E (Lof K env) (ra.bind g) (tyD K):=by
 intro σ F H R hL hs q;exact zcm_ hx σ F H _ hL hs (q.bind.imp λds F1 H1 x1 k1 vs hv=>w ds vs σ F1 H1 R x1.2.1 hv k1)
def walkA (ds:List D):Mo (List D):=match ds with |[d]=>walkD d |_=>.no
theorem w_any:WkW K E (iAnyW K) walkA:=by
 intro ds vs σ F1 H1 R x1 hv k1;unfold walkA at k1;split at k1
 rotate_left
 ·exact k1.elim
 obtain⟨v,rfl,aM⟩:=DRs.one hv;have ha:=DR.un aM;unfold walkD at k1;split at k1
 ·rename_i l e;rw[e]at ha;cases ha.str
  refine k1.ok x1 _ ⟨λi H x hH hx=>?_,λH hH=>?_⟩
  ·rw[jB]at hx
   cases e:l[i]? with
   |none=>rw[e]at hx;cases hx|some c=>
    rw[e]at hx;cases hx;have hi:=(jN.mp e).1;refine⟨hi,?_⟩;rintro v H' ⟨rfl,rfl⟩ F _ hF;refine⟨F,.refl hF,?_⟩;show DR K (.str [c]) (tx [l.getD i 0]) F
    rw[lA,e];unfold DR;rfl
  ·show l.length<=_
   rw[i7];exact jt _
 ·rename_i e;rw[e]at ha;obtain⟨p,us,rfl,n,r⟩:=ha.nd
  exact .inl ⟨⟨us,.of (x1 _ _ n)⟩,k1.ok x1 _ (yl_L (.of n) r)⟩
 ·rename_i e;rw[e]at ha;obtain⟨p,us,rfl,n,r⟩:=ha.nd
  exact .inr ⟨⟨us,.of (x1 _ _ n)⟩,k1.ok x1 _ (yl_T (λH hH=>.of (hH _ _ n)) r)⟩
 ·rename_i e;rw[e]at ha;obtain⟨p,us,rfl,n,r⟩:=ha.nd
  exact .inl ⟨⟨us,x1.seq n⟩,k1.ok x1 _ (yl_L n r)⟩
 ·rename_i e;rw[e]at ha;obtain⟨p,us,rfl,n,r⟩:=ha.nd
  exact .inr ⟨⟨us,.inr n⟩,k1.ok x1 _ (yl_T (λH hH=>.inr n) r)⟩
 ·exact k1.elim
theorem zj7_ {lo:Int}{n:Nat}{F1:Hp}:Yl K (Itr lo n) ((rngI lo n).map D.int) (tyD K) F1:=by
 have y:=znB_ (K:=K) (lo:=lo) (n:=n) (F1:=F1);refine⟨λi H x hH hx=>?_,λH hH=>by rw[i7];exact y.stop H hH⟩
 rw[jB]at hx;obtain⟨a,ha,rfl⟩:=jz.mp hx;obtain⟨g,z⟩:=y.go i H a hH ha;refine⟨g,λv H' q F hF cq=>?_⟩
 obtain⟨F',x',e⟩:=z v H' q F hF cq;exact⟨F',x',by show DR K _ _ _;unfold DR;exact e⟩
def rng1D (ds:List D):Mo (List D):=match ds with
 |[d]=>(intD d).bind λj=>.grd (-(2 ^ 62)<=j/\j<2 ^ 62) (.ok ((rngI 0 j.toNat).map .int))|_=>.no
theorem zkB_ {α:Type}{k:Int->Mo α}{kk:α->Hp->Hp->Prop}(q:After K ((intD d).bind k) E F H kk)(hd:DR K d v H'):∃i,v=.int i/\After K (k i) E F H kk:=by
 have hd:=DR.un hd;unfold intD at q;split at q
 ·rename_i i e;rw[e]at hd;exact⟨i,hd.int,q⟩
 ·exact q.elim
theorem w_rg1:WkW K E (λvs _ H1 R=>match vs with |[.int j] => -(2 ^ 62)<=j/\j<2 ^ 62/\R (Itr 0 j.toNat) H1 |_=>False) rng1D:=by
 intro ds vs σ F1 H1 R x1 hv k1;unfold rng1D at k1;split at k1
 ·obtain⟨v,rfl,a⟩:=DRs.one hv
  obtain⟨i,rfl,k1⟩:=zkB_ k1 a;obtain⟨z,k1⟩:=k1.grd;exact⟨z.1,z.2,k1.ok x1 _ zj7_⟩
 ·exact k1.elim
structure Tg where
 tup:Bool
 is:List Nat
def tgD (g:Tg)(d:D):Option (List D):=if g.tup then(match d.un with |.nd .tup ds=>if ds.length=g.is.length then rP ds else rQ |.nd .lst ds=>if ds.length=2/\g.is.length=2 then rP ds else rQ |_=>rQ)else if g.is.length=1 then rP [d]else rQ
def tgS:List Nat->TGs
 |[]=>gNilM|i::is=>gConsM (gName i) (tgS is)
def gTL (K:jG)(n:Nat)(t:TGs):TG:=λv σ H Q=>gTupM K n t v σ H Q\/n=2/\gLst2 K t v σ H Q
def tgT (K:jG)(g:Tg):TG:=if g.tup then gTL K g.is.length (tgS g.is)else gName (g.is.headD 0)
def tyTg (K:jG)(g:Tg):Ty (List D):=⟨λds v F=>ds.length=g.is.length/\if g.tup then∃p us,v=.ref p/\(F p=rP (.tup us)\/g.is.length=2/\F p=rP (.lst us))/\DRs K ds us F else DRs K ds [v] F,
 λ{ds v H H'} s q=>⟨q.1,by
  have q:=q.2;split at q
  ·rename_i e;rw[if_pos e];obtain⟨p,us,e1,e2,e3⟩:=q;exact⟨p,us,e1,e2.imp (s _ _) λz=>⟨z.1,s _ _ z.2⟩,e3.mono s⟩
  ·rename_i e;rw[if_neg e];exact q.mono s⟩⟩
def ssT (K:jG)(is:List Nat)(ds:List D):List (Nat×Sl):=is.zip (ds.map λd=>.fz (tyD K) d)
theorem zlX_:∀{is:List Nat}{ds:List D}{us:List V}{σ:L2.St}{F H:Hp}{Q:L2.St->Hp->Prop},ds.length=is.length->DRs K ds us F->(∀vs,Plain F (ssT K is ds) vs->Q (setS σ vs) H)->tgS is us σ H Q
 |[],[],us,σ,F,H,Q,_,r,q=>by unfold DRs at r;subst r;exact q [] .nil
 |i::is,d::ds,us,σ,F,H,Q,l,r,q=>by
  unfold DRs at r;obtain⟨v,vs,rfl,a,r⟩:=r;exact zlX_ (σ:=σ.set i (rP v)) (by simpa using l) r λws hw=>q ((i,rP v)::ws) (.cons a hw)
 |[],_::_,_,_,_,_,_,l,_,_=>by simp at l
 |_::_,[],_,_,_,_,_,l,_,_=>by simp at l
theorem tg_R (g:Tg):TgR K (tgT K g) (tyTg K g) (ssT K g.is):=by
 rintro ds v σ F H Q hs ⟨hl,hd⟩ q;unfold tgT;split at hd
 ·rename_i e;rw[if_pos e]
  obtain⟨p,us,rfl,hp |⟨h2,hp⟩,r⟩:=hd
  ·exact .inl ⟨us,.of (hs _ _ hp),by rw[<- r.len,hl],zlX_ hl r q⟩
  ·obtain⟨x,t,rfl⟩:=lJ (show us.length=2 by rw[<- r.len,hl,h2])
   obtain⟨y,rfl⟩:=lQ.mp (show t.length=1 by have:=r.len;rw[hl,h2]at this;simpa using this.symm)
   exact .inr ⟨h2,x,y,.of (hs _ _ hp),zlX_ hl r q⟩
 ·rename_i e;rw[if_neg e]
  match h:g.is,ds,hl,hd,q with
  |[i],[d],_,hd,q=>
   obtain⟨_,e,a⟩:=DRs.one hd;cases e;exact q [(i,rP v)] (.cons a .nil)
  |[],ds,hl,hd,_=>rw[lp.mp hl]at hd;unfold DRs at hd;cases hd|_::_::_,d::e::ds,_,hd,_=>unfold DRs at hd;obtain⟨_,_,z,_,r⟩:=hd;cases z;unfold DRs at r;obtain⟨_,_,z,_⟩:=r;cases z
def tgsD (g:Tg):List D->Option (List (List D))
 |[]=>rP []|d::ds=>(tgD g d).bind λx=>(tgsD g ds).map λxs=>x::xs
theorem tgD_R {g:Tg}{x:List D}(e:tgD g d=rP x)(h:DR K d v F):(tyTg K g).R x v F:=by
 unfold tgD at e;split at e
 ·rename_i z
  have h:=DR.un h;split at e
  ·rename_i ds e2
   rw[e2]at h;obtain⟨p,us,rfl,n,r⟩:=h.nd;split at e
   ·rename_i l;cases e;exact⟨l,by rw[if_pos z];exact⟨p,us,rfl,.inl n,r⟩⟩
   ·cases e
  ·rename_i ds e2
   rw[e2]at h;obtain⟨p,us,rfl,n,r⟩:=h.nd;split at e
   ·rename_i l;cases e;exact⟨l.1.trans l.2.symm,by rw[if_pos z];exact⟨p,us,rfl,.inr ⟨l.2,n⟩,r⟩⟩
   ·cases e
  ·cases e
 ·rename_i z
  split at e
  ·rename_i l;cases e;exact⟨l.symm,by rw[if_neg z];unfold DRs;exact⟨v,[],rfl,h,by unfold DRs;rfl⟩⟩
  ·cases e
theorem zcK_ {g:Tg}:∀{ds:List D}{xs:List (List D)},tgsD g ds=rP xs->xs.length=ds.length/\∀(i:Nat) x,xs[i]?=rP x->∃d,ds[i]?=rP d/\tgD g d=rP x
 |[],_,e=>by cases e;exact⟨rfl,λi x h=>by simp at h⟩
 |d::ds,_,e=>by
  unfold tgsD at e;obtain⟨x,e1,e⟩:=jv.mp e;obtain⟨xs,e2,rfl⟩:=jz.mp e;obtain⟨l,f⟩:=zcK_ e2;refine⟨by rw[jg,jg,l],λi y h=>?_⟩
  cases i with
  |zero=>simp at h;subst h;exact⟨d,rfl,e1⟩|succ i=>exact f i y (by simpa using h)
theorem ei_tg {wi:TI}{L:List Sl}{rs:Mo (List D)}(g:Tg)(h:EvI K wi E L rs (tyD K)):EvI K wi E L (rs.bind λl=>.opt (tgsD g l)) (tyTg K g):=by
 intro σ F H R hL hs q;refine h σ F H _ hL hs (q.bind.imp λds F1 H1 x1 k1 J Y=>?_)
 obtain⟨xs,e,k1⟩:=k1.opt;obtain⟨l,f⟩:=zcK_ e;refine k1.ok x1.2.1 J ⟨λi H x hH hx=>?_,λH hH=>by rw[l];exact Y.stop H hH⟩
 obtain⟨d,hd,e2⟩:=f i x hx;obtain⟨g1,z⟩:=Y.go i H d hH hd;refine⟨g1,λv H' q F hF cq=>?_⟩
 obtain⟨F',x',hv⟩:=z v H' q F hF cq;exact⟨F',x',tgD_R e2 hv⟩
def setE (env:Env):List Nat->List D->Env
 |i::is,d::ds=>setE (env.set i (rP d.vw)) is ds
 |_,_=>env
def cE (lv:List Str)(fr:List (Str×Nat))(env:Env):Env:=lv.map (λ_=>rQ)++fr.map λq=>(env[q.2]?).join
theorem cL_eq {lv:List Str}{fr:List (Str×Nat)}:cL lv fr (Lof K env)=Lof K (cE lv fr env):=by
 unfold cL cE;show _=rG (slot K) (_++_)
 rw[kr,km,km];congr 1;refine la λq _=>?_
 simp only[Function.comp,jB];cases env[q.2]? with
 |none=>rfl|some o=>rfl
def LeZ (L L':List Sl):Prop:=∀(i:Nat) s',L'[i]?=rP s'->∃s,L[i]?=rP s/\∀o F,s.Z o F->s'.Z o F
theorem LeZ.hold {L L':List Sl}{σ:L2.St}(z:LeZ L L')(h:HoldF L σ F):HoldF L' σ F:=λi s' e=>by
 obtain⟨s,e1,e2⟩:=z i s' e;exact e2 _ _ (h i s e1)
theorem zgO_:∀{is:List Nat}{ds:List D}{L:List Sl}{env:Env},LeZ L (Lof K env)->LeZ (setL L (ssT K is ds)) (Lof K (setE env is ds))
 |[],_,_,_,z=>z|_::_,[],_,_,z=>z|i::is,d::ds,L,env,z=>by
  refine zgO_ (is:=is) (ds:=ds) (L:=L.set i (.fz (tyD K) d)) (env:=env.set i (rP d.vw)) ?_;intro j s' e;rw[jB,lb]at e;by_cases hj:i=j
  ·subst hj
   rw[if_pos rfl]at e;by_cases hl:i<env.length
   ·rw[if_pos hl]at e
    cases e;obtain⟨s,e1,_⟩:=z i _ (by rw[jB,jf hl];rfl)
    refine⟨.fz (tyD K) d,by rw[kY (jN.mp e1).1],?_⟩
    rintro o F ⟨v,e2,hv⟩;refine⟨v,e2,?_⟩;show DR K d.vw v F
    unfold D.vw;split
    ·exact hv
    ·split
     ·exact hv
     ·unfold DR;exact hv
   ·rw[if_neg hl]at e;cases e
  ·rw[if_neg hj]at e
   obtain⟨s,e1,e2⟩:=z j s' (by rw[jB];exact e)
   exact⟨s,by rw[jI hj];exact e1,e2⟩
theorem zhD_ {L:List Sl}:LeZ L L:=λi s e=>⟨s,e,λ_ _ h=>h⟩
theorem zmy_ (h:(owLO (owD K)).O ds v F h1):OD K (.nd .lst ds) v F h1:=by
 obtain⟨p,vs,h2,rfl,j,q⟩:=h;unfold OD;have go:∀{ds:List D}{vs:List V}{h:Hp},OwAll (owD K) F ds vs h->ODs K ds vs F h:=λ{ds}=>by
  induction ds with
  |nil=>intro vs h q;cases vs with |nil=>unfold ODs;exact⟨rfl,q⟩|cons=>exact q.elim
  |cons d ds ih=>intro vs h q;cases vs with |nil=>exact q.elim |cons v vs=>obtain⟨h1,h2,j,a,r⟩:=q;unfold ODs;exact⟨v,vs,h1,h2,rfl,j,a,ih r⟩
 exact⟨p,vs,_,h2,rfl,rfl,j,go q⟩
theorem zk2_ {lv:List Str}{fr:List (Str×Nat)}{wi:TI}{g:Tg}{tt:TT}{te:TE}{rs:Mo (List D)}{c:List D->Mo Bool}{f:List D->Mo D}(hi:EvI K wi E (Lof K env) rs (tyD K))(hg:∀i∈g.is,i<lv.length)
  (ht:∀a,EvT K tt E0 (Lof K (setE (cE lv fr env) g.is a)) (c a)) (he:∀a,EvX K te E0 (setE (cE lv fr env) g.is a) (f a)):
  EvX K (tComp lv fr wi (tgT K g) tt te) E env ((rs.bind λl=>.opt (tgsD g l)).bind λxs=>(compM (λx=>cond1 (c x) (f x)) xs []).bind λys=>.ok (.nd .lst ys)):=by
 have z:∀a,LeZ (setL (cL lv fr (Lof K env)) (ssT K g.is a)) (Lof K (setE (cE lv fr env) g.is a)):=λa=>zgO_ (by rw[cL_eq];exact zhD_)
 have dead:∀a,DeadAt (cL lv fr (Lof K env)) ((ssT K g.is a).map (·.1)):=λa i hi s e=>by
  have:i∈g.is:=by
   obtain⟨q,hq,rfl⟩:=j4.mp hi;exact(lL hq).1
  have hl:=hg i this;unfold cL at e;rw[lD (by rw[i7];exact hl),jB,jf hl]at e
  cases e;rfl
 have:=zhn_ (lv:=lv) (fr:=fr) (ei_tg g hi) (tg_R g) dead (λa σ F H Q hL hs q=>ht a σ F H Q ((z a).hold hL) hs q) (λa σ F H Q hL hs q=>he a σ F H Q ((z a).hold hL) hs q)
 intro σ F H Q hL hs q;refine this σ F H Q hL hs ?_;have e:∀(m:Mo (List (List D))),(m.bind λxs=>(compM (λx=>cond1 (c x) (f x)) xs []).bind λys=>.ok (D.nd .lst ys))=(m.bind λxs=>compM (λx=>cond1 (c x) (f x)) xs []).bind λys=>.ok (.nd .lst ys):=λm=>(Mo.bind_assoc _ _ _).symm
 rw[e]at q;exact q.bind.imp λys F1 H1 x1 k1 v k aQ dj s o=>k1.ok x1.2.1 v k aQ dj s (zmy_ o)
end
def rDGet:R2:=λx y H Q=>atR x y H λ_ kvs k=>∃v,valV kvs k=rP v/\Q v H
def rDIn (neg:Bool):R2:=λy x H Q=>atR x y H λ_ kvs k=>Q (.bl (if neg then !(valV kvs k).isSome else(valV kvs k).isSome)) H
def rIxA (K:jG):R2:=λx y H Q=>mIx K x y H Q\/rDGet x y H Q
def rInA (K:jG)(neg:Bool):R2:=λx y H Q=>mIn K neg x y H Q\/rDIn neg x y H Q
def mLenA (K:jG):List V->Hp->VK->Prop:=λvs H Q=>mLen K vs H Q\/mLenR vs H Q
section
variable {X:Cx}
theorem zhY_ (hu:X.A.units+60<cLine):IxR X rDGet:=by
 intro value slice pins s σ H x y v u Q I rx ry h hs;obtain⟨a,kvs,k,rfl,rfl,hd,w,hw,q⟩:=ziu_ h;obtain rfl:v=jQ a:=rx;have g:DGet H a (kV k) (rP w):=by rw[<- hw];exact .inl ⟨kvs,k,hd,rfl,rfl⟩
 have hT:=zdH_ I g;unfold subscriptTail;refine iZ ?_;rw[getitemInPython_of_ne hT.not_modules];refine iZ (wpAny_specialOf hT PySem.F.slot_dict_getitem.lookup ?_);have fin:jD (model X.prog X.w) X.A (subscripted slice rS (.ref a) u) (λr av=>jD (model X.prog X.w) X.A (letTemporaryGo value (.ref a) r>>=λ_=>pure r) (EP X pins σ Q) X.xe av) X.xe s:=by
  rw[hs];exact wpAny_operating (ke (zfT_ (Q:=EP X pins σ Q) (by lia) I g ry λw' s3 I3 a8=>⟨w,H,I3,a8,q⟩) (λr av bu=>iZ (wpAny_letTemporaryGo (jy bu))) λ_ _ x=>x)
 first
  |exact jy (iZ fin)
  |exact iZ (jy (iZ fin))
  |exact iZ fin
theorem ix_A (hu:X.A.units+60<cLine):IxR X (rIxA X.K):=λvalue slice pins s σ H x y v u Q I rx ry h hs=>by
 rcases h with h |h
 ·exact ix_M value slice pins s σ H x y v u Q I rx ry h hs
 ·exact zhY_ hu value slice pins s σ H x y v u Q I rx ry h hs
theorem zof_ (hu:X.A.units+60<cLine):OpR X (jX .In) (rInA X.K rS):=λpins s σ H x y v u Q I rx ry h=>by
 rcases h with h |h
 ·exact zoq_ pins s σ H x y v u Q I rx ry h
 ·obtain⟨a,kvs,k,rfl,rfl,hd,q⟩:=ziu_ h
  cases ry;exact d_in (by lia) I (.inl ⟨kvs,k,hd,rfl,rfl⟩) rx λs3 I3=>⟨.bl (valV kvs k).isSome,H,I3,rfl,q⟩
theorem zgs_ (hu:X.A.units+60<cLine):OpR X (jX .NotIn) (rInA X.K rR):=λpins s σ H x y v u Q I rx ry h=>by
 rcases h with h |h
 ·exact zfC_ pins s σ H x y v u Q I rx ry h
 ·obtain⟨a,kvs,k,rfl,rfl,hd,q⟩:=ziu_ h
  cases ry;exact zke_ (by lia) I (.inl ⟨kvs,k,hd,rfl,rfl⟩) rx λs3 I3=>⟨.bl (!(valV kvs k).isSome),H,I3,rfl,q⟩
theorem zgr_:CallR X (.builtin "len") (mLenA X.K):=λpins s σ H xs us Q I r h=>by
 rcases h with h |h
 ·exact zfO_ pins s σ H xs us Q I r h
 ·exact zfz_ pins s σ H xs us Q I r h
end
section
variable {K:j3}{E:XK}{F F' h h1 h2 H H':Hp}{d:D}{ds:List D}{v:V}{us vs:List V}{k:Nd}{p:i9}{Q:VK}{env:Env}{t:TE}{r r1 r2:Mo D}{ta:TA}{ra:Mo (List D)}{f:Fn}
def isDct (d:D):Bool:=match d.un with |.nd (.dct _) _=>rR |_=>rS
def ixA (a b:D):Mo D:=if isDct a then dgetD a b else ixD a b
theorem zlV_:Op2D K rDGet E dgetD:=by
 intro a b x y F H Q hs ha hb q;have ha:=DR.un ha;unfold dgetD at q;split at q
 ·rename_i ks ds k e1 e2
  rw[e1]at ha;obtain⟨p,us,rfl,n,r⟩:=ha.nd;obtain⟨d,e,q⟩:=q.opt;obtain⟨d0,e',rfl⟩:=jz.mp e;rcases zmA_ (k:=k) (ks:=ks) r with⟨h1,h2⟩|⟨d',v',g1,g2,g3⟩
  ·rw[h1]at e';cases e'
  ·rw[g1]at e';cases e'
   exact zih_ rfl (ziZ_ e2 hb).1 (zb2_ hs n.1) ⟨v',g2,gotV q hs g3⟩
 ·exact q.elim
theorem zoe_:Op2D K (rIxA K) E ixA:=by
 intro a b x y F H Q hs ha hb q;unfold ixA at q;split at q
 ·exact .inr (zlV_ a b x y F H Q hs ha hb q)
 ·exact .inl (od_ix a b x y F H Q hs ha hb q)
def inA (neg:Bool)(a b:D):Mo D:=if isDct b then dinD neg a b else inD neg a b
theorem zmn_ {neg:Bool}:Op2D K (rDIn neg) E (dinD neg):=by
 intro a b x y F H Q hs ha hb q;have hb:=DR.un hb;unfold dinD at q;split at q
 ·rename_i ks ds k e1 e2
  rw[e1]at hb;obtain⟨p,us,rfl,n,r⟩:=hb.nd;refine zih_ rfl (ziZ_ e2 ha).1 (zb2_ hs n.1) ?_;have e:(valV (ks.zip us) k).isSome=(valD ks ds k).isSome:=by
   rcases zmA_ (k:=k) (ks:=ks) r with⟨h1,h2⟩|⟨d',v',g1,g2,g3⟩
   ·rw[h1,h2];rfl
   ·rw[g1,g2];rfl
  rw[e];exact gotB q hs
 ·exact q.elim
theorem zjE_ {neg:Bool}:Op2D K (rInA K neg) E (inA neg):=by
 intro a b x y F H Q hs ha hb q;unfold inA at q;split at q
 ·exact .inr (zmn_ a b x y F H Q hs ha hb q)
 ·exact .inl (od_in a b x y F H Q hs ha hb q)
def lenA (ds:List D):Mo D:=match ds with |[d]=>if isDct d then dlenD ds else lenD ds |_=>.no
theorem zly_:BlD K (mLenA K) E lenA:=by
 intro ds vs F H Q hs hd q;unfold lenA at q;split at q
 ·split at q
  ·exact .inr (zjo_ _ vs F H Q hs hd q)
  ·exact .inl (zmf_ _ vs F H Q hs hd q)
 ·exact q.elim
def makeD (f:Fn)(c:Str)(ds:List D):Mo D:=match f (.nd (.obj c []) []::ds.map .vw)with
 |.ok .non (o::_)=>.ok o|.ex x _=>.ex x|_=>.no
theorem z6_ {p dx q:i9}{o:HO}:two p dx o q=if q=p then rP o else if q=dx then rP (.own p)else rQ:=rfl
theorem zgv_:∀{ds es:List D}{vs us:List V}{F:Hp},DRs K ds vs F->DRs K es us F->DRs K (ds++es) (vs++us) F
 |[],_,_,_,_,h,g=>by unfold DRs at h;subst h;exact g
 |d::ds,_,_,_,_,h,g=>by unfold DRs at h;obtain⟨v,vs,rfl,a,r⟩:=h;rw[lq,lq];unfold DRs;exact⟨v,_,rfl,a,zgv_ r g⟩
theorem zl8_ {c:Str}{dv:List D}{ax:List V}(hx:EvAs K ta E env ra)(hX:∀F,DRs K dv ax F):EvX K (tMake (gA K c) (CtG K f) ax E ta) E env (ra.bind λds=>makeD f c (ds++dv)):=by
 intro σ F H Q hL hs q;refine zcm_ hx σ F H _ hL hs (q.bind.imp λds F1 H1 x1 k1 vs a9=>?_)
 intro x dx nx cC ne;have a9:=zgv_ a9 (hX F1);have k1:=k1.imp λa F3 H3 x3 k3=>k3.back x1.2.2.1
 have sm:Same H1 (upd (upd H1 dx (.own x)) x (.ins (gA K c) dx [])):=(zF_ cC _).trans (zF_ (by rw[zv_ λz=>ne z.symm];exact nx) _)
 have eh:less (upd (upd H1 dx (.own x)) x (.ins (gA K c) dx [])) (two x dx (.ins (gA K c) dx []))=H1:=funext λp=>by
  unfold less;rw[z6_];by_cases e:p=x
  ·subst e;rw[if_pos rfl];exact nx.symm
  ·rw[if_neg e]
   by_cases e2:p=dx
   ·subst e2;rw[if_pos rfl];exact cC.symm
   ·rw[if_neg e2,zv_ e,zv_ e2]
 refine⟨F1,two x dx (.ins (gA K c) dx []),.nd (.obj c []) []::(ds++dv).map .vw,x1.2.1.trans sm,λp=>?_,λp o z=>?_,?_,?_⟩
 ·rw[z6_]
  by_cases e:p=x
  ·subst e;exact .inl (x1.2.1.free nx)
  ·rw[if_neg e]
   by_cases e2:p=dx
   ·subst e2;exact .inl (x1.2.1.free cC)
   ·rw[if_neg e2];exact .inr rfl
 ·rw[z6_]at z
  by_cases e:p=x
  ·subst e;rw[if_pos rfl]at z;cases z;exact zj_
  ·rw[if_neg e]at z
   by_cases e2:p=dx
   ·subst e2;rw[if_pos rfl]at z;cases z;rw[zv_ e];exact zj_
   ·rw[if_neg e2]at z;cases z
 ·unfold ODs
  refine⟨.ref x,_,_,λ_=>rQ,rfl,no_r _ λ_=>rfl,?_,ODs.vw (λ_=>rfl) a9⟩
  unfold OD;exact⟨x,[],_,λ_=>rQ,rfl,⟨dx,ne,rfl,rfl⟩,no_r _ λ_=>rfl,by unfold ODs;exact⟨rfl,λ_=>rfl⟩⟩
 ·rw [eh]
  unfold makeD at k1;cases e:f (.nd (.obj c []) []::(ds++dv).map .vw)with
  |no=>rw[e]at k1;exact k1|ex x ds'=>rw[e]at k1;exact λF' h' H' ok _=>k1 F' H' ok.1|ok d ds'=>
   rw[e]at k1;intro v F' h' H' hr h2 ok j od os;split at k1
   ·rename_i o tl ee
    cases ee;refine⟨?_,?_⟩
    ·unfold OD at od;exact od.2.non
    ·unfold ODs at os
     obtain⟨w,ws,m1,m2,e3,jm,oo,_⟩:=os;cases e3;have s1:Same m1 h':=jm.l.trans j.r;refine k1 F' H' ok.1 (.ref x) m1 (λp z=>ok.2.2.2.1 p ?_) (dj_l (dj_r ok.2.1 j) jm) (s1.trans ok.2.2.1) oo
     cases y:m1 p with
     |none=>exact absurd y z|some w=>rw[s1 _ _ y];exact sN _
   ·rename_i ee;cases ee
   ·exact k1.elim
theorem zkg_ {c:Str}(hx:EvAs K ta E env ra):EvX K (tMake (gA K c) (CtG K f) [] E ta) E env (ra.bind (makeD f c)):=by
 have:=zl8_ (c:=c) (f:=f) (dv:=[]) hx λF=>by unfold DRs;rfl
 simpa only[ko]using this
def tMethA (K:jG)(fs:List (Str×Fn))(m:Str)(E:XK)(t:TE)(ta:TA):TE:=λσ H Q=>∃q∈fs,tMeth (gA K q.1) m (CtG K q.2) [] E t ta σ H Q
def methD (fs:List (Str×Fn))(m:Str)(d:D)(ra:Mo (List D)):Mo D:=match d.un with
 |.nd (.obj c ns) _=>(match fs.find? (λq=>q.1 == c)with |some q=>if m∈ns then .no else ra.bind λds=>q.2.val (d.vw::ds.map .vw)|none=>.no)|_=>.no
theorem zbA_:∀{ns:List Str}{us:List V}{f:Str},f∉ns->(ns.zip us).lookup f=rQ:=za0_
theorem zjm_ {fs:List (Str×Fn)}{m:Str}(h0:fs≠[])(hx:EvX K t E env r)(ha:EvAs K ta E env ra):EvX K (tMethA K fs m E t ta) E env (r.bind λd=>methD fs m d ra):=by
 intro σ F H Q hL hs q;have main:∀g∈fs,(∀d,r=.ok d->∃ns ds,d.un=.nd (.obj g.1 ns) ds/\fs.find? (λq=>q.1 == g.1)=rP g)->tMethA K fs m E t ta σ H Q:=λg hg hd=>⟨g,hg,by
  refine ex_v hx σ F H _ hL hs ?_;cases e:r with
  |no=>rw[e]at q;exact q|ex x=>rw[e]at q;exact q|ok d=>
   obtain⟨ns,ds,e2,e3⟩:=hd d e;rw[e]at q;intro F1 H1 x1 v hv;have bX:=DR.un hv;rw[e2]at bX;obtain⟨p,us,rfl,⟨dx,hp,l⟩,rs⟩:=bX.nd;have q:After K (methD fs m d ra) E F H (OwnK (owD K) H Q):=q;unfold methD at q;rw[e2]at q;dsimp only at q;rw[e3]at q;dsimp only at q;split at q
   ·exact q.elim
   ·rename_i hm
    refine⟨p,dx,_,rfl,x1.2.1 _ _ hp,zbA_ hm,?_⟩;have q2:After K (ra.bind λds=>g.2.val (d.vw::ds.map D.vw)) E F1 H1 (OwnK (owD K) H Q):=by
     generalize ra.bind (λds=>g.2.val (d.vw::ds.map D.vw))=z at q ⊢
     cases z with
     |no=>exact q|ok a=>exact λF2 H2 x2=>q F2 H2 (x1.trans x2)|ex c=>exact λF2 H2 x2=>(q F2 H2 (x1.trans x2)).up x1.2.2.1
    refine zcm_ ha σ F1 H1 _ (hL.mono x1.1) x1.2.1 (q2.bind.imp λas F2 H2 x2 k2 vs a9=>?_)
    rw[ko];exact zbM_ (ds:=d::as) x2.2.1 (by unfold DRs;exact⟨_,_,rfl,(tyD K).mono x2.1 hv,a9⟩) (k2.imp λr F3 H3 x3 k3=>k3.back (x1.2.2.1.trans x2.2.2.1))⟩
 cases e:r with
 |no=>rw[e]at q;exact q.elim|ok d=>
  rw[e]at q;have q':After K (methD fs m d ra) E F H (OwnK (owD K) H Q):=q;unfold methD at q';split at q'
  ·rename_i c ns ds e2
   split at q'
   ·rename_i g eg
    have h1:g.1=c:=by simpa using oW eg
    exact main g (mE eg) λd' z=>by rw[e]at z;cases z;exact⟨ns,ds,by rw[h1];exact e2,by rw[h1];exact eg⟩
   ·exact q'.elim
  ·exact q'.elim
 |ex x=>
  cases fs with
  |nil=>exact absurd rfl h0|cons g fs=>exact main g (je ..) λd' z=>by rw[e]at z;cases z
def strsD:List D->Option (List (List Nat))
 |[]=>rP []|d::ds=>(match d.un with |.str l=>rP l |_=>rQ).bind λx=>(strsD ds).map λxs=>x::xs
theorem zlv_:∀{ds:List D}{xs:List (List Nat)}{us:List V},strsD ds=rP xs->DRs K ds us H->us=xs.map tx
 |[],_,_,e,h=>by cases e;unfold DRs at h;exact h
 |d::ds,_,_,e,h=>by
  unfold strsD at e;unfold DRs at h;obtain⟨x,ex,e⟩:=jv.mp e;obtain⟨xs,exs,rfl⟩:=jz.mp e;obtain⟨v,vs,rfl,a,r⟩:=h;have a:=DR.un a;split at ex
  ·rename_i e2;cases ex;rw[e2]at a;cases a.str;rw[zlv_ exs r];rfl
  ·cases ex
def joinD (l:List Nat)(ds:List D):Mo D:=match ds with
 |[d]=>(match d.un with |.nd .lst xs=>(Mo.opt (strsD xs)).bind λls=>.grd (JoinOk ⟨l.toArray⟩ (strsL ls)=rR) (.ok (.str (joinS l (strsL ls))))|_=>.no)|_=>.no
theorem zfu_:∀ls:List (List Nat),strsOf (ls.map tx)=rP (strsL ls):=λls=>strsOf_of' ls
 where strsOf_of':∀ls:List (List Nat),strsOf (ls.map tx)=rP (strsL ls)
 |[]=>rfl|l::ls=>by show(strsOf (ls.map tx)).map _=_;rw[strsOf_of' ls];rfl
theorem zkN_:MeD K (mJoin K) E joinD:=by
 intro l ds vs F H Q hs hd q;unfold joinD at q;split at q
 ·obtain⟨v,rfl,a⟩:=DRs.one hd
  have a:=DR.un a;split at q
  ·rename_i xs e;rw[e]at a;obtain⟨p,us,rfl,n,r⟩:=a.nd
   cases e3:strsD xs with
   |none=>rw[e3]at q;exact q.elim|some ls=>
    rw[e3]at q;obtain⟨z,q⟩:=After.grd (show After K (Mo.grd _ _) E F H _ from q)
    refine⟨us,.of (hs _ _ n),?_⟩;rw[zlv_ e3 r,zfu_];exact⟨z,gotS q hs⟩
  ·exact q.elim
 ·exact q.elim
def splitD (l:List Nat)(ds:List D):Mo D:=match ds with
 |[d]=>(match d.un with |.str c=>.grd (l.length<=100000/\c≠[]) (.ok (.nd .lst (((splitG c l).map .str).map .vw)))|_=>.no)|_=>.no
theorem zeR_:∀ls:List (List Nat),DRs K (ls.map .str) (ls.map tx) F
 |[]=>by unfold DRs;rfl
 |l::ls=>by rw[ju,ju];unfold DRs;exact⟨_,_,rfl,by unfold DR;rfl,zeR_ ls⟩
theorem zie_:MeD K mSplitG E splitD:=by
 intro l ds vs F H Q hs hd q;unfold splitD at q;split at q
 ·obtain⟨v,rfl,a⟩:=DRs.one hd
  have a:=DR.un a;split at q
  ·rename_i c e;rw[e]at a;cases a.str
   obtain⟨⟨z1,z2⟩,q⟩:=q.grd;exact⟨by simpa using z1,by simpa using z2,λp hp=>newL q hs hp (zeR_ _)⟩
  ·exact q.elim
 ·exact q.elim
def me1I (g:List Nat->Int->Mo D)(l:List Nat)(ds:List D):Mo D:=match ds with |[d]=>(match d.un with |.int c=>g l c |_=>.no)|_=>.no
theorem zj2_ {m:V->List V->Hp->VK->Prop}{g:List Nat->Int->Mo D}(hm:∀l c F H (Q:VK),Same F H->After K (g l c) E F H (OwnK (owD K) H Q)->m (tx l) [.int c] H Q):MeD K m E (me1I g):=by
 intro l ds vs F H Q hs hd q;unfold me1I at q;split at q
 ·obtain⟨v,rfl,a⟩:=DRs.one hd
  have a:=DR.un a;split at q
  ·rename_i c e;rw[e]at a;cases a.int;exact hm l c F H Q hs q
  ·exact q.elim
 ·exact q.elim
abbrev ljustD:=me1I λl i=>.grd (PadOk i=rR) (.ok (.str (ljL l i)))
theorem zhg_:MeD K mLjust E ljustD:=zj2_ λl c F H Q hs q=>by obtain⟨z,q⟩:=q.grd;exact⟨z,gotS q hs⟩
def fmtD (d:D):Mo D:=match d.un with
 |.str l=>.lim l.length (.ok (.str l))|.int i=>.grd (i.natAbs.log2<1920) (.ok (.str (strI i)))|_=>.no
theorem zoh_ (hx:EvX K t E env r):EvX K (tUn mFmt t) E env (r.bind fmtD):=by
 intro σ F H Q hL hs q;refine ex_v hx σ F H _ hL hs (q.bind.imp λd F1 H1 x1 k1 v hv=>?_)
 have a:=DR.un hv;have k1:=k1.imp λa F3 H3 x3 k3=>k3.back x1.2.2.1
 unfold fmtD at k1;split at k1
 ·rename_i l e;rw[e]at a;cases a.str
  obtain⟨z,k1⟩:=k1.lim;exact⟨by show l.toArray.size<=jj;rw[jq];exact z,gotS k1 x1.2.1⟩
 ·rename_i l e;rw[e]at a;cases a.int
  obtain⟨z,k1⟩:=k1.grd;exact⟨z,gotS k1 x1.2.1⟩
 ·exact k1.elim
def repD (d:D):Mo D:=match d.un with |.str l=>.lim (reprText ⟨l.toArray⟩).length (.ok (.str (reprText ⟨l.toArray⟩).cps.toList))|_=>.no
theorem zmj_ (hx:EvX K t E env r):EvX K (tUn mRepr t) E env (r.bind repD):=by
 intro σ F H Q hL hs q;refine ex_v hx σ F H _ hL hs (q.bind.imp λd F1 H1 x1 k1 v hv=>?_)
 have a:=DR.un hv;have k1:=k1.imp λa F3 H3 x3 k3=>k3.back x1.2.2.1
 unfold repD at k1;split at k1
 ·rename_i l e;rw[e]at a;cases a.str
  obtain⟨z,k1⟩:=k1.lim;refine⟨z,?_⟩;rw[z0_ (reprText ⟨l.toArray⟩)];exact gotS k1 x1.2.1
 ·exact k1.elim
def EvJs (K:jG)(tj:TJ)(E:XK)(env:Env)(r:List Nat->Mo (List Nat)):Prop:=
 ∀(acc:List Nat) σ F H (R:Str->Hp->Prop),HoldF (Lof K env) σ F->Same F H->After K (r acc) E F H (λl F' H'=>R ⟨l.toArray⟩ H')->tj ⟨acc.toArray⟩ σ H R
theorem zlB_:EvJs K tJ0 E env .ok:=λacc σ F H R hL hs q=>q.ok hs
theorem zhs_ {tr:TJ}{g:List Nat->Mo (List Nat)}(hx:EvX K t E env r)(hr:EvJs K tr E env g):EvJs K (tJ1 t tr) E env (λacc=>r.bind λd=>(strOf d).bind λl=>.lim (acc.length+l.length) (g (acc++l))):=by
 intro acc σ F H R hL hs q;refine ex_v hx σ F H _ hL hs (q.bind.imp λd F1 H1 x1 k1 v hv=>?_)
 have a:=DR.un hv;unfold strOf at k1;split at k1
 ·rename_i l e;rw[e]at a;cases a.str
  obtain⟨z,k1⟩:=After.lim (show After K (Mo.lim _ _) E F1 H1 _ from k1)
  have e:((⟨acc.toArray⟩:Str)++(⟨l.toArray⟩:Str))=⟨(acc++l).toArray⟩:=by
   show(⟨acc.toArray++l.toArray⟩:Str)=_
   simp
  show((⟨acc.toArray⟩:Str)++(⟨l.toArray⟩:Str)).length<=jj/\tr ((⟨acc.toArray⟩:Str)++(⟨l.toArray⟩:Str)) σ H1 R
  rw[e];exact⟨by show(acc++l).toArray.size<=jj;rw[jq,jC];exact z,hr _ σ F1 H1 R (hL.mono x1.1) x1.2.1 k1⟩
 ·exact k1.elim
theorem ex_fs {tj:TJ}{g:List Nat->Mo (List Nat)}(hj:EvJs K tj E env g):EvX K (tJoin tj) E env ((g []).bind λl=>.lim l.length (.ok (.str l))):=by
 intro σ F H Q hL hs q;refine hj [] σ F H _ hL hs (q.bind.imp λl F1 H1 x1 k1=>?_)
 obtain⟨z,k1⟩:=k1.lim;exact⟨by show l.toArray.size<=jj;rw[jq];exact z,gotS (k1.imp λa F3 H3 x3 k3=>k3.back x1.2.2.1) x1.2.1⟩
noncomputable def tnD:D->Option String
 |.int _=>rP "int" |.bl _=>rP "bool" |.str _=>rP "str" |.non=>rP "NoneType" |.nd .lst _=>rP "list" |.nd .tup _=>rP "tuple" |_=>rQ
def isaD (n:String)(d:D):Mo D:=.opt (((tnD d.un).bind λT=>isaB T n).map .bl)
theorem tnD_S {T:String}(h:tnD d=rP T)(a:DR K d v F)(hs:Same F H):tyS K H v T:=by
 cases d with
 |int=>cases h;cases a.int;rfl|bl=>cases h;cases a.bl;rfl|str=>cases h;cases a.str;rfl|non=>cases h;cases a.non;rfl|nd k ds=>
  obtain⟨p,us,rfl,m,_⟩:=a.nd;cases k with
  |lst=>cases h;exact .inl ⟨rfl,us,hs _ _ m⟩|tup=>cases h;exact .inr ⟨rfl,us,hs _ _ m⟩|_=>cases h
 |_=>cases h
def mIsaV (K:jG):List V->Hp->VK->Prop:=λxs H Q=>∃x c T b,xs=[x,.ty c]/\tyS K H x T/\isaB T c=rP b/\Q (.bl b) H
theorem zf2_ {X:Cx}:CallR X (.builtin "isinstance") (mIsaV X.K):=by
 rintro pins s σ H xs us Q I r ⟨x,c,T,b,rfl,ht,eb,hq⟩;obtain⟨u,w',rfl,r1,r2⟩:=vals2 r;cases r2;exact zz_ (zfM_ I r1 (zn6_ ht) (zjH_ eb) λtk b7=>⟨.bl b,H,I.tok tk,rfl,hq⟩)
theorem znn_ (n:String)(hx:EvX K t E env r):EvX K (tCB (mIsaV K) (tCons t (tCons (tC (.ty n)) tNil))) E env (r.bind (isaD n)):=by
 intro σ F H Q hL hs q;refine ex_v hx σ F H _ hL hs (q.bind.imp λd F1 H1 x1 k1 v hv=>?_)
 have k1:=k1.imp λa F3 H3 x3 k3=>k3.back x1.2.2.1
 obtain⟨w,e,k1⟩:=k1.opt;obtain⟨b,e0,rfl⟩:=jz.mp e;obtain⟨T,e1,e2⟩:=jv.mp e0;exact⟨v,n,T,b,rfl,tnD_S e1 (DR.un hv) x1.2.1,e2,gotB k1 x1.2.1⟩
def blsD:List D->Option (List Bool)
 |[]=>rP []|d::ds=>match d.un,blsD ds with |.bl b,rP bs=>rP (b::bs)|_,_=>rQ
theorem zkZ_:∀{ds:List D}{us:List V}{bs:List Bool}{F:Hp},blsD ds=rP bs->DRs K ds us F->us=bs.map V.bl
 |[],us,bs,F,h,r=>by unfold DRs at r;subst r;cases h;rfl
 |d::ds,us,bs,F,h,r=>by
  unfold DRs at r;obtain⟨v,vs,rfl,a,r⟩:=r;unfold blsD at h;split at h
  ·rename_i b iW e1 e2
   cases h;have a:=DR.un a;rw[e1]at a;cases a.bl;rw[zkZ_ e2 r];rfl
  ·cases h
def allD:List D->Mo D:=on1 λd=>match d with |.nd .lst ds=>(match blsD ds with |some bs=>.ok (.bl (bs.all id))|none=>.no)|_=>.no
theorem zmE_:BlD K (mAll K) E allD:=zdW_ λd v F H Q hs hd q=>by
 split at q
 ·obtain⟨p,us,rfl,n,r⟩:=hd.nd
  split at q
  ·rename_i bs e
   refine⟨bs,?_,gotB q hs⟩;rw[<- zkZ_ e r];exact .of (hs _ _ n)
  ·exact q.elim
 ·exact q.elim
theorem zi2_:EvX K tDNewK E env (.ok (.nd (.dct []) [])):=by
 intro σ F H Q hL hs q p hp;refine q F _ (.heap hs (zF_ hp _)) (.ref p) (one p (.dK [])) (λb z=>?_) (λb=>?_) (λb o z=>?_) ?_
 ·rw[ze_]at z;split at z
  ·rename_i e;rw[e];exact hp
  ·exact absurd rfl z
 ·rw[ze_];split
  ·rename_i e;rw[e];exact .inl (hs.free hp)
  ·exact .inr rfl
 ·rw[ze_]at z;split at z
  ·rename_i e;rw[e];cases z;exact zj_
  ·cases z
 ·show OD K _ _ _ _
  unfold OD;exact⟨p,[],_,λ_=>rQ,rfl,⟨rfl,rfl,List.nodup_nil⟩,no_r _ λ_=>rfl,by unfold ODs;exact⟨rfl,λ_=>rfl⟩⟩
theorem newTp (q:After K (.ok (.nd .tup (ds.map .vw))) E F H (OwnK (owD K) H Q))(hs:Same F H)(hp:H p=rQ)(r:DRs K ds us F):Q (.ref p) (upd H p (.tup us)):=by
 have x:=Ext.new (o:=.tup us) hs hp;refine q _ _ x (.ref p) (λ_=>rQ) (λb z=>absurd rfl z) (λ_=>.inr rfl) (λb o z=>by cases z) ?_
 show OD K _ _ _ _
 unfold OD;exact⟨p,us,λ_=>rQ,λ_=>rQ,rfl,⟨zj_,λ_=>rfl⟩,no_r _ λ_=>rfl,ODs.vw (λ_=>rfl) (r.mono x.1)⟩
def mSlA (K:jG):V->Option Int->Option Int->Hp->VK->Prop:=λx lo hi H Q=>mSl K x lo hi H Q\/rSlT K x lo hi H Q
theorem sl_A {X:Cx}:SlR X (mSlA X.K):=SlR.or sl_M zmR_
def slA (a:D)(lo hi:Option Int):Mo D:=match a.un with
 |.nd .tup xs=>if HT.sIx xs.length 0 lo=0/\HT.sIx xs.length xs.length hi=xs.length then .no else .ok (.nd .tup ((cutG xs lo hi).map .vw))
 |_=>slD a lo hi
theorem znY_ {tl th:TO}{rl rh:Mo (Option Int)}(h0:EvX K t E env r)(hl:EvP K tl E (Lof K env) rl)(hh:EvP K th E (Lof K env) rh):EvX K (tSl (mSlA K) t tl th) E env (r.bind λl=>rl.bind λa=>rh.bind λb=>slA l a b):=by
 intro σ F H Q hL hs q;refine ex_v h0 σ F H _ hL hs (q.bind.imp λl F1 H1 x1 k1 v hv=>?_)
 refine hl σ F1 H1 _ (hL.mono x1.1) x1.2.1 (k1.bind.imp λlo F2 H2 x2 k2=>?_)
 refine hh σ F2 H2 _ (hL.mono (x1.1.trans x2.1)) x2.2.1 (k2.bind.imp λhi F3 H3 x3 k3=>?_)
 have ha:=DR.un ((tyD K).mono (x2.1.trans x3.1) hv);have k3:=k3.imp λc F4 H4 x4 k4=>k4.back (x1.2.2.1.trans (x2.2.2.1.trans x3.2.2.1))
 unfold slA at k3;split at k3
 ·rename_i xs e;rw[e]at ha;obtain⟨p,us,rfl,n,r⟩:=ha.nd
  split at k3
  ·exact k3.elim
  ·rename_i hn
   exact .inr ⟨p,us,rfl,.of (x3.2.1 _ _ n),by rw[<- r.len];exact hn,λp hp=>newTp k3 x3.2.1 hp (r.cut lo hi)⟩
 ·refine .inl ?_
  unfold slD at k3;split at k3
  ·rename_i l e;rw[e]at ha;cases ha.str
   obtain⟨c,k3⟩:=k3.lim;exact⟨c,gotS k3 x3.2.1⟩
  ·rename_i e;rw[e]at ha;obtain⟨p,us,rfl,n,r⟩:=ha.nd
   exact⟨us,.of (x3.2.1 _ _ n),λp hp=>newL k3 x3.2.1 hp (r.cut lo hi)⟩
  ·rename_i e;rw[e]at ha;obtain⟨p,us,rfl,n,r⟩:=ha.nd
   exact⟨us,x3.2.1.seq n,λp hp=>newL k3 x3.2.1 hp (r.cut lo hi)⟩
  ·exact k3.elim
def mAddA (K:jG):R2:=λx y H Q=>mAdd x y H Q\/rCatT K x y H Q
theorem zjd_ {X:Cx}:OpR X (lO .Add) (mAddA X.K):=λpins s σ H x y v u Q I rx ry h=>by
 rcases h with h |h
 ·exact zjK_ pins s σ H x y v u Q I rx ry h
 ·exact zkW_ pins s σ H x y v u Q I rx ry h
def addA (a b:D):Mo D:=match a.un,b.un with
 |.nd .tup xs,.nd .tup ys=>if xs=[]then .no else .lim (xs.length+ys.length) (.ok (.nd .tup ((xs++ys).map .vw)))
 |_,_=>addD a b
noncomputable instance (l:List D):Decidable (l=[]):=match l with |[]=>.isTrue rfl |_::_=>.isFalse λh=>by cases h
theorem zjN_:Op2D K (mAddA K) E addA:=by
 intro a b x y F H Q hs ha hb q;unfold addA at q;split at q
 ·rename_i xs ys e1 e2
  have ha:=DR.un ha;have hb:=DR.un hb;rw[e1]at ha;rw[e2]at hb;obtain⟨p,us,rfl,n,r⟩:=ha.nd;obtain⟨p2,ws,rfl,n2,r2⟩:=hb.nd;split at q
  ·exact q.elim
  ·rename_i hn
   obtain⟨c,q⟩:=q.lim;have h1:us≠[]:=λz=>hn (lp.mp (by rw[r.len,z];rfl))
   refine .inr ⟨p,p2,us,ws,rfl,rfl,.of (hs _ _ n),.of (hs _ _ n2),h1,by rw[<- r.len,<- r2.len];exact c,λz=>?_,λ_ l hl=>newTp q hs hl (r.app r2)⟩
   have:ys=[]:=lp.mp (by rw[r2.len,z];rfl)
   subst this;rw[ko]at q;refine q F H (Ext.refl hs) (.ref p) (λ_=>rQ) (λb z=>absurd rfl z) (λ_=>.inr rfl) (λb o z=>by cases z) ?_
   show OD K _ _ _ _
   unfold OD;exact⟨p,us,λ_=>rQ,λ_=>rQ,rfl,⟨n,λ_=>rfl⟩,no_r _ λ_=>rfl,ODs.vw (λ_=>rfl) r⟩
 ·exact .inl (znC_ a b x y F H Q hs ha hb q)
def mListA (K:jG):List V->Hp->VK->Prop:=λxs H Q=>mList K xs H Q\/match xs with
 |[.ref p]=>∃kvs,Rd H p (.dK kvs)/\kvs.length<=jj/\∀l,H l=rQ->Q (.ref l) (upd H l (.lst (kvs.map λq=>kV q.1)))|_=>False
theorem zmY_:∀(a:List (Key×V)) (b:List (Key×iX)) (i:Nat) q k' x,KV a b->a[i]?=rP q->b[i]?=rP (k',x)->q.1=k':=by
 intro a b i q k' x gj;unfold KV at gj;induction gj generalizing i with
 |nil=>intro e;simp at e
 |cons r t ih=>
  intro e1 e2;cases i with
  |zero=>simp at e1 e2;subst e1;have:=r.1;rw[e2]at this;exact this|succ i=>exact ih i (by simpa using e1) (by simpa using e2)
theorem zdq_:∀(ks:List (Key×V)) (us:List iX),ks.length=us.length->(∀(i:Nat) (q:Key×V) (u:iX),ks[i]?=rP q->us[i]?=rP u->RelV (kV q.1) u)->Vals (ks.map λq=>kV q.1) us
 |[],us,hl,_=>by cases us with |nil=>exact .nil |cons _ _=>simp at hl
 |q::ks,us,hl,hh=>by
  cases us with
  |nil=>simp at hl|cons u us=>exact .cons (hh 0 q u rfl rfl) (zdq_ ks us (by simpa using hl) λi q' u' e1 e2=>hh (i+1) q' u' (by simpa using e1) (by simpa using e2))
theorem zeu_ {X:Cx}(hc:X.calm=rR):CallR X (.type "list") (mListA X.K):=by
 intro pins s σ H xs us Q I r h;rcases h with h |h
 ·exact zeN_ hc pins s σ H xs us Q I r h
 ·split at h
  ·rename_i p
   obtain⟨kvs,hp,hl,q⟩:=h;obtain⟨u,rfl,rx⟩:=vals1 r;cases rx;obtain⟨z,hd,vs,rel,dd⟩:=ziF_ I.hok hp;obtain⟨ep,hat⟩:=dd.dictAt;have cH:kvs.length=vs.length:=rel.length;refine zz_ (W.kdl_call (W.kdl_dict (knd:=mixKind X.prog X.w) (kvs:=vs) (ep:=ep) hd) (I.ok.hd hc) hat (by rw[<- cH];exact hl) λh' tk acc c kp ho bR b7=>?_)
   refine⟨.ref s.heap.objs.size,_,I.laid (o:=.lst (kvs.map λq=>kV q.1)) (t':=tk) kp (jt _) ⟨by rw[i7];exact hl,acc.toList,c,?_,by simpa using ho⟩,rfl,q _ (I.hok.fresh (jt _))⟩
   have eD:acc.toList.length=kvs.length:=by rw[lM,cH];exact bR.1
   refine zdq_ kvs acc.toList eD.symm λi q u e1 e2=>?_
   obtain⟨k',x,ek,bO⟩:=bR.2 i u (by rw[<- Array.getElem?_toList];exact e2)
   rw[zmY_ kvs vs i q k' x rel e1 ek];exact is_kV bO
  ·exact h.elim
def kD:Key->D
 |.inl i=>.int i|.inr s=>.str s.cps.toList
theorem zep_:∀(ks:List Key) (us:List V) {H:Hp},ks.length=us.length->DRs K (ks.map kD) ((ks.zip us).map λq=>kV q.1) H
 |[],us,_,_=>by unfold DRs;rfl
 |k::ks,[],_,hl=>by cases hl
 |k::ks,u::us,H,hl=>by
  rw[jR,ju,ju];unfold DRs;refine⟨_,_,rfl,?_,zep_ ks us (by simpa using hl)⟩
  cases k with
  |inl i=>unfold kD DR;rfl|inr s=>unfold kD DR;rfl
def listA:List D->Mo D:=on1 λd=>match d with
 |.nd .lst xs=>.ok (.nd .lst (xs.map .vw))|.nd .tup xs=>.ok (.nd .lst (xs.map .vw))|.nd .scr xs=>.ok (.nd .lst (xs.map .vw))|.nd (.dct ks) _=>.lim ks.length (.ok (.nd .lst ((ks.map kD).map .vw)))|_=>.no
theorem zht_:BlD K (mListA K) E listA:=zdW_ λd v F H Q hs hd q=>by
 split at q
 ·obtain⟨p,us,rfl,n,r⟩:=hd.nd;exact .inl (.inl ⟨us,.inl (.of (hs _ _ n)),λl hl=>newL q hs hl r⟩)
 ·obtain⟨p,us,rfl,n,r⟩:=hd.nd;exact .inl (.inl ⟨us,.inr (.of (hs _ _ n)),λl hl=>newL q hs hl r⟩)
 ·obtain⟨p,us,rfl,n,r⟩:=hd.nd;exact .inl (.inl ⟨us,.inl (hs.seq n),λl hl=>newL q hs hl r⟩)
 ·obtain⟨p,us,rfl,n,r⟩:=hd.nd
  obtain⟨c,q⟩:=q.lim;refine .inr ⟨_,zb2_ hs n.1,by rw[lX,n.2.1,mB,<- n.2.1];exact c,λl hl=>newL q hs hl (zep_ _ _ n.2.1)⟩
 ·exact q.elim
end
section
variable {K:j3}{E:XK}{F H:Hp}{env:Env}
def taP:List (TE×TE)->TA
 |[]=>tNil|(k,v)::r=>tCons k (tCons v (taP r))
def prU:List V->List (V×V)
 |k::v::r=>(k,v)::prU r
 |_=>[]
theorem tp_eq:∀(trs:List (TE×TE)) (σ:L2.St) (H:Hp) (Q:List (V×V)->Hp->Prop),taP trs σ H (λvs H'=>Q (prU vs) H')=tPairs trs σ H Q
 |[],_,_,_=>rfl|(k,v)::r,σ,H,Q=>congrArg (k σ H) (funext λx=>funext λH1=>congrArg (v σ H1) (funext λy=>funext λH2=>tp_eq r σ H2 λps H3=>Q ((x,y)::ps) H3))
def prD:List D->Option (List Key×List D)
 |[]=>rP ([],[])|[_]=>rQ|k::d::r=>(keyD k).bind λk=>(prD r).map λq=>(k::q.1,d::q.2)
def dspD (ds:List D):Mo D:=(Mo.opt (prD ds)).bind λq=>.grd (q.1.Nodup/\q.1.length<=15) (.ok (.nd (.dct q.1) q.2))
theorem zl9_ {d:D}{v:V}{h:Hp}{k:Key}(e:keyD d=rP k)(o:OD K d v F h):(∀p,h p=rQ)/\v=kV k:=by
 cases d with
 |nd=>cases e|_=>unfold OD at o;exact⟨o.1,(ziZ_ e o.2).2⟩
theorem zla_:∀{ds:List D}{vs:List V}{h:Hp}{ks:List Key}{es:List D},prD ds=rP (ks,es)->ODs K ds vs F h->∃us,prU vs=(ks.zip us).map (λkv=>(kV kv.1,kv.2))/\ks.length=us.length/\ODs K es us F h
 |[],vs,h,ks,es,e,o=>by
  cases e;have o':=o;unfold ODs at o';rw[o'.1]at o ⊢;exact⟨[],rfl,rfl,o⟩
 |[_],_,_,_,_,e,_=>by cases e
 |k::d::r,vs,h,ks,es,e,o=>by
  unfold prD at e;obtain⟨k',e1,e⟩:=jv.mp e;obtain⟨q,e2,e3⟩:=jz.mp e;cases e3;unfold ODs at o;obtain⟨v,vs,h1,h2,rfl,j,ok,o⟩:=o;obtain⟨n1,rfl⟩:=zl9_ e1 ok;cases jn_no (zai_ j) n1;unfold ODs at o;obtain⟨v,vs,m1,m2,rfl,jm,od,o⟩:=o;obtain⟨us,p1,p2,p3⟩:=zla_ (ks:=q.1) (es:=q.2) e2 o;refine⟨v::us,?_,by simpa using p2,?_⟩
  ·show(_,_)::prU vs=_
   rw[p1];rfl
  ·unfold ODs;exact⟨v,us,m1,m2,rfl,jm,od,p3⟩
theorem zes_:∀(kvs acc:List (Key×V)),((acc++kvs).map (·.1)).Nodup->mergeK acc kvs=acc++kvs
 |[],acc,_=>by rw[ko];rfl
 |(k,v)::r,acc,h=>by
  show mergeK (putK acc k v) r=_
  have hk:(acc.any λkv=>decide (kv.1=k))=rS:=by
   rw[pP];intro x hx z;rw[kr,nV]at h;exact h.2.2 _ (List.mem_map_of_mem hx) k (by simp) (of_decide_eq_true z)
  have e:putK acc k v=acc++[(k,v)]:=by unfold putK;rw[hk];rfl
  rw[e,zes_ r (acc++[(k,v)]) (by rw[mx];exact h),mx];rfl
theorem zkr_ {trs:List (TE×TE)}{ra:Mo (List D)}(h:EvAs K (taP trs) E env ra):EvX K (tDisp trs) E env (ra.bind dspD):=by
 intro σ F H Q hL hs q p hp;have sn:=zF_ (H:=H) hp (.dK []);have x0:Ext F H F (upd H p (.dK [])):=.heap hs sn;rw[<- tp_eq];refine h σ F (upd H p (.dK [])) _ hL x0.2.1 ?_;cases e:ra with
 |no=>rw[e]at q;exact q|ex c=>rw[e]at q;exact λF' H' x=>(q F' H' (x0.trans x)).up x0.2.2.1|ok ds=>
  rw[e]at q;have q:After K (dspD ds) E F H (OwnK (owD K) H Q):=q;unfold dspD at q;cases e2:prD ds with
  |none=>rw[e2]at q;exact q.elim|some r=>
   obtain⟨ks,es⟩:=r;rw[e2]at q;obtain⟨⟨nd,fQ⟩,q⟩:=After.grd (show After K (.grd (ks.Nodup/\ks.length<=15) (.ok (D.nd (.dct ks) es))) E F H (OwnK (owD K) H Q)from q)
   intro F2 H2 x2 vs k aQ cz s1 o1;obtain⟨us,p1,p2,o2⟩:=zla_ e2 o1;have fq:H2 p=rP (.dK []):=x2.2.2.1 _ _ zj_;have hF:F p=rQ:=hs.free hp;have gn:F2 p=rQ:=by
    cases y:F2 p with
    |none=>rfl|some o'=>
     have:=x2.2.2.2 p hF (by rw[y];exact sN _)
     rw[zj_]at this;cases this
   have nk:k p=rQ:=by
    cases z:k p with
    |none=>rfl|some o=>have:=aQ p (by rw[z];exact sN _);rw[zj_]at this;cases this
   refine⟨fq,ks.zip us,p1,by rw[lX,<- p2,mB];exact fQ,?_⟩
   have em:((ks.zip us).map (·.1))=ks:=List.map_fst_zip (by lia)
   rw[zes_ _ [] (by rw[lY,em];exact nd),lY]
   have ne:∀{G:Hp}{b:i9}{o:HO},G p=rQ->G b=rP o->b≠p:=λg z e=>by rw[e,g]at z;cases z
   have xx:Ext F H F2 (upd H2 p (.dK (ks.zip us))):=⟨x2.1,λb o z=>by rw[zv_ (ne gn z)];exact x2.2.1 _ _ z,λb o z=>by rw[zv_ (ne hp z)];exact x2.2.2.1 _ _ (sn _ _ z),λb a1 a2=>sn.free (x2.2.2.2 b a1 a2)⟩
   have d1:Dj (one p (.dK (ks.zip us))) k:=λq=>by
    rw[ze_];split
    ·rename_i e;rw[e];exact .inr nk
    ·exact .inl rfl
   refine q F2 _ xx (.ref p) (un (one p (.dK (ks.zip us))) k) (λq z=>?_) (λq=>?_) (λq o z=>?_) ?_
   ·unfold un at z;rw[ze_]at z
    by_cases e:q=p
    ·subst e;exact hp
    ·rw[if_neg e]at z;exact sn.free (aQ q z)
   ·unfold un;rw[ze_]
    by_cases e:q=p
    ·subst e;exact .inl gn
    ·rw[if_neg e];exact cz q
   ·unfold un at z;rw[ze_]at z
    by_cases e:q=p
    ·subst e;rw[if_pos rfl]at z;cases z;exact zj_
    ·rw[if_neg e]at z;rw[zv_ e];exact s1 _ _ z
   ·show OD K _ _ _ _
    unfold OD;exact⟨p,us,_,k,rfl,⟨rfl,p2,nd⟩,zad_ d1,o2⟩
theorem zg5_ {x:V}:∀{d:D},d.un.flat?=rP x->DR K d x F
 |.fz d,e=>by unfold DR;exact zg5_ (d:=d) e
 |.non,e=>by cases e;unfold DR;rfl
 |.bl _,e=>by cases e;unfold DR;rfl
 |.int _,e=>by cases e;unfold DR;rfl
 |.str _,e=>by cases e;unfold DR;rfl
 |.nd _ _,e=>by cases e
 |.pin _,e=>by cases e
 |.gone,e=>by cases e
end
section
variable {K:j3}{E:XK}{env:Env}{t:TE}{r:Mo D}
def clW (K:jG)(q:String×Bool):iX:=if q.2 then .ref (gA K q.1)else .type q.1
def clV (K:jG)(q:String×Bool):V:=if q.2 then .ref (gA K q.1)else .ty q.1
theorem clV_W (q:String×Bool):clsV (clV K q)=rP (clW K q)/\∀u,RelV (clV K q) u->u=clW K q:=by
 unfold clV clW;split
 ·exact⟨rfl,λu h=>h⟩
 ·exact⟨rfl,λu h=>h⟩
def isaKA (K:jG)(D:i9)(cs:List iX):Option Bool:=if(isaK K D (.ref D)).isSome then W.kitAny K (.ref D) cs else rQ
def mIsaXT (K:jG)(ns:List (String×Bool)):List V->Hp->VK->Prop:=λxs H Q=>match xs with
 |[.ref p,.ref tp]=>∃D d b,H p=rP (XO p D d)/\H tp=rP (.tup (ns.map (clV K)))/\isaKA K D (ns.map (clW K))=rP b/\Q (.bl b) H|_=>False
theorem zgF_:∀{ns:List (String×Bool)}{aa:List iX},Vals (ns.map (clV K)) aa->aa=ns.map (clW K)
 |[],_,.nil=>rfl|q::ns,_,.cons a b=>by rw[ju,zgF_ b,(clV_W q).2 _ a]
theorem zfd_ {X:Cx}(ns:List (String×Bool)):CallR X (.builtin "isinstance") (mIsaXT X.K ns):=by
 intro pins s σ H xs us Q I r h;unfold mIsaXT at h;split at h
 ·rename_i p tp
  obtain⟨D,d,b,hp,ht,hk,q⟩:=h;obtain⟨u,z,rfl,r1,r2⟩:=vals2 r;obtain rfl:u=.ref p:=r1;obtain rfl:z=.ref tp:=r2;unfold isaKA at hk;split at hk
  case isFalse=>cases hk
  case isTrue g0=>
   obtain⟨b0,hb0⟩:=j6.mp g0;unfold isaK at hb0;split at hb0
   case isFalse=>cases hb0
   case isTrue g=>
    rw[iP,iP,iP,iP,iP,iP,iP]at g;obtain⟨⟨⟨⟨⟨⟨⟨g1,g7⟩,g8⟩,g2⟩,g3⟩,g4⟩,g5⟩,g6⟩:=g;obtain⟨hx,_,_⟩:=I.hok p _ hp;obtain⟨aa,rv,⟨o,ho,hc,n,hd⟩,_⟩:=I.tuple (.of ht);have e:=zgF_ rv;subst e;obtain⟨cl,dd,dt,sl⟩:=o;cases hc;cases hd;exact zz_ (W.kia_tup (LX.kitx_x (beq_iff_eq.mp g1) (beq_iff_eq.mp g7) (beq_iff_eq.mp g8) g2 (beq_iff_eq.mp g3) (beq_iff_eq.mp g4) (beq_iff_eq.mp g5) (beq_iff_eq.mp g6)) I.kIn hx ho hk (λz=>by cases z) λtk b7=>⟨.bl b,H,I.tok tk,rfl,q⟩)
 ·exact h.elim
def tCsts:List V->TA
 |[]=>tNil|v::vs=>tCons (tC v) (tCsts vs)
def mIsx (K:jG)(ns:List (String×Bool))(v:V):TE:=match ns with
 |[c]=>tCB (mIsaX K) (tCons (tC v) (tCons (tC (clV K c)) tNil))|ns=>tCB (mIsaXT K ns) (tCons (tC v) (tCons (tTup (tCsts (ns.map (clV K)))) tNil))
def tIsx (K:jG)(ns:List (String×Bool))(t:TE):TE:=λσ H Q=>t σ H λv H1=>mIsx K ns v σ H1 Q
def isxD (tb:List (String×Bool))(d:D):Mo D:=.opt (match d.un with |.nd (.exc c) _=>(tb.lookup c).map .bl |_=>rQ)
def IxOk (K:jG)(ns:List (String×Bool))(tb:List (String×Bool)):Prop:=∀p∈tb,(match ns with |[c]=>isaK K (gA K p.1) (clW K c)|ns=>isaKA K (gA K p.1) (ns.map (clW K)))=rP p.2/\ns.length<=1000
theorem zeO_:∀(vs:List V) {σ:L2.St}{H:Hp}{Q:List V->Hp->Prop},Q vs H->tCsts vs σ H Q
 |[],_,_,_,q=>q|v::vs,σ,H,Q,q=>zeO_ vs (Q:=λxs H2=>Q (v::xs) H2) q
theorem zn7_ {ns:List (String×Bool)}{tb:List (String×Bool)}(h0:IxOk K ns tb)(hx:EvX K t E env r):EvX K (tIsx K ns t) E env (r.bind (isxD tb)):=by
 intro σ F H Q hL hs q;refine ex_v hx σ F H _ hL hs (q.bind.imp λd F1 H1 x1 k1 v hv=>?_)
 have k1:=k1.imp λa F3 H3 x3 k3=>k3.back x1.2.2.1
 obtain⟨w,e,k1⟩:=k1.opt;have hv:=DR.un hv;split at e
 rotate_left
 ·cases e
 rename_i c ds ed
 obtain⟨b,eb,rfl⟩:=jz.mp e;rw[ed]at hv;obtain⟨p,us,rfl,⟨_,dd,hp⟩,_⟩:=hv.nd;have hp:=x1.2.1 _ _ hp;obtain⟨hb,hn⟩:=h0 (c,b) (zaG_ eb);have q:∀H2,Same H1 H2->Q (.bl b) H2:=λH2 s=>by
  have y:Ext F1 H1 F1 H2:=.heap x1.2.1 s;exact gotB (After.imp (show After K (.ok (.bl b)) E F1 H2 (OwnK (owD K) H1 Q)from λF' H' z=>k1 F' H' (y.trans z)) λa F3 H3 x3 k3=>k3.back y.2.2.1) y.2.1
 unfold mIsx
 match ns,hb,hn with
 |[c],hb,_=>exact⟨_,dd,clW K c,b,hp,(clV_W c).1,hb,q _ λ_ _ z=>z⟩|[],hb,hn=>
  show tCsts [] σ H1 (λxs dS=>xs.length<=jj/\∀l,dS l=rQ->mIsaXT K [] [.ref p,.ref l] (upd dS l (.tup xs)) Q)
  exact zeO_ [] ⟨zW_ (by simp),λl hl=>⟨_,dd,b,zF_ hl _ _ _ hp,zj_,hb,q _ (zF_ hl _)⟩⟩
 |a::c::ns,hb,hn=>
  show tCsts ((a::c::ns).map (clV K)) σ H1 (λxs dS=>xs.length<=jj/\∀l,dS l=rQ->mIsaXT K (a::c::ns) [.ref p,.ref l] (upd dS l (.tup xs)) Q)
  exact zeO_ ((a::c::ns).map (clV K)) ⟨zW_ (by rw[i7];lia),λl hl=>⟨_,dd,b,zF_ hl _ _ _ hp,zj_,hb,q _ (zF_ hl _)⟩⟩
end
inductive Tu where
 |repl (l m:Nat)|rst |rev |kin (x:Str) (rs:List (List Nat×List V))|kix (x:Str) (rs:List (List Nat×List V))
noncomputable def vD:V->D
 |.int i=>.int i |.non=>.non |v=>.pin v
def Tu.t (K:jG):Tu->TE->TE
 |.repl l m,t=>tRepl ⟨#[l]⟩ ⟨#[m]⟩ t|.rst,t=>tBM0 K "str" mRstrip t|.rev,t=>tRevS t (mPart (mNeg (tC (.int 1))))|.kin x rs,t=>tOp (rKIn K x rs) t (tC (.ref (gA K x)))|.kix x rs,t=>tOp (rKIx K x rs) (tC (.ref (gA K x))) t
def kixD (o:Option (List V)):Mo D:=match o with |some vs=>.grd (D.imms (vs.map vD)=rR) (.ok (.nd .ktup (vs.map vD)))|none=>.no
def Tu.f:Tu->List Nat->Mo D
 |.repl l m,s=>.grd (s.length+(s.length+1)*1<=16777216) (.ok (.str (Txt.replace ⟨s.toArray⟩ ⟨#[l]⟩ ⟨#[m]⟩).cps.toList))|.rst,s=>.lim s.length (.ok (.str (Txt.rstrip ⟨s.toArray⟩).cps.toList))|.rev,s=>.lim s.length (.ok (.str s.reverse))|.kin _ rs,s=>.ok (.bl !(atRw rs s).isSome)|.kix _ rs,s=>kixD (atRw rs s)
section
variable {K:j3}{E:XK}{F H:Hp}{env:Env}{t:TE}{r:Mo D}{d:D}{v:V}
theorem vDs:∀(vs:List V) {H:Hp},DRs K (vs.map vD) vs H
 |[],_=>by rw[mn];unfold DRs;rfl
 |v::vs,H=>by rw[ju];unfold DRs;exact⟨_,_,rfl,by cases v<;>(unfold vD DR;rfl),vDs vs⟩
theorem zeq_ {α:Type}{g:List Nat->Mo α}{C:α->Hp->Hp->Prop}(hv:DR K d v F)(k:After K ((strOf d).bind g) E F H C):∃s,v=tx s/\After K (g s) E F H C:=by
 have ha:=DR.un hv;unfold strOf at k;split at k
 ·rename_i l e;rw[e]at ha;exact⟨l,ha.str,k⟩
 ·exact k.elim
theorem ex_tu (o:Tu)(h:EvX K t E env r):EvX K (o.t K t) E env (r.bind λd=>(strOf d).bind o.f):=by
 intro σ F H Q hL hs q;cases o with
 |repl l m=>
  refine ex_v h σ F H _ hL hs (q.bind.imp λd F1 H1 x1 k1 v hv=>?_)
  obtain⟨s,rfl,k⟩:=zeq_ hv k1;obtain⟨c,k⟩:=After.grd (show After K (.grd (s.length+(s.length+1)*1<=16777216) (.ok (D.str _))) E F1 H1 (OwnK (owD K) H Q)from k)
  exact⟨_,rfl,c,gotS (After.imp k λa F5 H5 x5 k5=>k5.back x1.2.2.1) x1.2.1⟩
 |rst=>
  refine ex_v h σ F H _ hL hs (q.bind.imp λd F1 H1 x1 k1 v hv=>?_)
  obtain⟨s,rfl,k⟩:=zeq_ hv k1;obtain⟨c,k⟩:=After.lim (show After K (.lim s.length (.ok (D.str _))) E F1 H1 (OwnK (owD K) H Q)from k)
  exact⟨rfl,_,rfl,rfl,c,gotS (After.imp k λa F5 H5 x5 k5=>k5.back x1.2.2.1) x1.2.1⟩
 |rev=>
  refine(show t σ H _ from ex_v h σ F H _ hL hs (q.bind.imp λd F1 H1 x1 k1 v hv=>?_))
  obtain⟨s,rfl,k⟩:=zeq_ hv k1;obtain⟨c,k⟩:=After.lim (show After K (.lim s.length (.ok (D.str _))) E F1 H1 (OwnK (owD K) H Q)from k)
  exact⟨rfl,by simpa using c,gotS (After.imp k λa F5 H5 x5 k5=>k5.back x1.2.2.1) x1.2.1⟩
 |kin x rs=>
  refine ex_v h σ F H _ hL hs (q.bind.imp λd F1 H1 x1 k1 v hv=>?_)
  obtain⟨s,rfl,k⟩:=zeq_ hv k1;exact⟨_,rfl,rfl,gotB (After.imp (show After K (.ok (D.bl _)) E F1 H1 (OwnK (owD K) H Q)from k) λa F5 H5 x5 k5=>k5.back x1.2.2.1) x1.2.1⟩
 |kix x rs=>
  refine(show t σ H _ from ex_v h σ F H _ hL hs (q.bind.imp λd F1 H1 x1 k1 v hv=>?_))
  obtain⟨s,rfl,k⟩:=zeq_ hv k1;have k:After K (kixD (atRw rs s)) E F1 H1 (OwnK (owD K) H Q):=k;cases e:atRw rs s with
  |none=>rw[e]at k;exact k.elim|some vs=>
   rw[e]at k;obtain⟨c,k⟩:=After.grd k;exact⟨_,vs,rfl,rfl,e,λp sq=>got (After.imp k λa F5 H5 x5 k5=>k5.back x1.2.2.1) x1.2.1 (by unfold DR;exact⟨p,vs,rfl,sq,vDs vs⟩) (by unfold D.imm;exact c)⟩
end
structure Gi where
 cs:List Str
 kt:List (Str×List (List Nat)):=[]
 ex:List Str:=[]
 ix:List (List (String×Bool)×List (String×Bool)):=[]
 ct:List (String×List (String×Bool)):=[]
structure Gi.Ok (G:Gi)(K:jG):Prop where
 cs:G.cs≠[]
 kt:∀q∈G.kt,SqU K (gA K q.1) (q.2.map tx)
 ix:∀q∈G.ix,IxOk K q.1 q.2
 ct:∀q∈G.ct,CatT K q.1 q.2
inductive Bo where
 |add |mul |mod |div |pow |lt |le |gt |eq |ne |isn |inn |nin |ix
inductive Bf where
 |len |list |str |all
inductive Sm where
 |join |split |ljust
inductive Ik where
 |any |r1
inductive X where
 |v (i:Nat)|k (d:D)|g (x:Str) (d:D)
 |gt (x:Str) (ls:List (List Nat))
 |bin (o:Bo) (a b:X)|ch (o o':Bo) (a b c:X)
 |and (a b:X)|or (a b:X)|not (a:X)|ifx (c a b:X)
 |sl (a:X) (lo hi:Option X)
 |tup (as:List X)|lst (as:List X)
 |fld (a:X) (f:Str)
 |call (f:Fn) (x:Str) (as:List X)
 |bf (o:Bf) (as:List X)
 |sm (o:Sm) (a:X) (as:List X)
 |comp (lv:List Str) (fr:List (Str×Nat)) (ik:Ik) (src:List X) (tg:Tg) (c:Option X) (e:X)
 |make (f:Fn) (c:Str) (as:List X)
 |meth (ms:List (Str×Fn)) (a:X) (m:Str) (as:List X)
 |fs (ps:List X)|fmt (a:X)|rep (a:X)
 |ds3 (k v l w m u:X)
 |tu (o:Tu) (a:X)
 |isx (a:X) (ns tb:List (String×Bool))
 |isa (a:X) (n:String)|dct0
def Bo.r (K:jG):Bo->R2
 |.add=>mAddA K |.mul=>mMulX |.mod=>mMod |.div=>mDivG |.pow=>mPow
 |.lt=>mLt |.le=>mLe |.gt=>mGt |.eq=>mEqA K |.ne=>mNeA K |.isn=>mIsNot
 |.inn=>rInA K rS |.nin=>rInA K rR |.ix=>rIxA K
def Bo.f:Bo->D->D->Mo D
 |.add=>addA |.mul=>mulD |.mod=>modD |.div=>divD |.pow=>powD
 |.lt=>ltD |.le=>leD |.gt=>gtD |.eq=>eqD rS |.ne=>eqD rR |.isn=>isD rR
 |.inn=>inA rS |.nin=>inA rR |.ix=>ixA
def Bf.r (K:jG):Bf->List V->Hp->VK->Prop
 |.len=>mLenA K |.list=>mListA K |.str=>mStr |.all=>mAll K
def Bf.f:Bf->List D->Mo D
 |.len=>lenA |.list=>listA |.str=>strD |.all=>allD
def Sm.r (K:jG):Sm->V->List V->Hp->VK->Prop
 |.join=>mJoin K |.split=>mSplitG |.ljust=>mLjust
def Sm.f:Sm->List Nat->List D->Mo D
 |.join=>joinD |.split=>splitD |.ljust=>ljustD
def Ik.w (K:jG):Ik->List V->L2.St->Hp->(It->Hp->Prop)->Prop
 |.any=>iAnyW K|.r1=>λvs _ H1 R=>match vs with |[.int j] => -(2 ^ 62)<=j/\j<2 ^ 62/\R (Itr 0 j.toNat) H1 |_=>False
def Ik.t (K:jG)(o:Ik)(ta:TA):TI:=λσ H R=>ta σ H λvs H1=>o.w K vs σ H1 R
def Ik.f:Ik->List D->Mo (List D)
 |.any=>walkA |.r1=>rng1D
theorem ik_w {K:jG}{E:XK}(o:Ik):WkW K E (o.w K) o.f:=by
 cases o with
 |any=>exact w_any|r1=>exact w_rg1
theorem ik_ok {K:jG}{E:XK}{env:Env}{ta:TA}{ra:Mo (List D)}(o:Ik)(h:EvAs K ta E env ra):EvI K (o.t K ta) E (Lof K env) (ra.bind o.f) (tyD K):=ei_w (ik_w o) h
section
variable (K:j3)(G:Gi)
mutual
def X.den:XK->X->TE
 |_,.v i=>mVar i|_,.k d=>tC (d.flat?.getD .non)|_,.g _ d=>tC (d.flat?.getD .non)|_,.gt x _=>tC (.ref (gA K x))|E,.bin o a b=>tOp (o.r K) (a.den E) (b.den E)|E,.ch o o' a b c=>mChain (o.r K) (o'.r K) (a.den E) (b.den E) (c.den E)|E,.and a b=>mAndV (a.den E) (b.den E)|E,.or a b=>mOrV (a.den E) (b.den E)|E,.not a=>mNotV (a.den E)|E,.ifx c a b=>mIf (mTest (c.den E)) (a.den E) (b.den E)|E,.sl a lo hi=>tSl (mSlA K) (a.den E) (X.denO E lo) (X.denO E hi)|E,.tup as=>tTup (X.dens E as)|E,.lst as=>tLst (X.dens E as)|E,.fld a f=>tFld K G.cs (a.den E) f|E,.call f _ as=>tCall (CtG K f) [] E (X.dens E as)|E,.bf o as=>tCB (o.r K) (X.dens E as)|E,.sm o a as=>tBM K "str" (o.r K) (a.den E) (X.dens E as)|E,.comp lv fr ik src tg c e=>tComp lv fr (ik.t K (X.dens E src)) (tgT K tg) (X.denT E0 c) (e.den E0)|E,.make f c as=>tMake (gA K c) (CtG K f) [] E (X.dens E as)|E,.meth ms a m as=>tMethA K ms m E (a.den E) (X.dens E as)|E,.fs ps=>tJoin (X.denJ E ps)|E,.fmt a=>tUn mFmt (a.den E)|E,.rep a=>tUn mRepr (a.den E)|E,.ds3 a0 b0 c0 d0 e0 f0=>tDisp [(a0.den E,b0.den E),(c0.den E,d0.den E),(e0.den E,f0.den E)]|E,.tu o a=>o.t K (a.den E)|E,.isx a ns _=>tIsx K ns (a.den E)|E,.isa a n=>tCB (mIsaV K) (tCons (a.den E) (tCons (tC (.ty n)) tNil))|_,.dct0=>tDNewK
def X.dens:XK->List X->TA
 |_,[]=>tNil|E,a::as=>tCons (a.den E) (X.dens E as)
def X.denO:XK->Option X->TO
 |_,rQ=>tNoPart|E,rP a=>mPart (a.den E)
def X.denT:XK->Option X->TT
 |_,rQ=>tTrue|E,rP a=>mTest (a.den E)
def X.denJ:XK->List X->TJ
 |_,[]=>tJ0|E,a::as=>tJ1 (a.den E) (X.denJ E as)
end
end
def chD (o o':Bo)(x y:D)(r:Mo D):Mo D:=(o.f x y).bind λz=>(blD z).bind λb=>if b then r.bind λw=>o'.f y w else .ok (.bl rS)
section
variable (G:Gi)
mutual
def X.ev:Env->X->Mo D
 |env,.v i=>getE env i|_,.k d=>if d.flat?.isSome then .ok d else .no
 |_,.g _ d=>if d.flat?.isSome then .ok d else .no
 |_,.gt x ls=>if(x,ls)∈G.kt then .ok (.nd .ktup (ls.map .str))else .no
 |env,.bin o a b=>(a.ev env).bind λx=>(b.ev env).bind λy=>o.f x y|env,.ch o o' a b c=>(a.ev env).bind λx=>(b.ev env).bind λy=>chD o o' x y (c.ev env)|env,.and a b=>(a.ev env).bind λx=>andD x (b.ev env)|env,.or a b=>(a.ev env).bind λx=>orD x (b.ev env)|env,.not a=>(a.ev env).bind λx=>(blD x).bind λb=>.ok (.bl (!b))|env,.ifx c a b=>((c.ev env).bind blD).bind λt=>if t then a.ev env else b.ev env
 |env,.sl a lo hi=>(a.ev env).bind λx=>(X.evO env lo).bind λl=>(X.evO env hi).bind λh=>slA x l h|env,.tup as=>(X.evs env as).bind λds=>.lim ds.length (.ok (.nd .tup ds))|env,.lst as=>(X.evs env as).bind λds=>.lim ds.length (.ok (.nd .lst ds))|env,.fld a f=>(a.ev env).bind (fldD G.cs f)|env,.call f _ as=>(X.evs env as).bind λds=>f.val (ds.map .vw)|env,.bf o as=>(X.evs env as).bind o.f|env,.sm o a as=>(a.ev env).bind λd=>(strOf d).bind λl=>(X.evs env as).bind λc=>o.f l c|env,.comp lv fr ik src tg c e=>if tg.is.all (·<lv.length)then(((X.evs env src).bind ik.f).bind λl=>.opt (tgsD tg l)).bind λxs=>(compM (λx=>cond1 (X.evT (setE (cE lv fr env) tg.is x) c) (e.ev (setE (cE lv fr env) tg.is x))) xs []).bind λys=>.ok (.nd .lst ys)else .no
 |env,.make f c as=>(X.evs env as).bind (makeD f c)|env,.meth ms a m as=>if ms.isEmpty then .no else(a.ev env).bind λd=>methD ms m d (X.evs env as)
 |env,.fs ps=>(X.evJ env ps []).bind λl=>.lim l.length (.ok (.str l))|env,.fmt a=>(a.ev env).bind fmtD|env,.rep a=>(a.ev env).bind repD|env,.ds3 a0 b0 c0 d0 e0 f0=>(a0.ev env).bind λa=>(b0.ev env).bind λb=>(c0.ev env).bind λc=>(d0.ev env).bind λd=>(e0.ev env).bind λe=>(f0.ev env).bind λf=>dspD [a,b,c,d,e,f]|env,.tu o a=>(a.ev env).bind λd=>(strOf d).bind o.f|env,.isx a ns tb=>if(ns,tb)∈G.ix then(a.ev env).bind (isxD tb)else .no
 |env,.isa a n=>(a.ev env).bind (isaD n)|_,.dct0=>.ok (.nd (.dct []) [])
def X.evs:Env->List X->Mo (List D)
 |_,[]=>.ok []|env,a::as=>(a.ev env).bind λd=>(X.evs env as).bind λds=>.ok (d::ds)
def X.evO:Env->Option X->Mo (Option Int)
 |_,rQ=>.ok rQ|env,rP a=>(a.ev env).bind λd=>(intD d).bind λi=>.ok (rP i)
def X.evT:Env->Option X->Mo Bool
 |_,rQ=>.ok rR|env,rP a=>(a.ev env).bind blD
def X.evJ:Env->List X->List Nat->Mo (List Nat)
 |_,[],acc=>.ok acc|env,a::as,acc=>(a.ev env).bind λd=>(strOf d).bind λl=>.lim (acc.length+l.length) (X.evJ env as (acc++l))
end
end
section
variable {K:j3}{E:XK}{env:Env}{G:Gi}
theorem zl0_ (o:Bo):Op2D K (o.r K) E o.f:=by
 cases o with
 |add=>exact zjN_|mul=>exact zow_|mod=>exact znt_|div=>exact zms_|pow=>exact zm7_|lt=>exact od_lt|le=>exact od_le|gt=>exact od_gt|eq=>exact od_eq|ne=>exact od_ne|isn=>exact zm5_|inn=>exact zjE_|nin=>exact zjE_|ix=>exact zoe_
theorem bf_ok (o:Bf):BlD K (o.r K) E o.f:=by
 cases o with
 |len=>exact zly_|list=>exact zht_|str=>exact zmV_|all=>exact zmE_
theorem sm_ok (o:Sm):MeD K (o.r K) E o.f:=by
 cases o with
 |join=>exact zkN_|split=>exact zie_|ljust=>exact zhg_
theorem znr_ {α:Type}{O:Own α}{m:Mo α}{F H:Hp}{Q:VK}(q:After K m E F H (λc F' H'=>∀v,O.fr.R c v F'->Q v H')):After K m E F H (OwnK O H Q):=by
 cases m with
 |no=>exact q|ex c=>exact q|ok a=>
  intro F' H' x v h' fresh d s o;refine q (un F' h') H' ⟨x.1.trans z2_,λp o e=>?_,x.2.2.1,λp a b=>?_⟩ v (O.frz d o)
  ·unfold un at e
   cases z:F' p with
   |some w=>rw[z]at e;cases e;exact x.2.1 _ _ z|none=>rw[z]at e;exact s _ _ e
  ·unfold un at b
   cases z:F' p with
   |some w=>exact x.2.2.2 p a (by rw[z];exact sN _)|none=>rw[z]at b;exact fresh p b
theorem ex_ch {o o':Bo}{t1 t2 t3:TE}{r1 r2 r3:Mo D}(h1:EvX K t1 E env r1)(h2:EvX K t2 E env r2)(h3:EvX K t3 E env r3):EvX K (mChain (o.r K) (o'.r K) t1 t2 t3) E env (r1.bind λx=>r2.bind λy=>chD o o' x y r3):=by
 intro σ F H Q hL hs q;refine ex_v h1 σ F H _ hL hs (q.bind.imp λa F1 H1 x1 k1 v1 aM=>?_)
 refine ex_v h2 σ F1 H1 _ (hL.mono x1.1) x1.2.1 (k1.bind.imp λb F2 H2 x2 k2 v2 eB=>?_)
 refine zl0_ o a b v1 v2 F2 H2 _ x2.2.1 ((tyD K).mono x2.1 aM) eB (znr_ (k2.bind.imp λz F3 H3 x3 k3 w hw=>?_))
 have hz:=DR.un hw;unfold blD at k3;split at k3
 ·rename_i c e
  rw[e]at hz;cases hz.bl;refine⟨λz=>?_,λz=>?_⟩
  ·subst z
   refine ex_v h3 σ F3 H3 _ (hL.mono (x1.1.trans (x2.1.trans x3.1))) x3.2.1 (After.imp (After.bind (show After K (r3.bind λw=>o'.f b w) E F3 H3 _ from k3)) λw F4 H4 x4 k4 v4 fg=>?_)
   exact zl0_ o' b w v2 v4 F4 H4 Q x4.2.1 ((tyD K).mono (x3.1.trans x4.1) eB) fg (k4.imp λa F5 H5 x5 k5=>k5.back (x1.2.2.1.trans (x2.2.2.1.trans (x3.2.2.1.trans x4.2.2.1))))
  ·subst z
   exact gotB (After.imp (show After K (.ok (D.bl rS)) E F3 H3 (OwnK (owD K) H Q)from k3) λa F5 H5 x5 k5=>k5.back (x1.2.2.1.trans (x2.2.2.1.trans x3.2.2.1))) x3.2.1
 ·exact k3.elim
theorem ex_k {d:D}(i:Str):EvX K (tC (d.flat?.getD .non)) E env (if d.flat?.isSome then .ok d else .no):=by
 cases e:d.flat? with
 |none=>exact λσ F H Q hL hs q=>q.elim|some v=>
  intro σ F H Q hL hs q;have q:After K (.ok d) E F H (OwnK (owD K) H Q):=q;show Q v H
  cases d with
  |non=>cases e;exact gotN q hs|bl=>cases e;exact gotB q hs|int=>cases e;exact gotI q hs|str=>cases e;exact gotS q hs|_=>cases e
theorem zeb_:∀ls:List (List Nat),D.imms (ls.map .str)=rR
 |[]=>rfl|l::ls=>by rw[ju];unfold D.imms;rw[zeb_ ls];rfl
mutual
theorem X.sound (g0:G.Ok K):∀(x:X) (E:XK) (env:Env),EvX K (x.den K G E) E env (x.ev G env)
 |.v i,E,env=>zoz_ i|.k d,E,env=>ex_k ""|.g x d,E,env=>ex_k x|.gt x ls,E,env=>by
  show EvX K _ E env (if _ then _ else _)
  by_cases h:(x,ls)∈G.kt
  ·rw[if_pos h]
   exact ex_c (λF=>by unfold DR;exact⟨_,_,rfl,g0.kt _ h,zeR_ ls⟩) (by unfold D.imm;exact zeb_ ls)
  ·rw[if_neg h];exact λσ F H Q hL hs q=>q.elim
 |.bin o a b,E,env=>ex_op (zl0_ o) (X.sound g0 a E env) (X.sound g0 b E env)|.ch o o' a b c,E,env=>ex_ch (X.sound g0 a E env) (X.sound g0 b E env) (X.sound g0 c E env)|.and a b,E,env=>znT_ (X.sound g0 a E env) (X.sound g0 b E env)|.or a b,E,env=>ex_or (X.sound g0 a E env) (X.sound g0 b E env)|.not a,E,env=>zmC_ (X.sound g0 a E env)|.ifx c a b,E,env=>ex_if (ze8_ (X.sound g0 c E env)) (X.sound g0 a E env) (X.sound g0 b E env)|.sl a lo hi,E,env=>znY_ (X.sound g0 a E env) (X.soundO g0 lo E env) (X.soundO g0 hi E env)|.tup as,E,env=>zn1_ (X.sounds g0 as E env)|.lst as,E,env=>zmt_ (X.sounds g0 as E env)|.fld a f,E,env=>zoa_ g0.cs (X.sound g0 a E env)|.call f x as,E,env=>zky_ (X.sounds g0 as E env)|.bf o as,E,env=>ex_cb (bf_ok o) (X.sounds g0 as E env)|.sm o a as,E,env=>ex_me (sm_ok o) (X.sound g0 a E env) (X.sounds g0 as E env)|.comp lv fr ik src tg c e,E,env=>by
  show EvX K _ E env (if _ then _ else _)
  split
  ·rename_i h
   exact zk2_ (ik_ok ik (X.sounds g0 src E env)) (λi hi=>by simpa using ky.mp h i hi) (λa=>X.soundT g0 c E0 _) (λa=>X.sound g0 e E0 _)
  ·exact λσ F H Q hL hs q=>q.elim
 |.make f c as,E,env=>zkg_ (X.sounds g0 as E env)|.meth ms a m as,E,env=>by
  show EvX K _ E env (if _ then _ else _)
  split
  ·exact λσ F H Q hL hs q=>q.elim
  ·rename_i h;exact zjm_ (λe=>h (by rw[e];rfl)) (X.sound g0 a E env) (X.sounds g0 as E env)
 |.fs ps,E,env=>ex_fs (X.soundJ g0 ps E env)|.fmt a,E,env=>zoh_ (X.sound g0 a E env)|.rep a,E,env=>zmj_ (X.sound g0 a E env)|.tu o a,E,env=>ex_tu o (X.sound g0 a E env)|.isx a ns tb,E,env=>by
  show EvX K _ E env (if(ns,tb)∈G.ix then _ else _)
  split
  ·rename_i h;exact zn7_ (g0.ix _ h) (X.sound g0 a E env)
  ·exact λ_ _ _ _ _ _ q=>q.elim
 |.isa a n,E,env=>znn_ n (X.sound g0 a E env)|.ds3 a0 b0 c0 d0 e0 f0,E,env=>by
  have:=zkr_ (trs:=[(_,_),(_,_),(_,_)]) (zax_ (X.sound g0 a0 E env) (zax_ (X.sound g0 b0 E env) (zax_ (X.sound g0 c0 E env) (zax_ (X.sound g0 d0 E env) (zax_ (X.sound g0 e0 E env) (zax_ (X.sound g0 f0 E env) zgS_))))));simp only[Mo.bind_assoc]at this;exact this
 |.dct0,E,env=>zi2_
theorem X.sounds (g0:G.Ok K):∀(as:List X) (E:XK) (env:Env),EvAs K (X.dens K G E as) E env (X.evs G env as)
 |[],E,env=>zgS_|a::as,E,env=>zax_ (X.sound g0 a E env) (X.sounds g0 as E env)
theorem X.soundO (g0:G.Ok K):∀(a:Option X) (E:XK) (env:Env),EvP K (X.denO K G E a) E (Lof K env) (X.evO G env a)
 |none,E,env=>ep_no|some a,E,env=>ep_x (X.sound g0 a E env)
theorem X.soundT (g0:G.Ok K):∀(a:Option X) (E:XK) (env:Env),EvT K (X.denT K G E a) E (Lof K env) (X.evT G env a)
 |none,E,env=>zjj_|some a,E,env=>ze8_ (X.sound g0 a E env)
theorem X.soundJ (g0:G.Ok K):∀(as:List X) (E:XK) (env:Env),EvJs K (X.denJ K G E as) E env (X.evJ G env as)
 |[],E,env=>by
  have:X.evJ G env []=.ok:=by funext acc;unfold X.evJ;rfl
  rw[this];unfold X.denJ;exact zlB_
 |a::as,E,env=>by
  have:X.evJ G env (a::as)=λacc=>(a.ev G env).bind λd=>(strOf d).bind λl=>.lim (acc.length+l.length) (X.evJ G env as (acc++l)):=by funext acc;rw[X.evJ]
  rw[this];unfold X.denJ;exact zhs_ (X.sound g0 a E env) (X.soundJ g0 as E env)
end
end
mutual
def X.uses:X->List Nat
 |.v i=>[i]|.k _=>[]|.g _ _=>[]|.gt _ _=>[]|.bin _ a b=>a.uses++b.uses|.ch _ _ a b c=>a.uses++b.uses++c.uses|.and a b=>a.uses++b.uses|.or a b=>a.uses++b.uses|.not a=>a.uses|.ifx c a b=>c.uses++a.uses++b.uses|.sl a lo hi=>a.uses++X.usesO lo++X.usesO hi|.tup as=>X.usesL as|.lst as=>X.usesL as|.fld a _=>a.uses|.call _ _ as=>X.usesL as|.bf _ as=>X.usesL as|.sm _ a as=>a.uses++X.usesL as|.comp _ fr _ src _ _ _=>X.usesL src++fr.map (·.2)|.make _ _ as=>X.usesL as|.meth _ a _ as=>a.uses++X.usesL as|.fs ps=>X.usesL ps|.fmt a=>a.uses|.rep a=>a.uses|.tu _ a=>a.uses|.isa a _=>a.uses|.isx a _ _=>a.uses|.ds3 a0 b0 c0 d0 e0 f0=>a0.uses++(b0.uses++(c0.uses++(d0.uses++(e0.uses++f0.uses))))|.dct0=>[]
def X.usesL:List X->List Nat
 |[]=>[]|a::as=>a.uses++X.usesL as
def X.usesO:Option X->List Nat
 |none=>[]|some a=>a.uses
end
def Alike (is:List Nat)(e e':Env):Prop:=∀i∈is,getE e i=getE e' i
theorem Alike.l {is js:List Nat}{e e':Env}(h:Alike (is++js) e e'):Alike is e e':=λi hi=>h i (kj _ hi)
theorem Alike.r {is js:List Nat}{e e':Env}(h:Alike (is++js) e e'):Alike js e e':=λi hi=>h i (jr _ hi)
section
variable {G:Gi}
theorem zlp_ {lv:List Str}{fr:List (Str×Nat)}{e e':Env}(h:Alike (fr.map (·.2)) e e')(j:Nat):getE (cE lv fr e) j=getE (cE lv fr e') j:=by
 unfold cE;by_cases hj:j<lv.length
 ·unfold getE
  rw[lD (by rw[i7];exact hj),lD (by rw[i7];exact hj)]
 ·have hj:=pW hj
  have key:∀e:Env,getE (lv.map (λ_=>rQ)++fr.map λq=>(e[q.2]?).join) j=match fr[j-lv.length]? with |some q=>getE e q.2 |none=>.no:=λe=>by
   unfold getE;rw[kR (by rw[i7];exact hj),i7,jB]
   cases fr[j-lv.length]? with
   |none=>rfl|some q=>
    rw[Option.map_some];dsimp only;cases e[q.2]? with |none=>rfl |some o=>cases o<;>rfl
  rw[key,key];cases z:fr[j-lv.length]? with
  |none=>rfl|some q=>exact h q.2 (j4.mpr ⟨q,l6 z,rfl⟩)
theorem zhv_ {e e':Env}{i:Nat}{o:Option D}(hl:e.length=e'.length)(h:∀j,getE e j=getE e' j)(j:Nat):getE (e.set i o) j=getE (e'.set i o) j:=by
 by_cases hj:i=j
 ·subst hj
  unfold getE;rw[lb,lb,if_pos rfl,if_pos rfl,hl]
 ·have:=h j
  unfold getE at this ⊢;rw[jI hj,jI hj];exact this
theorem zcU_:∀{is:List Nat}{ds:List D}{e e':Env},e.length=e'.length->(∀j,getE e j=getE e' j)->∀j,getE (setE e is ds) j=getE (setE e' is ds) j
 |[],_,_,_,_,h=>h|_::_,[],_,_,_,h=>h|i::is,d::ds,e,e',hl,h=>λj=>zcU_ (is:=is) (ds:=ds) (e:=e.set i (rP d.vw)) (e':=e'.set i (rP d.vw)) (by rw[lj,lj,hl]) (zhv_ hl h) j
theorem zm6_ {lv:List Str}{fr:List (Str×Nat)}{e e':Env}:(cE lv fr e).length=(cE lv fr e').length:=by unfold cE;simp
mutual
theorem X.ev_uses:∀(x:X) {e e':Env},Alike x.uses e e'->x.ev G e=x.ev G e'
 |.v i,e,e',h=>h i (List.mem_singleton_self _)|.k d,e,e',h=>rfl|.g x d,e,e',h=>rfl|.gt x ls,e,e',h=>rfl|.bin o a b,e,e',h=>by show Mo.bind _ _=Mo.bind _ _;rw[X.ev_uses a h.l,X.ev_uses b h.r]
 |.ch o o' a b c,e,e',h=>by show Mo.bind _ _=Mo.bind _ _;rw[X.ev_uses a h.l.l,X.ev_uses b h.l.r,X.ev_uses c h.r]
 |.and a b,e,e',h=>by show Mo.bind _ _=Mo.bind _ _;rw[X.ev_uses a h.l,X.ev_uses b h.r]
 |.or a b,e,e',h=>by show Mo.bind _ _=Mo.bind _ _;rw[X.ev_uses a h.l,X.ev_uses b h.r]
 |.not a,e,e',h=>by show Mo.bind _ _=Mo.bind _ _;rw[X.ev_uses a h]
 |.ifx c a b,e,e',h=>by show Mo.bind _ _=Mo.bind _ _;rw[X.ev_uses c h.l.l,X.ev_uses a h.l.r,X.ev_uses b h.r]
 |.sl a lo hi,e,e',h=>by show Mo.bind _ _=Mo.bind _ _;rw[X.ev_uses a h.l.l,X.evO_uses lo h.l.r,X.evO_uses hi h.r]
 |.tup as,e,e',h=>by show Mo.bind _ _=Mo.bind _ _;rw[X.evs_uses as h]
 |.lst as,e,e',h=>by show Mo.bind _ _=Mo.bind _ _;rw[X.evs_uses as h]
 |.fld a f,e,e',h=>by show Mo.bind _ _=Mo.bind _ _;rw[X.ev_uses a h]
 |.call f x as,e,e',h=>by show Mo.bind _ _=Mo.bind _ _;rw[X.evs_uses as h]
 |.bf o as,e,e',h=>by show Mo.bind _ _=Mo.bind _ _;rw[X.evs_uses as h]
 |.sm o a as,e,e',h=>by show Mo.bind _ _=Mo.bind _ _;rw[X.ev_uses a h.l,X.evs_uses as h.r]
 |.comp lv fr ik src tg c x,e,e',h=>by
  show(if _ then Mo.bind _ _ else _)=(if _ then Mo.bind _ _ else _)
  rw[X.evs_uses src h.l];have g:∀ds j,getE (setE (cE lv fr e) tg.is ds) j=getE (setE (cE lv fr e') tg.is ds) j:=λds=>zcU_ zm6_ (zlp_ h.r)
  have g1:∀ds,X.evT G (setE (cE lv fr e) tg.is ds) c=X.evT G (setE (cE lv fr e') tg.is ds) c:=λds=>X.evT_uses c λi _=>g ds i
  have g2:∀ds,x.ev G (setE (cE lv fr e) tg.is ds)=x.ev G (setE (cE lv fr e') tg.is ds):=λds=>X.ev_uses x λi _=>g ds i
  have g3:(λds=>cond1 (X.evT G (setE (cE lv fr e) tg.is ds) c) (x.ev G (setE (cE lv fr e) tg.is ds)))=λds=>cond1 (X.evT G (setE (cE lv fr e') tg.is ds) c) (x.ev G (setE (cE lv fr e') tg.is ds)):=funext λds=>by rw[g1,g2]
  rw[g3]
 |.make f c as,e,e',h=>by show Mo.bind _ _=Mo.bind _ _;rw[X.evs_uses as h]
 |.meth ms a m as,e,e',h=>by show(if _ then _ else Mo.bind _ _)=(if _ then _ else Mo.bind _ _);rw[X.ev_uses a h.l,X.evs_uses as h.r]
 |.fs ps,e,e',h=>by show Mo.bind _ _=Mo.bind _ _;rw[X.evJ_uses ps h []]
 |.fmt a,e,e',h=>by show Mo.bind _ _=Mo.bind _ _;rw[X.ev_uses a h]
 |.rep a,e,e',h=>by show Mo.bind _ _=Mo.bind _ _;rw[X.ev_uses a h]
 |.tu o a,e,e',h=>by show Mo.bind _ _=Mo.bind _ _;rw[X.ev_uses a h]
 |.isx a ns tb,e,e',h=>by show(if _ then Mo.bind _ _ else _)=(if _ then Mo.bind _ _ else _);rw[X.ev_uses a h]
 |.isa a n,e,e',h=>by show Mo.bind _ _=Mo.bind _ _;rw[X.ev_uses a h]
 |.ds3 a0 b0 c0 d0 e0 f0,e,e',h=>by show Mo.bind _ _=Mo.bind _ _;rw[X.ev_uses a0 h.l,X.ev_uses b0 h.r.l,X.ev_uses c0 h.r.r.l,X.ev_uses d0 h.r.r.r.l,X.ev_uses e0 h.r.r.r.r.l,X.ev_uses f0 h.r.r.r.r.r]
 |.dct0,e,e',h=>rfl
theorem X.evs_uses:∀(as:List X) {e e':Env},Alike (X.usesL as) e e'->X.evs G e as=X.evs G e' as
 |[],e,e',h=>rfl|a::as,e,e',h=>by show Mo.bind _ _=Mo.bind _ _;rw[X.ev_uses a h.l,X.evs_uses as h.r]
theorem X.evO_uses:∀(a:Option X) {e e':Env},Alike (X.usesO a) e e'->X.evO G e a=X.evO G e' a
 |none,e,e',h=>rfl|some a,e,e',h=>by show Mo.bind _ _=Mo.bind _ _;rw[X.ev_uses a h]
theorem X.evT_uses:∀(a:Option X) {e e':Env},Alike (X.usesO a) e e'->X.evT G e a=X.evT G e' a
 |none,e,e',h=>rfl|some a,e,e',h=>by show Mo.bind _ _=Mo.bind _ _;rw[X.ev_uses a h]
theorem X.evJ_uses:∀(as:List X) {e e':Env},Alike (X.usesL as) e e'->∀acc,X.evJ G e as acc=X.evJ G e' as acc
 |[],e,e',h,acc=>by unfold X.evJ;rfl
 |a::as,e,e',h,acc=>by
  unfold X.usesL at h;rw[X.evJ,X.evJ,X.ev_uses a h.l];congr 1;funext d;congr 1;funext l;rw[X.evJ_uses as h.r]
end
end
mutual
noncomputable def D.cold:D->Bool
 |.nd .tup ds=>D.colds ds|.nd .ktup ds=>D.colds ds|.nd _ _=>rS|_=>rR
noncomputable def D.colds:List D->Bool
 |[]=>rR|d::ds=>d.cold && D.colds ds
end
section
variable {K:j3}{E:XK}{F F' F0 F1 F2 H0 h h1 h2 h3 k H H' H1 H2:Hp}{d:D}{ds:List D}{v:V}{us vs:List V}{p:i9}{Q:VK}{env:Env}{t:TE}{ws:Ws}{σ:L2.St}{G:Gi}
theorem OD.cold:∀{d:D}{v:V}{h:Hp},d.cold=rR->OD K d v F h->(∀p,h p=rQ)/\DR K d v F
 |.nd .tup ds,_,h,z,q=>by
  unfold D.cold at z;unfold OD at q;obtain⟨p,us,h0,h2,e,c,j,r⟩:=q;obtain⟨n,r⟩:=go z r;refine⟨λp=>?_,by unfold DR;exact⟨p,us,e,c.1,r⟩⟩
  rcases j p with⟨_,y⟩|⟨_,y⟩
  ·rw[y,n]
  ·rw[y,c.2]
 |.nd .ktup ds,_,h,z,q=>by
  unfold D.cold at z;unfold OD at q;obtain⟨p,us,h0,h2,e,c,j,r⟩:=q;obtain⟨n,r⟩:=go z r;refine⟨λp=>?_,by unfold DR;exact⟨p,us,e,c.1,r⟩⟩
  rcases j p with⟨_,y⟩|⟨_,y⟩
  ·rw[y,n]
  ·rw[y,c.2]
 |.nd .lst _,_,_,z,_=>by simp[D.cold]at z
 |.nd .scr _,_,_,z,_=>by simp[D.cold]at z
 |.nd (.dct _) _,_,_,z,_=>by simp[D.cold]at z
 |.nd (.obj _ _) _,_,_,z,_=>by simp[D.cold]at z
 |.non,_,_,_,q=>by unfold OD at q;exact q
 |.bl _,_,_,_,q=>by unfold OD at q;exact q
 |.int _,_,_,_,q=>by unfold OD at q;exact q
 |.str _,_,_,_,q=>by unfold OD at q;exact q
 |.fz _,_,_,_,q=>by unfold OD at q;exact q
 |.pin _,_,_,_,q=>by unfold OD at q;exact q
 |.gone,_,_,_,q=>by unfold OD at q;exact q
where go:∀{ds:List D}{us:List V}{h:Hp},D.colds ds=rR->ODs K ds us F h->(∀p,h p=rQ)/\DRs K ds us F
 |[],_,_,_,q=>by unfold ODs at q;exact⟨q.2,by unfold DRs;exact q.1⟩
 |d::ds,_,h,z,q=>by
  unfold D.colds at z;obtain⟨z1,z2⟩:=jP.mp z;unfold ODs at q;obtain⟨v,vs,h1,h2,e,j,a,r⟩:=q;obtain⟨n1,a⟩:=OD.cold z1 a;obtain⟨n2,r⟩:=go z2 r;refine⟨λp=>?_,by unfold DRs;exact⟨v,vs,e,a,r⟩⟩
  rcases j p with⟨_,y⟩|⟨_,y⟩
  ·rw[y,n2]
  ·rw[y,n1]
theorem zea_:∀{d:D},d.imm=rR->d.cold=rR
 |.nd .tup ds,z=>by unfold D.imm at z;unfold D.cold;exact go z
 |.nd .ktup ds,z=>by unfold D.imm at z;unfold D.cold;exact go z
 |.nd .lst _,z=>by simp[D.imm]at z
 |.nd .scr _,z=>by simp[D.imm]at z
 |.nd (.dct _) _,z=>by simp[D.imm]at z
 |.nd (.obj _ _) _,z=>by simp[D.imm]at z
 |.non,_=>rfl|.bl _,_=>rfl|.int _,_=>rfl|.str _,_=>rfl|.fz _,_=>rfl|.pin _,_=>rfl|.gone,_=>rfl
where go:∀{ds:List D},D.imms ds=rR->D.colds ds=rR
 |[],_=>rfl|d::ds,z=>by
  unfold D.imms at z;obtain⟨z1,z2⟩:=jP.mp z;unfold D.colds;rw[zea_ z1,go z2];rfl
theorem zlH_ (d:D):d.vw.cold=rR:=by
 unfold D.vw;split
 ·exact zea_ (by assumption)
 ·split<;>rfl
theorem vw_vw (d:D):d.vw.vw=d.vw:=by
 unfold D.vw;by_cases h:d.imm=rR
 ·rw[if_pos h,if_pos h]
 ·rw[if_neg h]
  cases d with
  |fz d=>dsimp only;rw[if_neg h]|_=>dsimp only;rw[if_neg (by unfold D.imm;exact h)]
theorem zal_ (ok:Okk F0 H0 F1 h H1)(j:Jn k h2 h)(ak:Okk F1 (less H1 h2) F2 h3 H2):Same F1 F2/\Dj k h3/\Okk F0 H0 F2 (un k h3) H2:=by
 obtain⟨x,d,s,fr,nt⟩:=ok;obtain⟨x2,d2,s2,dP,nt2⟩:=ak;have kh:∀p,k p≠rQ->(less H1 h2) p≠rQ:=λp z=>by
  cases y:k p with
  |none=>exact absurd y z|some o=>
   have n2:h2 p=rQ:=by
    rcases j.dj p with w |w
    ·rw[w]at y;cases y
    ·exact w
   rw[z9_ n2,s _ _ (j.l _ _ y)];exact sN _
 have dk:Dj k h3:=λp=>by
  cases y:k p with
  |none=>exact .inl rfl|some o=>
   right;cases w:h3 p with
   |none=>rfl|some o'=>exact absurd (dP p (by rw[w];exact sN _)) (kh p (by rw[y];exact sN _))
 have fR:Same H0 (less H1 h2):=λp o e=>by
  have n2:h2 p=rQ:=by
   cases w:h2 p with
   |none=>rfl|some o'=>have:=fr p (by rw[j.r _ _ w];exact sN _);rw[this]at e;cases e
  rw[z9_ n2];exact x.2.2.1 _ _ e
 refine⟨x2.1,dk,⟨x.1.trans x2.1,x2.2.1,fR.trans x2.2.2.1,λp a b=>?_⟩,λp=>?_,λp o e=>?_,λp z=>?_,λp xs e=>?_⟩
 ·cases y:F1 p with
  |some o=>exact x.2.2.2 p a (by rw[y];exact sN _)|none=>exact fR.free (x2.2.2.2 p y b)
 ·unfold un
  cases y:k p with
  |none=>exact d2 p|some o=>
   left;cases w:F2 p with
   |none=>rfl|some o'=>
    have n1:F1 p=rQ:=by
     rcases d p with z |z
     ·exact z
     ·rw[j.l _ _ y]at z;cases z
    exact absurd (x2.2.2.2 p n1 (by rw[w];exact sN _)) (kh p (by rw[y];exact sN _))
 ·unfold un at e
  cases y:k p with
  |none=>rw[y]at e;exact s2 _ _ e|some o'=>
   rw[y]at e;cases e;refine x2.2.2.1 _ _ ?_;have n2:h2 p=rQ:=by
    rcases j.dj p with w |w
    ·rw[w]at y;cases y
    ·exact w
   rw[z9_ n2];exact s _ _ (j.l _ _ y)
 ·unfold un at z
  cases y:k p with
  |none=>rw[y]at z;exact fR.free (dP p z)|some o=>exact fr p (by rw[j.l _ _ y];exact sN _)
 ·unfold un at e
  cases y:k p with
  |none=>rw[y]at e;exact nt2 p xs e|some o=>rw[y]at e;cases e;exact nt p xs (j.l _ _ y)
theorem zff_ (ok:Okk F0 H0 F1 h H1)(j:Jn k h2 h):Okk F1 (less H1 h2) F1 h2 H1:=
 zaX_ ok.1.2.1 (dj_r ok.2.1 j) (j.r.trans ok.2.2.1) λp xs e=>ok.2.2.2.2 p xs (j.r _ _ e)
theorem zbg_ {c:Xc}(ok:Okk F0 H0 F1 h H1)(j:Jn k h2 h)(t:Tell K E c H0 F2 H2):Tell K E c (less H1 h2) F2 H2:=by
 refine t.up λp o e=>?_
 have n2:h2 p=rQ:=by
  cases w:h2 p with
  |none=>rfl|some o'=>have:=ok.2.2.2.1 p (by rw[j.r _ _ w];exact sN _);rw[this]at e;cases e
 rw[z9_ n2];exact ok.1.2.2.1 _ _ e
def frz1 (env:Env)(i:Nat):Env:=match env[i]? with |some (rP d)=>env.set i (rP d.vw)|_=>env
def frzE (env:Env)(is:List Nat):Env:=is.foldl frz1 env
theorem zfp_ {i:Nat}(hL:Hold (LofW K ws env) σ F h)(ok:Okk F0 H0 F h H):∃F' h',Hold (LofW K ws (frz1 env i)) σ F' h'/\Okk F0 H0 F' h' H:=by
 unfold frz1;split
 ·rename_i d hi
  obtain⟨o,k1,k2,e1,j,pp,f⟩:=Hold.atG hL (z4_ hi);obtain⟨v,rfl,hv,od⟩:=zbc_ pp;obtain⟨o1,o2,o3,o4,o5⟩:=ok;have d1:DR K d v (un F k1):=OD.view z2_ (zcu_ (dj_l o2 j)) od;refine⟨un F k1,k2,?_,⟨o1.1.trans z2_,λp o e=>?_,o1.2.2.1,λp a b=>?_⟩,λp=>?_,j.r.trans o3,λp z=>?_,λp xs e=>o5 p xs (j.r _ _ e)⟩
  ·have:=f (slotW K (ws i) (rP d.vw)) (rP v) (un F k1) (λ_=>rQ) k2 z2_ (zbL_ hv (OD.vw (λ_=>rfl) d1)) λp=>.inl ⟨rfl,rfl⟩
   rw[zbO_,zbT_ e1]at this;exact this
  ·unfold un at e
   cases z:F p with
   |some w=>rw[z]at e;cases e;exact o1.2.1 _ _ z|none=>rw[z]at e;exact o3 _ _ (j.l _ _ e)
  ·unfold un at b
   cases z:F p with
   |some w=>exact o1.2.2.2 p a (by rw[z];exact sN _)|none=>
    rw[z]at b;cases y:k1 p with
    |none=>exact absurd y b|some w=>exact o4 p (by rw[j.l _ _ y];exact sN _)
  ·unfold un
   cases z:F p with
   |some w=>
    rcases dj_r o2 j p with y |y
    ·rw[y]at z;cases z
    ·exact .inr y
   |none=>exact j.dj p
  ·cases y:k2 p with
   |none=>exact absurd y z|some w=>exact o4 p (by rw[j.r _ _ y];exact sN _)
 ·exact⟨F,h,hL,ok⟩
theorem zex_:∀(is:List Nat) {env:Env}{F h:Hp},Hold (LofW K ws env) σ F h->Okk F0 H0 F h H->∃F' h',Hold (LofW K ws (frzE env is)) σ F' h'/\Okk F0 H0 F' h' H
 |[],env,F,h,hL,ok=>⟨F,h,hL,ok⟩|i::is,env,F,h,hL,ok=>by
  obtain⟨F1,h1,a,b⟩:=zfp_ (i:=i) hL ok;exact zex_ is a b
theorem zfZ_ (env:Env)(i j:Nat):getE (frz1 env i) j=getE env j:=by
 unfold frz1;split
 ·rename_i d hi
  unfold getE;by_cases e:i=j
  ·subst e;rw[kY (jN.mp hi).1,hi];dsimp only;rw[vw_vw]
  ·rw[jI e]
 ·rfl
theorem zd2_:∀(is:List Nat) (env:Env) (j:Nat),getE (frzE env is) j=getE env j
 |[],_,_=>rfl|i::is,env,j=>(zd2_ is (frz1 env i) j).trans (zfZ_ env i j)
def coldE (env:Env):Env:=env.map λo=>o.bind λd=>if d.cold then rP d else rQ
def Cold (env:Env)(i:Nat):Prop:=∀d,env[i]?=rP (rP d)->d.cold=rR
theorem zdf_ {env:Env}{i j:Nat}(h:i=j\/Cold env j):Cold (frz1 env i) j:=by
 unfold frz1;split
 ·rename_i d hi
  intro d' e;by_cases z:i=j
  ·subst z;rw[kY (jN.mp hi).1]at e;cases e;exact zlH_ d
  ·rw[jI z]at e
   rcases h with h |h
   ·exact absurd h z
   ·exact h d' e
 ·rename_i hi
  rcases h with h |h
  ·subst h;exact λd e=>absurd e (hi d)
  ·exact h
theorem zfc_:∀(is:List Nat) {env:Env}{j:Nat},(j∈is\/Cold env j)->Cold (frzE env is) j
 |[],env,j,h=>by rcases h with h |h;exact absurd h (by simp);exact h
 |i::is,env,j,h=>zfc_ is (by
  rcases h with h |h
  ·rcases jK.mp h with h |h
   ·exact .inr (zdf_ (.inl h.symm))
   ·exact .inl h
  ·exact .inr (zdf_ (.inr h)))
theorem zei_ {i:Nat}(h:Cold env i):getE (coldE env) i=getE env i:=by
 unfold getE coldE;rw[jB];cases z:env[i]? with
 |none=>rfl|some o=>
  cases o with
  |none=>rfl|some d=>
   have:=h d z;simp[this]
theorem zdN_ (hL:Hold (LofW K ws env) σ F h):HoldF (Lof K (coldE env)) σ F:=by
 intro i s e;unfold coldE at e;rw[jB,jB]at e;cases z:env[i]? with
 |none=>rw[z]at e;cases e|some o=>
  rw[z]at e;cases e;cases o with
  |none=>trivial|some d=>
   by_cases c:d.cold=rR
   ·simp only[Option.bind,c,if_true]
    obtain⟨o,k1,k2,e1,j,pp,f⟩:=Hold.atG hL (z4_ z);obtain⟨v,rfl,hv,od⟩:=zbc_ pp;rw[e1];exact⟨v,rfl,(OD.cold c od).2⟩
   ·simp only[Option.bind,c]
    trivial
def FinE (K:jG)(r:Mr Env D)(E:XK)(ws:Ws)(σ:L2.St)(F0 H0:Hp)(Q:VK):Prop:=match r with
 |.ok d env=>∀v F hr h2 h H,Hold (LofW K ws env) σ F h2->OD K d v F hr->Jn hr h2 h->Okk F0 H0 F h H->Q v H|.ex c env=>∀F h H,Hold (LofW K ws env) σ F h->Okk F0 H0 F h H->Tell K E c H0 F H|.no=>False
def EvE (K:jG)(t:TE)(E:XK)(ws:Ws)(env:Env)(r:Mr Env D):Prop:=
 ∀F0 H0 σ F h H (Q:VK),Hold (LofW K ws env) σ F h->Okk F0 H0 F h H->FinE K r E ws σ F0 H0 Q->t σ H Q
def FinK (K:jG)(r:Mr Env D)(E:XK)(ws:Ws)(σ:L2.St)(F0 H0 Hs:Hp)(Q:VK):Prop:=match r with
 |.ok d env=>∀v F hr h2 h H,Hold (LofW K ws env) σ F h2->OD K d v F hr->Jn hr h2 h->Okk F0 H0 F h H->Same Hs H->Q v H|.ex c env=>∀F h H,Hold (LofW K ws env) σ F h->Okk F0 H0 F h H->Tell K E c H0 F H|.no=>False
def EvK (K:jG)(t:TE)(E:XK)(ws:Ws)(env:Env)(r:Mr Env D):Prop:=
 ∀F0 H0 σ F h H (Q:VK),Hold (LofW K ws env) σ F h->Okk F0 H0 F h H->FinK K r E ws σ F0 H0 H Q->t σ H Q
theorem EvK.e {r:Mr Env D}(h:EvK K t E ws env r):EvE K t E ws env r:=λF0 H0 σ F hh H Q hL ok fin=>h F0 H0 σ F hh H Q hL ok (by
 cases r with
 |no=>exact fin|ex c e=>exact fin|ok d e=>exact λv F hr h2 h H' a b c d _=>fin v F hr h2 h H' a b c d)
def stX (G:Gi)(env:Env)(x:X):Mr Env D:=match x.ev G env with
 |.ok d=>if d.new then .ok d env else .ok d (frzE env x.uses)
 |.ex c=>.ex c env|.no=>.no
theorem ek_x (g0:G.Ok K)(x:X):EvK K (x.den K G E) E ws env (stX G env x):=by
 intro F0 H0 σ F h H Q hL ok fin;unfold stX at fin;cases e:x.ev G env with
 |no=>rw[e]at fin;exact fin.elim|ex c=>
  rw[e]at fin;refine X.sound g0 x E env σ (un F h) H _ (zaL_ (hL.froz ok.2.1)) ok.thaw ?_;rw[e];exact λF' H' y=>(fin _ _ _ (hL.mono (ok.back y).2.1) (ok.back y).1).back ok y
 |ok d=>
  rw[e]at fin;have fin:FinK K (if d.new then .ok d env else .ok d (frzE env x.uses)) E ws σ F0 H0 H Q:=fin
  by_cases dn:d.new=rR
  ·rw[if_pos dn]at fin
   refine X.sound g0 x E env σ (un F h) H _ (zaL_ (hL.froz ok.2.1)) ok.thaw ?_;rw[e];intro F' H' y v hn fresh dj hs o;obtain⟨o1,hsF,ht⟩:=ok.back y;have iL:Dj (less F' h) hn:=λp=>by
    unfold less;cases z:h p with
    |none=>exact dj p|some w=>exact .inl rfl
   have dh:Dj hn h:=zhk_ ok.2.2.1 fresh;refine fin v (less F' h) hn h (un hn h) H' (hL.mono hsF) (OD.newImm ht dn o) (zad_ dh) ⟨o1.1,λp=>?_,λp o e=>?_,λp z=>?_,λp xs z=>?_⟩ y.2.2.1
   ·unfold un
    cases z:hn p with
    |some w=>
     rcases iL p with y |y
     ·exact .inl y
     ·rw[y]at z;cases z
    |none=>exact o1.2.1 p
   ·unfold un at e
    cases z:hn p with
    |some w=>rw[z]at e;cases e;exact hs _ _ z|none=>rw[z]at e;exact o1.2.2.1 _ _ e
   ·unfold un at z
    cases y:hn p with
    |some w=>exact ok.1.2.2.1.free (fresh p (by rw[y];exact sN _))|none=>rw[y]at z;exact ok.2.2.2.1 p z
   ·unfold un at z
    cases y:hn p with
    |some w=>rw[y]at z;cases z;exact OD.notup o p xs y|none=>rw[y]at z;exact ok.2.2.2.2 p xs z
  ·rw[if_neg dn]at fin
   obtain⟨F1,hh,ao,aq⟩:=zex_ x.uses hL ok;have al:Alike x.uses (coldE (frzE env x.uses)) env:=λi hi=>(zei_ (zfc_ x.uses (.inl hi))).trans (zd2_ _ _ _)
   refine X.sound g0 x E (coldE (frzE env x.uses)) σ F1 H _ (zdN_ ao) aq.1.2.1 ?_;rw[X.ev_uses x al,e];intro F' H' y v hn fresh dj hs o;have o1:=aq.cold y;have dh:Dj hn hh:=zhk_ aq.2.2.1 fresh;refine fin v F' hn hh (un hn hh) H' (ao.mono y.1) o (zad_ dh) ⟨o1.1,λp=>?_,λp o e=>?_,λp z=>?_,λp xs z=>?_⟩ y.2.2.1
   ·unfold un
    cases z:hn p with
    |some w=>
     rcases dj p with y |y
     ·exact .inl y
     ·rw[y]at z;cases z
    |none=>exact o1.2.1 p
   ·unfold un at e
    cases z:hn p with
    |some w=>rw[z]at e;cases e;exact hs _ _ z|none=>rw[z]at e;exact o1.2.2.1 _ _ e
   ·unfold un at z
    cases y:hn p with
    |some w=>exact aq.1.2.2.1.free (fresh p (by rw[y];exact sN _))|none=>rw[y]at z;exact aq.2.2.2.1 p z
   ·unfold un at z
    cases y:hn p with
    |some w=>rw[y]at z;cases z;exact OD.notup o p xs y|none=>rw[y]at z;exact aq.2.2.2.2 p xs z
theorem ee_x (g0:G.Ok K)(x:X):EvE K (x.den K G E) E ws env (stX G env x):=(ek_x g0 x).e
end
noncomputable def apartL:List Nat->List Nat->Bool
 |j::js,i::is=>j != i ||apartL js is
 |_,_=>rS
theorem zA_ {k:Nd}{ds:List D}{j:Nat}{js:List Nat}{a c:D}(e:ds[j]?=rP c):(D.nd k ds).put (j::js) a=.nd k (ds.set j (c.put js a)):=by rw[D.put,e]
theorem zH_ {k:Nd}{ds:List D}{j:Nat}{js:List Nat}{a:D}(e:ds[j]?=rQ):(D.nd k ds).put (j::js) a=.nd k ds:=by rw[D.put,e]
theorem zaQ_ {d a:D}{js:List Nat}(h:∀k ds,d≠.nd k ds)(hj:js≠[]):d.put js a=d:=by
 cases js with
 |nil=>exact absurd rfl hj|cons j js=>cases d with |nd k ds=>exact absurd rfl (h k ds)|_=>simp[D.put]
theorem zgw_ {d:D}{js:List Nat}(h:∀k ds,d≠.nd k ds)(hj:js≠[]):d.at js=rQ:=by
 cases js with
 |nil=>exact absurd rfl hj|cons j js=>cases d with |nd k ds=>exact absurd rfl (h k ds)|_=>simp[D.at]
theorem zjA_ (d:D):(∃k ds,d=.nd k ds)\/∀k ds,d≠.nd k ds:=by
 cases d with
 |nd k ds=>exact .inl ⟨k,ds,rfl⟩|_=>exact .inr λk ds z=>by cases z
theorem zas_ {α:Type}{l:List α}{j:Nat}{c x:α}(e:l[j]?=rP c):(l.set j x)[j]?=rP x:=kY (jN.mp e).1
theorem zgB_:∀(js:List Nat) (d a b:D),(d.put js a).put js b=d.put js b
 |[],d,a,b=>by rw[D.put,D.put]
 |j::js,d,a,b=>by
  rcases zjA_ d with⟨k,ds,rfl⟩|h
  ·cases e:ds[j]? with
   |none=>rw[zH_ e,zH_ e]|some c=>rw[zA_ e,zA_ e,zA_ (zas_ e),mC,zgB_ js c a b]
  ·rw[zaQ_ h (by simp),zaQ_ h (by simp)]
theorem zfk_:∀(js is:List Nat) (d a b:D),apartL js is=rR->(d.put js a).put is b=(d.put is b).put js a
 |[],_,_,_,_,h=>by cases h
 |_::_,[],_,_,_,h=>by cases h
 |j::js,i::is,d,a,b,h=>by
  rcases zjA_ d with⟨k,ds,rfl⟩|hd
  ·by_cases ij:j=i
   ·subst ij
    cases e:ds[j]? with
    |none=>rw[zH_ e,zH_ e,zH_ e]|some c=>rw[zA_ e,zA_ e,zA_ (zas_ e),zA_ (zas_ e),mC,mC,zfk_ js is c a b (by simpa [apartL]using h)]
   ·cases e:ds[j]? with
    |none=>
     cases e2:ds[i]? with
     |none=>rw[zH_ e,zH_ e2,zH_ e]|some c2=>rw[zH_ e,zA_ e2,zH_ (by rw[jI (λz=>ij z.symm)];exact e)]
    |some c=>
     cases e2:ds[i]? with
     |none=>rw[zA_ e,zH_ e2,zA_ e,zH_ (by rw[jI ij];exact e2)]|some c2=>rw[zA_ e,zA_ e2,zA_ (by rw[jI ij];exact e2),zA_ (by rw[jI (λz=>ij z.symm)];exact e),qr _ _ ij]
  ·rw[zaQ_ hd (by simp),zaQ_ hd (by simp),zaQ_ hd (by simp)]
theorem zkC_:∀(js:List Nat) (d a x:D),d.at js=rP x->(d.put js a).at js=rP a
 |[],d,a,x,h=>by rw[D.put,D.at]
 |j::js,d,a,x,h=>by
  rcases zjA_ d with⟨k,ds,rfl⟩|hd
  ·cases hk:k.own with
   |false=>rw[zaz_,hk]at h;cases h|true=>
    rw[zaz_,hk,cond_true]at h;obtain⟨c,e,h⟩:=jv.mp h;rw[zA_ e,zaz_,hk,cond_true,zas_ e];exact zkC_ js c a x h
  ·rw[zgw_ hd (by simp)]at h;cases h
theorem zec_:∀(js is:List Nat) (d a:D),apartL js is=rR->(d.put js a).at is=d.at is
 |[],_,_,_,h=>by cases h
 |_::_,[],_,_,h=>by cases h
 |j::js,i::is,d,a,h=>by
  rcases zjA_ d with⟨k,ds,rfl⟩|hd
  ·cases e:ds[j]? with
   |none=>rw[zH_ e]|some c=>
    rw[zA_ e,zaz_,zaz_];congr 1;by_cases ij:j=i
    ·subst ij
     rw[zas_ e,e];exact zec_ js is c a (by simpa [apartL]using h)
    ·rw[jI ij]
  ·rw[zaQ_ hd (by simp)]
theorem zbu_:∀{js is:List Nat},apartL js is=rR->apartL is js=rR
 |[],_,h=>by cases h
 |_::_,[],h=>by cases h
 |j::js,i::is,h=>by
  unfold apartL at h ⊢;rw[lC]at h ⊢;rcases h with h |h
  ·left;simpa [bne_iff_ne,ne_comm]using h
  ·right;exact zbu_ h
noncomputable abbrev Pl:=Nat×List Nat
def apart (q q':Pl):Bool:=q.1 != q'.1 ||apartL q.2 q'.2
def atE (env:Env)(q:Pl):Option D:=match env[q.1]? with |some (rP d)=>d.at q.2 |_=>rQ
def putE (env:Env)(q:Pl)(c:D):Env:=match env[q.1]? with |some (rP d)=>env.set q.1 (rP (d.put q.2 c))|_=>env
theorem zk_ {env:Env}{q:Pl}{c d:D}(e:env[q.1]?=rP (rP d)):putE env q c=env.set q.1 (rP (d.put q.2 c)):=by unfold putE;rw[e]
theorem zX_ {env:Env}{q:Pl}{c:D}(e:∀d,env[q.1]?≠rP (rP d)):putE env q c=env:=by
 unfold putE;split
 ·rename_i d z;exact absurd z (e d)
 ·rfl
theorem zdF_ (env:Env)(i:Nat):(∃d,env[i]?=rP (rP d))\/∀d,env[i]?≠rP (rP d):=by
 cases env[i]? with
 |none=>exact .inr λd z=>by cases z
 |some o=>cases o with |none=>exact .inr λd z=>by cases z |some d=>exact .inl ⟨d,rfl⟩
theorem zf5_ (env:Env)(q:Pl)(a b:D):putE (putE env q a) q b=putE env q b:=by
 rcases zdF_ env q.1 with⟨d,e⟩|e
 ·rw[zk_ e,zk_ e,zk_ (zas_ e),mC,zgB_]
 ·rw[zX_ e]
theorem zdE_ {env:Env}{q:Pl}{c:D}{i:Nat}(h:q.1≠i):(putE env q c)[i]?=env[i]?:=by
 rcases zdF_ env q.1 with⟨d,e⟩|e
 ·rw[zk_ e,jI h]
 ·rw[zX_ e]
theorem zV_ {env:Env}{q:Pl}{d:D}(e:env[q.1]?=rP (rP d)):atE env q=d.at q.2:=by unfold atE;rw[e]
theorem zc8_ {env:Env}{q q':Pl}{c:D}(h:apart q q'=rR):atE (putE env q c) q'=atE env q':=by
 unfold apart at h;by_cases e:q.1=q'.1
 ·have h:apartL q.2 q'.2=rR:=by simpa [e]using h
  rcases zdF_ env q.1 with⟨d,z⟩|z
  ·rw[zk_ z,zV_ (d:=d.put q.2 c) (by rw[<- e];exact zas_ z),zV_ (d:=d) (by rw[<- e];exact z)]
   exact zec_ _ _ d c h
  ·rw[zX_ z]
 ·unfold atE;rw[zdE_ e]
theorem zka_ {env:Env}{q:Pl}{a x:D}(h:atE env q=rP x):atE (putE env q a) q=rP a:=by
 rcases zdF_ env q.1 with⟨d,z⟩|z
 ·rw[zV_ z]at h
  rw[zk_ z,zV_ (d:=d.put q.2 a) (zas_ z)];exact zkC_ _ d a x h
 ·unfold atE at h
  split at h
  ·rename_i d e;exact absurd e (z d)
  ·cases h
theorem zgo_ {env:Env}{q q':Pl}{a b:D}(h:apart q q'=rR):putE (putE env q a) q' b=putE (putE env q' b) q a:=by
 unfold apart at h;by_cases e:q.1=q'.1
 ·have h:apartL q.2 q'.2=rR:=by simpa [e]using h
  rcases zdF_ env q.1 with⟨d,z⟩|z
  ·have z':env[q'.1]?=rP (rP d):=by rw[<- e];exact z
   rw[zk_ z,zk_ z',zk_ (d:=d.put q.2 a) (by rw[<- e];exact zas_ z),zk_ (d:=d.put q'.2 b) (by rw[e];exact zas_ z'),<- e,mC,mC,zfk_ _ _ d a b h]
  ·have z':∀d,env[q'.1]?≠rP (rP d):=by rw[<- e];exact z
   rw[zX_ z,zX_ z',zX_ z]
 ·rcases zdF_ env q.1 with⟨d,z⟩|z
  ·rcases zdF_ env q'.1 with⟨d2,z2⟩|z2
   ·rw[zk_ z,zk_ z2,zk_ (d:=d2) (by rw[jI e];exact z2),zk_ (d:=d) (by rw[jI (λy=>e y.symm)];exact z),qr _ _ e]
   ·rw[zX_ z2,zk_ z,zX_ (by rw[jI e];exact z2)]
  ·rcases zdF_ env q'.1 with⟨d2,z2⟩|z2
   ·rw[zX_ z,zk_ z2,zX_ (by rw[jI (λy=>e y.symm)];exact z)]
   ·rw[zX_ z,zX_ z2,zX_ z]
section
variable {K:j3}{E:XK}{F F' F1 F2 h k H H' H1 H2:Hp}{d c:D}{ds:List D}{v u:V}{us:List V}{p:i9}{Q:VK}{env:Env}{t:TE}{σ:L2.St}{G:Gi}{q:Pl}
inductive Pt where
 |v (i:Nat)|f (p:Pt) (n:Str)|s (p:Pt) (x:X)
def Pt.x:Pt->X
 |.v i=>.v i|.f p n=>.fld p.x n|.s p y=>.bin .ix p.x y
def kIx:List Key->Key->Nat
 |[],_=>0|k0::ks,k=>if k0=k then 0 else kIx ks k+1
def stepF (cs:List Str)(n:Str)(c:D):Option Nat:=match c with
 |.nd (.obj c ns) ds=>if c∈cs/\ns.idxOf n<ds.length then rP (ns.idxOf n)else rQ
 |_=>rQ
def stepS (c d:D):Option Nat:=match c with
 |.nd .lst ds=>(match d.un with |.int i=>(ixN ds.length i).bind λj=>if j<ds.length then rP j else rQ |_=>rQ)|.nd .tup ds=>(match d.un with |.int i=>(ixN ds.length i).bind λj=>if j<ds.length then rP j else rQ |_=>rQ)|.nd (.dct ks) ds=>(keyD d).bind λk=>if kIx ks k<ks.length/\ks.length=ds.length then rP (kIx ks k)else rQ
 |_=>rQ
def Pt.ev (G:Gi)(env:Env):Pt->Mo Pl
 |.v i=>if(atE env (i,[])).isSome then .ok (i,[])else .no
 |.f p n=>(p.ev G env).bind λq=>.opt ((atE env q).bind λc=>(stepF G.cs n c).map λj=>(q.1,q.2++[j]))|.s p x=>(p.ev G env).bind λq=>(x.ev G env).bind λd=>.opt ((atE env q).bind λc=>(stepS c d).map λj=>(q.1,q.2++[j]))
def EvPa (K:jG)(t:TE)(E:XK)(env:Env)(r:Mo Pl):Prop:=∀σ F H (Q:VK),HoldF (Lof K env) σ F->Same F H ->
 (match r with
  |.ok q=>∀F' H' v u c,Ext F H F' H'->σ[q.1]?=rP (rP v)->vAt H' v q.2=rP u->atE env q=rP c->DR K c u H'->Q u H'|.ex c=>∀F' H',Ext F H F' H'->Tell K E c H F' H'|.no=>False)->t σ H Q
theorem zeh_:∀{ks:List Key}{us:List V}{k:Key}{w:V},us[kIx ks k]?=rP w->kIx ks k<ks.length->valV (ks.zip us) k=rP w
 |[],_,_,_,_,h=>by simp at h
 |k0::ks,[],k,w,h,_=>by simp at h
 |k0::ks,u::us,k,w,h,hl=>by
  unfold valV;rw[jR,kX];unfold kIx at h hl;by_cases e:k0=k
  ·rw[if_pos e]at h;simp at h;subst h
   rw[show decide ((k0,u).1=k)=rR from decide_eq_true e];rfl
  ·rw[if_neg e,mj]at h
   rw[if_neg e]at hl;rw[show decide ((k0,u).1=k)=rS from decide_eq_false e]
   exact zeh_ h (by simpa using hl)
theorem zg8_ {k:Nd}{ds:List D}{j:Nat}{c:D}(hk:k.own=rR)(hc:ds[j]?=rP c):∀{js:List Nat}{d:D},d.at js=rP (.nd k ds)->d.at (js++[j])=rP c
 |[],d,h=>by rw[D.at]at h;cases h;rw[lY,zaz_,hk,cond_true,hc];show D.at _ []=_;rw[D.at]
 |i::js,d,h=>by
  rcases zjA_ d with⟨k',ds',rfl⟩|hd
  ·rw[zaz_]at h
   cases bO:k'.own with
   |false=>rw[bO]at h;cases h|true=>
    rw[bO,cond_true]at h;obtain⟨c',e,h⟩:=jv.mp h;rw[lq,zaz_,bO,cond_true,e];exact zg8_ hk hc h
  ·rw[zgw_ hd (by simp)]at h;cases h
theorem zdL_ {env:Env}{q0:Pl}{k:Nd}{ds:List D}{j:Nat}{c:D}(hk:k.own=rR)(hc:ds[j]?=rP c)(h:atE env q0=rP (.nd k ds)):atE env (q0.1,q0.2++[j])=rP c:=by
 rcases zdF_ env q0.1 with⟨d,hd⟩|hd
 ·rw[zV_ hd]at h
  rw[zV_ (q:=(q0.1,q0.2++[j])) hd];exact zg8_ hk hc h
 ·unfold atE at h;split at h
  ·rename_i d z;exact absurd z (hd d)
  ·cases h
theorem hL_at {i:Nat}{d:D}(hL:HoldF (Lof K env) σ F)(hd:env[i]?=rP (rP d)):∃v,σ[i]?=rP (rP v)/\DR K d v F:=by
 obtain⟨v,ev,rv⟩:=hL i (slot K (rP d)) (by rw[jB,hd];rfl)
 refine⟨v,?_,rv⟩;cases z:σ[i]? with
 |none=>rw[z]at ev;cases ev|some o=>rw[z]at ev;cases(show o=rP v from ev);rfl
theorem Pt.sound (g0:G.Ok K):∀(p:Pt) (E:XK) (env:Env),EvPa K (p.x.den K G E) E env (p.ev G env)
 |.v i,E,env=>by
  intro σ F H Q hL hs q;unfold Pt.ev at q;rcases zdF_ env i with⟨d,hd⟩|hd
  ·have ha:atE env (i,[])=rP d:=by rw[zV_ (q:=(i,[])) hd];show d.at []=_;rw[D.at]
   rw[ha]at q;obtain⟨v,hv,rv⟩:=hL_at hL hd;show mVar i σ H Q
   unfold mVar;rw[hv];exact q F H v v d (.refl hs) hv rfl ha (rv.mono hs)
  ·rw[show atE env (i,[])=rQ from by
    unfold atE;split
    ·rename_i d z;exact absurd z (hd d)
    ·rfl]at q
   exact q.elim
 |.f p n,E,env=>by
  intro σ F H Q hL hs q;unfold Pt.ev at q;cases e:p.ev G env with
  |no=>rw[e]at q;exact q.elim|ex c=>
   rw[e]at q;cases hcs:G.cs with
   |nil=>exact absurd hcs g0.cs|cons c0 cs=>exact⟨c0,by rw[hcs];exact je ..,Pt.sound g0 p E env σ F H _ hL hs (by rw[e];exact q)⟩
  |ok q0=>
   rw[e]at q;dsimp only[Mo.bind]at q;cases e1:atE env q0 with
   |none=>rw[e1]at q;exact q.elim|some c=>
    rw[e1]at q;cases e2:stepF G.cs n c with
    |none=>rw[show(Option.bind (rP c) λc=>(stepF G.cs n c).map λj=>(q0.1,q0.2++[j]))=rQ from by simp[e2]]at q;exact q.elim|some j=>
     rw[show(Option.bind (rP c) λc=>(stepF G.cs n c).map λj=>(q0.1,q0.2++[j]))=rP (q0.1,q0.2++[j])from by simp[e2]]at q
     unfold stepF at e2;split at e2
     ·rename_i cn ns ds
      split at e2
      ·rename_i hz
       cases e2;refine⟨cn,hz.1,Pt.sound g0 p E env σ F H _ hL hs ?_⟩;rw[e];intro F1 H1 v u c' x1 hv hu hc hr;rw[e1]at hc;cases hc;obtain⟨p',us,rfl,nd,r⟩:=hr.nd;rcases r.get (ns.idxOf n)with⟨z,_⟩|⟨d',w,g4,g5,g6⟩
       ·rw[jf hz.2]at z;cases z
       have gO:=nd;obtain⟨dx,g3,gl⟩:=nd;exact⟨dx,_,w,g3,zbG_ g5 gl,q F1 H1 v w d' x1 hv (zcR_ rfl gO g5 hu) (zdL_ rfl g4 e1) g6⟩
      ·cases e2
     ·cases e2
 |.s p x,E,env=>by
  intro σ F H Q hL hs q;unfold Pt.ev at q;cases e:p.ev G env with
  |no=>rw[e]at q;exact q.elim|ex c=>rw[e]at q;exact Pt.sound g0 p E env σ F H _ hL hs (by rw[e];exact q)|ok q0=>
   rw[e]at q;refine Pt.sound g0 p E env σ F H _ hL hs ?_;rw[e];intro F1 H1 v u c x1 hv hu hc hr;dsimp only[Mo.bind]at q;cases ex:x.ev G env with
   |no=>rw[ex]at q;exact q.elim|ex c=>
    rw[ex]at q;refine X.sound g0 x E env σ F1 H1 _ (hL.mono x1.1) x1.2.1 ?_;rw[ex];exact λF2 H2 x2=>(q F2 H2 (x1.trans x2)).up x1.2.2.1
   |ok d0=>
    rw[ex]at q;dsimp only at q;rw[hc]at q;cases e2:stepS c d0 with
    |none=>rw[show(Option.bind (rP c) λc=>(stepS c d0).map λj=>(q0.1,q0.2++[j]))=rQ from by simp[e2]]at q;exact q.elim|some j=>
     rw[show(Option.bind (rP c) λc=>(stepS c d0).map λj=>(q0.1,q0.2++[j]))=rP (q0.1,q0.2++[j])from by simp[e2]]at q
     refine ex_v (X.sound g0 x E env) σ F1 H1 _ (hL.mono x1.1) x1.2.1 ?_;rw[ex];intro F2 H2 x2 y hy;have d_:=DR.un hy;have eC:=hr.mono x2.2.2.1;have fin:∀{k:Nd}{ds:List D}{p':i9}{us:List V},k.own=rR->c=.nd k ds->u=.ref p'->NdR K k p' us H2->DRs K ds us H2->j<ds.length->∃w,us[j]?=rP w/\Q w H2:=λ{k ds p' us} hk ec eu nd r hj=>by
      subst ec;subst eu;rcases r.get j with⟨z,_⟩|⟨d',w,g4,g5,g6⟩
      ·rw[jf hj]at z;cases z
      exact⟨w,g5,q F2 H2 v w d' (x1.trans x2) hv (zcR_ hk nd g5 (zbh_ x2.2.2.1 hu)) (zdL_ hk g4 hc) g6⟩
     unfold stepS at e2;split at e2
     ·split at e2
      ·rename_i i ei
       rw[ei]at d_;cases d_.int;obtain⟨j',ej,e2⟩:=jv.mp e2;split at e2
       ·rename_i hj
        cases e2;obtain⟨p',us,rfl,nd,r⟩:=eC.nd;obtain⟨w,g5,fin⟩:=fin rfl rfl rfl nd r hj;refine .inl ⟨us,.inl (.of nd),?_⟩;rw[show atI us i=rP w from by unfold atI;rw[<- r.len,ej];exact g5];exact fin
       ·cases e2
      ·cases e2
     ·split at e2
      ·rename_i i ei
       rw[ei]at d_;cases d_.int;obtain⟨j',ej,e2⟩:=jv.mp e2;split at e2
       ·rename_i hj
        cases e2;obtain⟨p',us,rfl,nd,r⟩:=eC.nd;obtain⟨w,g5,fin⟩:=fin rfl rfl rfl nd r hj;refine .inl ⟨us,.inr (.of nd),?_⟩;rw[show atI us i=rP w from by unfold atI;rw[<- r.len,ej];exact g5];exact fin
       ·cases e2
      ·cases e2
     ·rename_i ks ds
      obtain⟨k,ek,e2⟩:=jv.mp e2;split at e2
      ·rename_i hz
       cases e2;obtain⟨p',us,rfl,nd,r⟩:=eC.nd;obtain⟨w,g5,fin⟩:=fin rfl rfl rfl nd r (by rw[<- hz.2];exact hz.1)
       exact .inr (zih_ rfl (ziZ_ ek hy).1 nd.1 ⟨w,zeh_ g5 hz.1,fin⟩)
      ·cases e2
     ·cases e2
end
def Mr.bind {s α β:Type}(m:Mr s α)(k:α->s->Mr s β):Mr s β:=match m with |.ok a t=>k a t |.ex c t=>.ex c t |.no=>.no
inductive A where
 |x (x:X)|l (p:Pt)
 |m (p:Pt)
def A.t:A->X
 |.x y=>y|.l p=>p.x|.m p=>p.x
inductive Ag where
 |d (d:D)|l (q:Pl)
def mpM (G:Gi)(env:Env)(p:Pt):Mr Env D:=match p.ev G env with
 |.ok q=>(match atE env q with |some c=>.ok c (putE env q .gone)|none=>.no)|.ex c=>.ex c env|.no=>.no
def evG (G:Gi):Env->List A->Mr Env (List Ag)
 |env,[]=>.ok [] env|env,.x x::as=>(stX G env x).bind λd e=>(evG G e as).bind λgs e'=>.ok (.d d::gs) e'|env,.l p::as=>match p.ev G env with
  |.ok q=>(evG G env as).bind λgs e'=>.ok (.l q::gs) e'|.ex c=>.ex c env|.no=>.no
 |env,.m p::as=>(mpM G env p).bind λd e=>(evG G e as).bind λgs e'=>.ok (.d d::gs) e'
section
variable {K:j3}{E:XK}{F F' F0 F1 F2 H0 h h1 h2 H H' H1 H2:Hp}{d c:D}{ds:List D}{v u:V}{vs:List V}{p:i9}{Q:VK}{env:Env}{t:TE}{ws:Ws}{σ:L2.St}{G:Gi}{q:Pl}{ta:TA}{f:Fn}
def AgR (K:jG)(σ:L2.St)(F H:Hp):List Ag->List V->Hp->Prop
 |[],vs,h=>vs=[]/\∀p,h p=rQ|.d d::gs,vs,h=>∃v a7 h1 h2,vs=v::a7/\Jn h1 h2 h/\OD K d v F h1/\AgR K σ F H gs a7 h2|.l q::gs,vs,h=>∃u v a7,vs=u::a7/\σ[q.1]?=rP (rP v)/\vAt H v q.2=rP u/\AgR K σ F H gs a7 h
def FinG (K:jG)(r:Mr Env (List Ag))(E:XK)(ws:Ws)(σ:L2.St)(F0 H0 Hs:Hp)(Q:List V->Hp->Prop):Prop:=match r with
 |.ok gs env=>∀vs F hA hE h H,Hold (LofW K ws env) σ F hE->AgR K σ F H gs vs hA->Jn hA hE h->Okk F0 H0 F h H->Same Hs H->Q vs H|.ex c env=>∀F h H,Hold (LofW K ws env) σ F h->Okk F0 H0 F h H->Tell K E c H0 F H|.no=>False
def EvG (K:jG)(t:TA)(E:XK)(ws:Ws)(env:Env)(r:Mr Env (List Ag)):Prop:=
 ∀F0 H0 σ F h H (Q:List V->Hp->Prop),Hold (LofW K ws env) σ F h->Okk F0 H0 F h H->FinG K r E ws σ F0 H0 H Q->t σ H Q
theorem no_l (z:Hp)(hz:∀p,z p=rQ):Jn z h h:=λp=>.inl ⟨hz p,rfl⟩
theorem zmS_ {a b c:Hp}(d1:Dj a b)(d2:Dj a c)(d3:Dj b c):Jn (un a b) c (un a (un b c)):=λp=>by
 unfold un;cases x:a p with
 |some o=>
  right;rcases d2 p with y |y
  ·rw[y]at x;cases x
  ·exact⟨y,rfl⟩
 |none=>
  cases y:b p with
  |some o=>
   right;rcases d3 p with z |z
   ·rw[z]at y;cases y
   ·exact⟨z,rfl⟩
  |none=>left;exact⟨rfl,rfl⟩
theorem zck_ (j:Jn h1 h2 h):h=un h1 h2:=funext λp=>by
 unfold un;rcases j p with⟨a,b⟩|⟨a,b⟩
 ·rw[a,b]
 ·rw[b]
  cases h1 p with
  |none=>exact a.symm|some o=>rfl
theorem zoB_:EvG K tNil E ws env (.ok [] env):=λF0 H0 σ F h H Q hL ok fin=>fin [] F (λ_=>rQ) h h H hL ⟨rfl,λ_=>rfl⟩ (no_l _ λ_=>rfl) ok (Same.refl _)
theorem eg_x {r:Mr Env D}{g:Env->Mr Env (List Ag)}(he:EvK K t E ws env r)(hg:∀e,EvG K ta E ws e (g e)):EvG K (tCons t ta) E ws env (r.bind λd e=>(g e).bind λgs e'=>.ok (.d d::gs) e'):=by
 intro F0 H0 σ F h H Q hL ok fin;refine he F0 H0 σ F h H _ hL ok ?_;cases r with
 |no=>exact fin|ex c e=>exact fin|ok d e=>
  intro v F1 hr hE h' H1 ao od j aq gL;have o2:=zff_ aq j;refine hg e F1 (less H1 hE) σ F1 hE H1 _ ao o2 ?_;dsimp only[Mr.bind]at fin;cases e2:g e with
  |no=>rw[e2]at fin;exact fin|ex c e'=>
   rw[e2]at fin;intro F2 h2 H2 aT ak;obtain⟨s,dk,aV⟩:=zal_ aq j ak;refine zbg_ aq j (fin F2 (un hr h2) H2 (Hold.more aT (zad_ dk)) aV)
  |ok gs e'=>
   rw[e2]at fin;intro vs F2 hA dM h2 H2 aT ag j2 ak dY;obtain⟨s,dk,aV⟩:=zal_ aq j ak;have eh:=zck_ j2;subst eh;have d1:Dj hr hA:=λp=>by rcases dk p with z |z;exact .inl z;exact .inr ((zad_ j2.dj).l.free z)
   have d2:Dj hr dM:=λp=>by rcases dk p with z |z;exact .inl z;exact .inr ((zad_ j2.dj).r.free z)
   exact fin (v::vs) F2 (un hr hA) dM _ H2 aT ⟨v,vs,hr,hA,rfl,zad_ d1,od.mono s,ag⟩ (zmS_ d1 d2 j2.dj) aV (gL.trans dY)
theorem eg_l (g0:G.Ok K){pt:Pt}{r:Mr Env (List Ag)}(hg:EvG K ta E ws env r):EvG K (tCons (pt.x.den K G E) ta) E ws env (match pt.ev G env with |.ok q=>r.bind λgs e'=>.ok (.l q::gs) e' |.ex c=>.ex c env |.no=>.no):=by
 intro F0 H0 σ F h H Q hL ok fin;refine Pt.sound g0 pt E env σ (un F h) H _ (zaL_ (hL.froz ok.2.1)) ok.thaw ?_;cases e:pt.ev G env with
 |no=>rw[e]at fin;exact fin|ex c=>
  rw[e]at fin;exact λF' H' y=>(fin _ _ _ (hL.mono (ok.back y).2.1) (ok.back y).1).back ok y
 |ok q=>
  rw[e]at fin;intro F1 H1 v u c x1 hv hu _ _;obtain⟨o1,hsF,ht⟩:=ok.back x1;refine hg F0 H0 σ _ h H1 _ (hL.mono hsF) o1 ?_;cases r with
  |no=>exact fin|ex c e'=>exact fin|ok gs e'=>exact λvs F2 hA dM h2 H2 aT ag j2 ak dY=>fin (u::vs) F2 hA dM h2 H2 aT ⟨u,v,vs,rfl,hv,zbh_ dY hu,ag⟩ j2 ak (x1.2.2.1.trans dY)
theorem zat_ {h:Hp}(hn:∀p,h p=rQ):OD K .gone v F h:=by unfold OD;exact⟨hn,by unfold DR;trivial⟩
theorem ek_mv (g0:G.Ok K){pt:Pt}:EvK K (pt.x.den K G E) E ws env (mpM G env pt):=by
 intro F0 H0 σ F h H Q hL ok fin;unfold mpM at fin;refine Pt.sound g0 pt E env σ (un F h) H _ (zaL_ (hL.froz ok.2.1)) ok.thaw ?_;cases e:pt.ev G env with
 |no=>rw[e]at fin;exact fin|ex c=>
  rw[e]at fin;exact λF' H' y=>(fin _ _ _ (hL.mono (ok.back y).2.1) (ok.back y).1).back ok y
 |ok q=>
  rw[e]at fin;intro F1 H1 v u c x1 hv hu hc _;obtain⟨o1,hsF,ht⟩:=ok.back x1;have fin:FinK K (match atE env q with |some c=>.ok c (putE env q .gone)|none=>.no) E ws σ F0 H0 H Q:=fin
  rw[hc]at fin;unfold atE at hc;split at hc
  ·rename_i d hd
   obtain⟨v',u',h1,h2,e1,vp,j,od,back⟩:=zaA_ (hL.mono hsF) hd hc;have ev:rP (rP v')=rP (rP v):=e1.symm.trans hv;cases ev;have eu:=(vp H1 o1.1.2.1 o1.2.2.1).symm.trans hu;cases eu;exact fin u _ h1 h2 h H1 (by rw[zk_ hd];exact back .gone _ _ h2 (Same.refl _) (zat_ λ_=>rfl) (no_l (λ_=>rQ) λ_=>rfl)) od j o1 x1.2.2.1
  ·cases hc
theorem zbm_ (g0:G.Ok K):∀(as:List A) (env:Env),EvG K (X.dens K G E (as.map A.t)) E ws env (evG G env as)
 |[],env=>zoB_|.x x::as,env=>eg_x (ek_x g0 x) λe=>zbm_ g0 as e|.l p::as,env=>eg_l g0 (zbm_ g0 as env)|.m p::as,env=>eg_x (ek_mv g0) λe=>zbm_ g0 as e
def resolve (env:Env):List Ag->Option (List D)
 |[]=>rP []|.d d::gs=>(resolve env gs).map λds=>d::ds|.l q::gs=>(atE env q).bind λc=>(resolve env gs).map λds=>c::ds
def apartOf (q:Pl):List Ag->Bool
 |[]=>rR|.d _::gs=>apartOf q gs|.l q'::gs=>apart q q' && apartOf q gs
def apartAll:List Ag->Bool
 |[]=>rR|.d _::gs=>apartAll gs|.l q::gs=>apartOf q gs && apartAll gs
def restE (env:Env):List Ag->List D->Env
 |.d _::gs,_::ds=>restE env gs ds|.l q::gs,d::ds=>putE (restE env gs ds) q d|_,_=>env
theorem zaU_ {c:D}:∀{gs:List Ag},apartOf q gs=rR->resolve (putE env q c) gs=resolve env gs
 |[],_=>rfl|.d d::gs,h=>by unfold apartOf at h;unfold resolve;rw[zaU_ h]
 |.l q'::gs,h=>by
  unfold apartOf at h;obtain⟨h1,h2⟩:=jP.mp h;unfold resolve;rw[zaU_ h2,zc8_ h1]
theorem zcz_ {c:D}:∀{gs:List Ag}{ds:List D},apartOf q gs=rR->restE (putE env q c) gs ds=putE (restE env gs ds) q c
 |[],_,_=>by unfold restE;rfl
 |.d d::gs,[],_=>by unfold restE;rfl
 |.l q'::gs,[],_=>by unfold restE;rfl
 |.d d::gs,_::ds,h=>by unfold apartOf at h;unfold restE;exact zcz_ h
 |.l q'::gs,d::ds,h=>by
  unfold apartOf at h;obtain⟨h1,h2⟩:=jP.mp h;unfold restE;rw[zcz_ h2,zgo_ h1]
theorem zek_:∀{gs:List Ag}{ds:List D},apartOf q gs=rR->atE (restE env gs ds) q=atE env q
 |[],_,_=>by unfold restE;rfl
 |.d d::gs,[],_=>by unfold restE;rfl
 |.l q'::gs,[],_=>by unfold restE;rfl
 |.d d::gs,_::ds,h=>by unfold apartOf at h;unfold restE;exact zek_ h
 |.l q'::gs,d::ds,h=>by
  unfold apartOf at h;obtain⟨h1,h2⟩:=jP.mp h;unfold restE;have h1':apart q' q=rR:=by
   unfold apart at h1 ⊢;rw[lC]at h1 ⊢;rcases h1 with h1 |h1
   ·left;simpa [bne_iff_ne,ne_comm]using h1
   ·right;exact zbu_ h1
  rw[zc8_ h1',zek_ h2]
theorem lend:∀{gs:List Ag}{env:Env}{ds:List D}{vs:List V}{hA hE h:Hp},resolve env gs=rP ds->apartAll gs=rR->AgR K σ F H gs vs hA->Hold (LofW K ws env) σ F hE->Jn hA hE h->Same F H->Same h H ->
  ∃hD hR,Jn hD hR h/\ODs K ds vs F hD/\ds.length=gs.length/\∀ds' F' dN h',Same F F'->ODs K ds' vs F' dN->Jn dN hR h'->Hold (LofW K ws (restE env gs ds')) σ F' h'
 |[],env,ds,vs,hA,hE,h,e,_,ag,hL,j,sF,sH=>by
  unfold resolve at e;cases e;obtain⟨rfl,n⟩:=ag;refine⟨hA,hE,j,by unfold ODs;exact⟨rfl,n⟩,rfl,λds' F' dN h' s os j'=>?_⟩
  unfold restE;exact Hold.more (hL.mono s) j'
 |.d d::gs,env,ds,vs,hA,hE,h,e,ap,ag,hL,j,sF,sH=>by
  unfold resolve at e;obtain⟨iH,e1,rfl⟩:=jz.mp e;obtain⟨v,a7,h1,h2,rfl,j1,od,ag⟩:=ag;obtain⟨m,jm,jh⟩:=zp_ j1 j;obtain⟨hD,hR,jd,os,ln,f⟩:=lend e1 (by unfold apartAll at ap;exact ap) ag hL jm sF (jh.r.trans sH)
  obtain⟨a,ja,jb⟩:=zp_ (zai_ jh |> λz=>z |> zai_) (show Jn h (λ_=>rQ) h from λp=>.inr ⟨rfl,rfl⟩)
  have dd:Dj h1 hD:=λp=>by rcases jh.dj p with z |z;exact .inl z;exact .inr (jd.l.free z)
  have dr:Dj h1 hR:=λp=>by rcases jh.dj p with z |z;exact .inl z;exact .inr (jd.r.free z)
  refine⟨un h1 hD,hR,?_,by unfold ODs;exact⟨v,a7,h1,hD,rfl,zad_ dd,od,os⟩,by rw[jg,jg,ln],λds' F' dN h' s aE j'=>?_⟩
  ·have:=zmS_ dd dr jd.dj
   rw[<- zck_ jd,<- zck_ jh]at this;exact this
  ·cases ds' with
   |nil=>unfold ODs at aE;cases aE.1|cons d' ds'=>
    unfold ODs at aE;obtain⟨v',vs2,m1,m2,ee,jm2,_,aE⟩:=aE;cases ee;obtain⟨b,jb1,jb2⟩:=zp_ jm2 j';unfold restE;exact Hold.more (f ds' F' m2 b s aE jb1) jb2
 |.l q::gs,env,ds,vs,hA,hE,h,e,ap,ag,hL,j,sF,sH=>by
  unfold resolve at e;obtain⟨c,ec,e⟩:=jv.mp e;obtain⟨iH,e1,rfl⟩:=jz.mp e;obtain⟨u,v,a7,rfl,ev,vp,ag⟩:=ag;unfold apartAll at ap;obtain⟨fV,ap2⟩:=jP.mp ap;rcases zdF_ env q.1 with⟨d0,hd⟩|hd
  rotate_left
  ·unfold atE at ec;split at ec
   ·rename_i d z;exact absurd z (hd d)
   ·cases ec
  have hc:d0.at q.2=rP c:=by rw[<- zV_ hd];exact ec
  obtain⟨v',u',k1,k2,ev',vp',jk,oc,g⟩:=zaA_ hL hd hc;rw[ev]at ev';cases ev';have ip:Same hE H:=j.r.trans sH;have eu:u'=u:=j8 ((vp' H sF ip).symm.trans vp);subst eu;have hp:putE env q (.pin u')=env.set q.1 (rP (d0.put q.2 (.pin u'))):=zk_ hd;have ao:Hold (LofW K ws (putE env q (.pin u'))) σ F k2:=by
   rw[hp];exact g (.pin u') F (λ_=>rQ) k2 (Same.refl _) (by unfold OD;exact⟨λ_=>rfl,by unfold DR;rfl⟩) (no_l _ λ_=>rfl)
  obtain⟨m,jm,jh⟩:=zp_ jk (zai_ j);have jA:Jn hA k2 m:=zai_ jm;obtain⟨hD,hR,jd,os,ln,f⟩:=lend (gs:=gs) (env:=putE env q (.pin u')) (by rw[zaU_ fV];exact e1) ap2 ag ao jA sF (jh.r.trans sH)
  have dd:Dj k1 hD:=λp=>by rcases jh.dj p with z |z;exact .inl z;exact .inr (jd.l.free z)
  have dr:Dj k1 hR:=λp=>by rcases jh.dj p with z |z;exact .inl z;exact .inr (jd.r.free z)
  refine⟨un k1 hD,hR,?_,by unfold ODs;exact⟨u',a7,k1,hD,rfl,zad_ dd,oc,os⟩,by rw[jg,jg,ln],λds' F' dN h' s aE j'=>?_⟩
  ·have:=zmS_ dd dr jd.dj
   rw[<- zck_ jd,<- zck_ jh]at this;exact this
  ·cases ds' with
   |nil=>unfold ODs at aE;cases aE.1|cons d' ds'=>
    unfold ODs at aE;obtain⟨w,vs2,m1,m2,ee,jm2,eQ,aE⟩:=aE;cases ee;obtain⟨b,jb1,jb2⟩:=zp_ jm2 j';have h2:=f ds' F' m2 b s aE jb1;have ea:atE (restE (putE env q (.pin u')) gs ds') q=rP (.pin u'):=by rw[zek_ fV];exact zka_ ec
    rcases zdF_ (restE (putE env q (.pin u')) gs ds') q.1 with⟨d2,hd2⟩|hd2
    rotate_left
    ·unfold atE at ea;split at ea
     ·rename_i d z;exact absurd z (hd2 d)
     ·cases ea
    have eF:d2.at q.2=rP (.pin u'):=by rw[<- zV_ hd2];exact ea
    obtain⟨v3,u3,n1,n2,_,_,jn,on,g2⟩:=zaA_ h2 hd2 eF;unfold OD at on;obtain⟨nn,on⟩:=on;unfold DR at on;subst on;have en:b=n2:=by rw[zck_ jn];funext p;unfold un;rw[nn p]
    subst en;have:=g2 d' F' m1 h' (Same.refl _) eQ jb2;unfold restE;rw[show putE (restE env gs ds') q d'=putE (restE (putE env q (.pin u3)) gs ds') q d' from by rw[zcz_ fV,zf5_],zk_ hd2]
    exact this
def callG (f:Fn)(gs:List Ag)(env:Env):Mr Env D:=match resolve env gs with
 | some ds=>if apartAll gs then(match f ds with
   |.ok d ds'=>.ok d (restE env gs ds')|.ex c ds'=>.ex c (restE env gs ds')|.no=>.no)else .no
 |none=>.no
def CtX (K:jG)(f:Fn)(ds:List D)(vs:List V)(H:Hp)(Q:VK)(E:XK):Prop:=∃F h,Same F H/\Dj F h/\Same h H/\ODs K ds vs F h/\FinC K (f ds) E F (less H h) vs Q
theorem CtX.g {ds:List D}(h:CtX K f ds vs H Q E):CtG K f vs H Q E:=by obtain⟨F,h,a⟩:=h;exact⟨F,h,ds,a⟩
theorem zdM_ {gs:List Ag}{hA hE:Hp}(hL:Hold (LofW K ws env) σ F hE)(ag:AgR K σ F H gs vs hA)(j:Jn hA hE h)(ok:Okk F0 H0 F h H)(fin:FinE K (callG f gs env) E ws σ F0 H0 Q):∃ds,resolve env gs=rP ds/\CtX K f ds vs H Q E:=by
 unfold callG at fin;cases er:resolve env gs with
 |none=>rw[er]at fin;exact fin.elim|some ds=>
  rw[er]at fin;dsimp only at fin;by_cases ap:apartAll gs=rR
  rotate_left
  ·rw[if_neg ap]at fin;exact fin.elim
  rw[if_pos ap]at fin;obtain⟨hD,hR,jd,os,ln,g⟩:=lend er ap ag hL j ok.1.2.1 ok.2.2.1;have eX:=zai_ jd;refine⟨ds,rfl,F,hD,ok.1.2.1,dj_l ok.2.1 jd,jd.l.trans ok.2.2.1,os,?_⟩;cases ef:f ds with
  |no=>rw[ef]at fin;exact fin|ex c ds'=>
   rw[ef]at fin;intro F2 h2 H2 ak os2;obtain⟨s,dk,aV⟩:=zal_ ok eX ak;exact zbg_ ok eX (fin F2 (un hR h2) H2 (g ds' F2 h2 _ s os2 (zai_ (zad_ dk))) aV)
  |ok d ds'=>
   rw[ef]at fin;intro v F2 h2 H2 hr hm ak j2 od os2;obtain⟨s,dk,aV⟩:=zal_ ok eX ak;have d1:Dj hR hr:=λp=>by rcases dk p with z |z;exact .inl z;exact .inr (j2.l.free z)
   have d2:Dj hR hm:=λp=>by rcases dk p with z |z;exact .inl z;exact .inr (j2.r.free z)
   have dm:Dj hm hR:=λp=>(d2 p).symm
   refine fin v F2 hr (un hm hR) (un hR h2) H2 (g ds' F2 hm _ s os2 (zad_ dm)) od ?_ aV;rw[zck_ j2];intro p;unfold un;cases x:hr p with
   |some o=>
    right;rcases j2.dj p with z |z
    ·rw[z]at x;cases x
    ·rcases d1 p with y |y
     ·rw[z,y];exact⟨rfl,rfl⟩
     ·rw[y]at x;cases x
   |none=>
    left;refine⟨rfl,?_⟩;cases y:hR p with
    |some o=>
     rcases d2 p with z |z
     ·rw[z]at y;cases y
     ·rw[z]
    |none=>cases hm p<;>rfl
theorem zbf_ {gs:List Ag}{hA hE:Hp}(hL:Hold (LofW K ws env) σ F hE)(ag:AgR K σ F H gs vs hA)(j:Jn hA hE h)(ok:Okk F0 H0 F h H)(fin:FinE K (callG f gs env) E ws σ F0 H0 Q):CtG K f vs H Q E:=by
 obtain⟨ds,_,c⟩:=zdM_ hL ag j ok fin;exact c.g
theorem zi4_ {r:Mr Env (List Ag)}(hg:EvG K ta E ws env r):EvE K (tCall (CtG K f) [] E ta) E ws env (r.bind (callG f)):=by
 intro F0 H0 σ F h H Q hL ok fin;refine hg F0 H0 σ F h H _ hL ok ?_;cases r with
 |no=>exact fin|ex c e=>exact fin|ok gs e=>
  intro vs F1 hA hE h1 H1 ao ag j aq _;rw[ko];exact zbf_ ao ag j aq fin
end
inductive Fl where
 |nx |rt (d:D)|ct |bk
section
variable {K:j3}{E:XK}{F F' F0 F1 F2 H0 h h1 h2 H H' H1 H2:Hp}{d c:D}{ds:List D}{v u:V}{vs:List V}{p:i9}{env:Env}{t:TE}{ws:Ws}{σ:L2.St}{ta:TA}{f:Fn}{s s1 s2:TS}{i:Nat}
def FinS (K:jG)(r:Mr Env Fl)(E:XK)(ws:Ws)(F0 H0:Hp)(N:Ends):Prop:=match r with
 |.ok .nx env=>∀σ F h H,Hold (LofW K ws env) σ F h->Okk F0 H0 F h H->N.nx σ H|.ok .ct env=>∀σ F h H,Hold (LofW K ws env) σ F h->Okk F0 H0 F h H->N.ct σ H|.ok .bk env=>∀σ F h H,Hold (LofW K ws env) σ F h->Okk F0 H0 F h H->N.bk σ H|.ok (.rt d) env=>∀v σ F hr h2 h H,Hold (LofW K ws env) σ F h2->OD K d v F hr->Jn hr h2 h->Okk F0 H0 F h H->N.rt v H|.ex c env=>∀σ F h H,Hold (LofW K ws env) σ F h->Okk F0 H0 F h H->Tell K E c H0 F H|.no=>False
def EvS (K:jG)(t:TS)(E:XK)(ws:Ws)(env:Env)(r:Mr Env Fl):Prop:=
 ∀F0 H0 σ F h H (N:Ends),Hold (LofW K ws env) σ F h->Okk F0 H0 F h H->FinS K r E ws F0 H0 N->t N σ H
theorem es_no:EvS K s E ws env .no:=λ_ _ _ _ _ _ _ _ _ fin=>fin.elim
theorem zdR_:EvS K tNext E ws env (.ok .nx env):=λF0 H0 σ F h H N hL ok fin=>fin σ F h H hL ok
def seqM (r:Mr Env Fl)(g:Env->Mr Env Fl):Mr Env Fl:=r.bind λo e=>match o with |.nx=>g e |_=>.ok o e
theorem zhG_ {r:Mr Env Fl}{g:Env->Mr Env Fl}(bL:EvS K s1 E ws env r)(bY:∀e,EvS K s2 E ws e (g e)):EvS K (tSeq s1 s2) E ws env (seqM r g):=by
 intro F0 H0 σ F h H N hL ok fin;refine bL F0 H0 σ F h H {N with nx:=s2 N} hL ok ?_;cases r with
 |no=>exact fin|ex c e=>exact fin|ok o e=>
  cases o with
  |nx=>exact λσ F h H hL ok=>bY e F0 H0 σ F h H N hL ok fin|rt d=>exact fin|ct=>exact fin|bk=>exact fin
theorem zbF_ {hr hE:Hp}(hw:ws i=rQ)(hi:i<env.length)(hL:Hold (LofW K ws env) σ F hE)(od:OD K d v F hr)(j:Jn hr hE h):Hold (LofW K ws (env.set i (rP d))) (σ.set i (rP v)) F h:=by
 obtain⟨o,k1,k2,e1,jk,pp,g⟩:=Hold.atG hL (z4_ (jf hi));have d1:Dj hr k2:=λp=>by rcases j.dj p with z |z;exact .inl z;exact .inr (jk.r.free z)
 have:=g (slotW K (ws i) (rP d)) (rP v) F hr (un hr k2) (Same.refl _) (zbL_ (λu z=>by rw[hw]at z;cases z) od) (zad_ d1)
 rw[zbO_]at this;refine Hold.more this (g:=k1) ?_;rw[zck_ j,zck_ jk];intro p;unfold un;cases x:hr p with
 |some o=>
  left;refine⟨?_,rfl⟩;rcases j.dj p with z |z
  ·rw[z]at x;cases x
  ·exact jk.l.free z
 |none=>
  cases y:k1 p with
  |some o=>
   right;refine⟨?_,rfl⟩;rcases jk.dj p with z |z
   ·rw[z]at y;cases y
   ·exact z
  |none=>left;exact⟨rfl,rfl⟩
def asgM (pn:Nat->Bool)(i:Nat)(r:Mr Env D):Mr Env Fl:=r.bind λd e=>if pn i=rS/\i<e.length then .ok .nx (e.set i (rP d))else .no
theorem zkh_ {pn:Nat->Bool}{r:Mr Env D}(hp:∀i,pn i=rS->ws i=rQ)(he:EvE K t E ws env r):EvS K (tAsg t (gName i)) E ws env (asgM pn i r):=by
 intro F0 H0 σ F h H N hL ok fin;refine he F0 H0 σ F h H _ hL ok ?_;cases r with
 |no=>exact fin|ex c e=>exact λF h H hL ok=>fin σ F h H hL ok|ok d e=>
  have fin:FinS K (if pn i=rS/\i<e.length then .ok .nx (e.set i (rP d))else .no) E ws F0 H0 N:=fin
  split at fin
  ·rename_i z
   exact λv F1 hr hE h1 H1 ao od j aq=>fin _ F1 h1 H1 (zbF_ (hp i z.1) z.2 ao od j) aq
  ·exact fin.elim
def dropM (r:Mr Env D):Mr Env Fl:=r.bind λ_ e=>.ok .nx e
theorem zj0_ {r:Mr Env D}(he:EvE K t E ws env r):EvS K (tDrop t) E ws env (dropM r):=by
 intro F0 H0 σ F h H N hL ok fin;refine he F0 H0 σ F h H _ hL ok ?_;cases r with
 |no=>exact fin|ex c e=>exact λF h H hL ok=>fin σ F h H hL ok|ok d e=>exact λv F1 hr hE h1 H1 ao od j aq=>fin σ F1 h1 H1 (Hold.more ao j) aq
def retM (r:Mr Env D):Mr Env Fl:=r.bind λd e=>.ok (.rt d) e
theorem zmI_ {r:Mr Env D}(he:EvE K t E ws env r):EvS K (tRet t) E ws env (retM r):=by
 intro F0 H0 σ F h H N hL ok fin;refine he F0 H0 σ F h H _ hL ok ?_;cases r with
 |no=>exact fin|ex c e=>exact λF h H hL ok=>fin σ F h H hL ok|ok d e=>exact λv F1 hr hE h1 H1 ao od j aq=>fin v σ F1 hr hE h1 H1 ao od j aq
theorem zlh_:EvS K tRetN E ws env (.ok (.rt .non) env):=λF0 H0 σ F h H N hL ok fin=>
 fin .non σ F (λ_=>rQ) h h H hL (by unfold OD;exact⟨λ_=>rfl,by unfold DR;rfl⟩) (no_l _ λ_=>rfl) ok
def ifM (env:Env)(b:Mo Bool)(r1 r2:Mr Env Fl):Mr Env Fl:=match b with
 |.ok c=>if c then r1 else r2
 |.ex c=>.ex c env|.no=>.no
theorem es_if {tt:TT}{b:Mo Bool}{r1 r2:Mr Env Fl}(hc:EvT K tt E (Lof K env) b)(bL:EvS K s1 E ws env r1)(bY:EvS K s2 E ws env r2):EvS K (mIfS tt s1 s2) E ws env (ifM env b r1 r2):=by
 intro F0 H0 σ F h H N hL ok fin;refine hc σ (un F h) H _ (zaL_ (hL.froz ok.2.1)) ok.thaw ?_;cases b with
 |no=>exact fin|ex c=>exact λF' H' y=>(fin σ _ _ _ (hL.mono (ok.back y).2.1) (ok.back y).1).back ok y|ok c=>
  intro F' H' y;obtain⟨o,hsF,ht⟩:=ok.back y;refine⟨λz=>?_,λz=>?_⟩
  ·subst z;exact bL F0 H0 σ _ h H' N (hL.mono hsF) o fin
  ·subst z;exact bY F0 H0 σ _ h H' N (hL.mono hsF) o fin
def forM (step:Env->List D->Mr Env Fl):List (List D)->Env->Mr Env Fl
 |[],e=>.ok .nx e|x::xs,e=>(step e x).bind λo e'=>match o with |.nx=>forM step xs e' |.ct=>forM step xs e' |.bk=>.ok .nx e' |.rt d=>.ok (.rt d) e'
def setG (pn:Nat->Bool):Env->List Nat->List D->Option Env
 |e,i::is,d::ds=>if pn i=rS/\i<e.length then setG pn (e.set i (rP d.vw)) is ds else rQ
 |e,[],[]=>rP e|_,_,_=>rQ
theorem zbP_ {pn:Nat->Bool}(hp:∀i,pn i=rS->ws i=rQ):∀{is:List Nat}{ds:List D}{env e:Env}{σ:L2.St}{vs:List (Nat×Option V)},setG pn env is ds=rP e->Plain F (ssT K is ds) vs->Hold (LofW K ws env) σ F h->Hold (LofW K ws e) (setS σ vs) F h
 |[],[],env,e,σ,vs,z,pl,hL=>by unfold setG at z;cases z;cases pl;exact hL
 |i::is,d::ds,env,e,σ,vs,z,pl,hL=>by
  unfold setG at z;split at z
  ·rename_i y
   cases pl with
   |cons hv pl=>
    refine zbP_ hp (is:=is) (ds:=ds) (σ:=σ.set i (rP _)) z pl ?_;exact zbF_ (hp i y.1) y.2 hL (OD.vw (h:=λ_=>rQ) (λ_=>rfl) hv) (no_l _ λ_=>rfl)
  ·cases z
 |[],_::_,_,_,_,_,z,_,_=>by unfold setG at z;cases z
 |_::_,[],_,_,_,_,z,_,_=>by unfold setG at z;cases z
theorem zha_ {hr hE:Hp}(od:ODs K ds vs F hr)(j:Jn hr hE h)(ok:Okk F0 H0 F h H):DRs K ds vs (un F hr)/\Same F (un F hr)/\Okk F0 H0 (un F hr) hE H:=by
 obtain⟨o1,o2,o3,o4,o5⟩:=ok;refine⟨OD.view.go z2_ (zcu_ (dj_l o2 j)) od,z2_,⟨o1.1.trans z2_,λp o e=>?_,o1.2.2.1,λp a b=>?_⟩,λp=>?_,j.r.trans o3,λp z=>?_,λp xs e=>o5 p xs (j.r _ _ e)⟩
 ·unfold un at e
  cases z:F p with
  |some w=>rw[z]at e;cases e;exact o1.2.1 _ _ z|none=>rw[z]at e;exact o3 _ _ (j.l _ _ e)
 ·unfold un at b
  cases z:F p with
  |some w=>exact o1.2.2.2 p a (by rw[z];exact sN _)|none=>
   rw[z]at b;cases y:hr p with
   |none=>exact absurd y b|some w=>exact o4 p (by rw[j.l _ _ y];exact sN _)
 ·unfold un
  cases z:F p with
  |some w=>
   rcases dj_r o2 j p with y |y
   ·rw[y]at z;cases z
   ·exact .inr y
  |none=>exact j.dj p
 ·cases y:hE p with
  |none=>exact absurd y z|some w=>exact o4 p (by rw[j.r _ _ y];exact sN _)
noncomputable def dsOf:List Ag->Option (List D)
 |[]=>rP []|.d d::gs=>(dsOf gs).map λds=>d::ds|.l _::_=>rQ
theorem ag_ds:∀{gs:List Ag}{ds:List D}{vs:List V}{h:Hp},dsOf gs=rP ds->AgR K σ F H gs vs h->ODs K ds vs F h
 |[],_,_,_,e,r=>by unfold dsOf at e;cases e;unfold ODs;exact r
 |.d d::gs,_,_,_,e,q_=>by
  obtain⟨v,a7,h1,h2,e1,j,o,r⟩:=q_;unfold dsOf at e;obtain⟨ds,e2,rfl⟩:=jz.mp e;unfold ODs;exact⟨v,a7,h1,h2,e1,j,o,ag_ds e2 r⟩
 |.l _::_,_,_,_,e,_=>by unfold dsOf at e;cases e
def forS (pn:Nat->Bool)(ik:Ik)(g:Tg)(r:Mr Env (List Ag))(body:Env->Mr Env Fl):Mr Env Fl:=r.bind λgs e=>match dsOf gs with
 |some ds=>(match ik.f ds with
  |.ok items=>(match tgsD g items with
   |some xs=>forM (λe x=>match setG pn e g.is x with |some e'=>body e' |none=>.no) xs e|none=>.no)
  |_=>.no)
 |none=>.no
theorem zob_ {pn:Nat->Bool}{ik:Ik}{g:Tg}{r:Mr Env (List Ag)}{body:Env->Mr Env Fl}(hp:∀i,pn i=rS->ws i=rQ)(hg:EvG K ta E ws env r)(hb:∀e,EvS K s E ws e (body e)):EvS K (tFor (ik.t K ta) (tgT K g) s) E ws env (forS pn ik g r body):=by
 intro F0 H0 σ F h H N hL ok fin;refine hg F0 H0 σ F h H _ hL ok ?_;cases r with
 |no=>exact fin|ex c e=>exact λF h H hL ok=>fin σ F h H hL ok|ok gs e=>
  intro vs F1 hA hE h1 H1 ao ag j aq _
  have fin:FinS K (match dsOf gs with
   |some ds=>(match ik.f ds with
    |.ok items=>(match tgsD g items with
     |some xs=>forM (λe x=>match setG pn e g.is x with |some e'=>body e' |none=>.no) xs e|none=>.no)
    |_=>.no)
   |none=>.no) E ws F0 H0 N:=fin
  cases e1:dsOf gs with
  |none=>rw[e1]at fin;exact fin.elim|some ds=>
   rw[e1]at fin;dsimp only at fin;obtain⟨dr,sF,ak⟩:=zha_ (ag_ds e1 ag) j aq;cases e2:ik.f ds with
   |no=>rw[e2]at fin;exact fin.elim|ex c=>rw[e2]at fin;exact fin.elim|ok items=>
    rw[e2]at fin;dsimp only at fin;cases e3:tgsD g items with
    |none=>rw[e3]at fin;exact fin.elim|some xs=>
     rw[e3]at fin;dsimp only at fin;refine ik_w (E:=E) ik ds vs σ (un F1 hA) H1 _ ak.1.2.1 dr ?_;rw[e2];intro F2 H2 x2 J Y;have aV:=ak.cold x2;obtain⟨l,gx⟩:=zcK_ e3;have xx:Ext F0 H0 F2 H2:=aV.1
     refine⟨λn m σ H=>m=xs.length-n/\n<=xs.length/\∃e F h,Hold (LofW K ws e) σ F h/\Okk F2 H0 F h H/\FinS K (forM (λe x=>match setG pn e g.is x with |some e'=>body e' |none=>.no) (xs.drop n) e) E ws F0 H0 N,
      ⟨_,rfl,lZ _,e,F2,hE,ao.mono (sF.trans x2.1),aV.rebase xx (Same.refl _),fin⟩,?_⟩
     rintro n m σ H ⟨rfl,hn,e,F,h,hL,ok,fin⟩;have s1:Same F2 H:=ok.1.1.trans ok.1.2.1;by_cases aN:n<xs.length
     ·right
      obtain⟨d,hd,td⟩:=gx n xs[n] (jf aN);obtain⟨g1,g2⟩:=Y.go n H d s1 hd;refine⟨g1,λaf H'=>n+1<=xs.length/\∃e F h,Hold (LofW K ws e) af F h/\Okk F2 H0 F h H'/\FinS K (forM (λe x=>match setG pn e g.is x with |some e'=>body e' |none=>.no) (xs.drop (n+1)) e) E ws F0 H0 N,λaf H' z=>⟨xs.length-(n+1),by lia,rfl,z⟩,λv H3 hy=>?_⟩
      obtain⟨F3,x3,hv⟩:=g2 v H3 hy F ok.1.1 ok.1.2.1;refine tg_R g xs[n] v σ F3 H3 _ x3.2.1 (tgD_R td hv) λvs pl=>?_
      rw[nP aN]at fin;unfold forM at fin;cases es:setG pn e g.is xs[n]with
      |none=>rw[es]at fin;exact fin.elim|some e'=>
       rw[es]at fin;refine hb e' F2 H0 _ F3 h H3 _ (zbP_ hp es pl (hL.mono x3.1)) (ok.cold x3) ?_;dsimp only[Mr.bind]at fin;cases eb:body e' with
       |no=>rw[eb]at fin;exact fin|ex c e2=>rw[eb]at fin;exact λσ F h H hL ok=>fin σ F h H hL (ok.unbase xx)|ok o e2=>
        rw[eb]at fin;cases o with
        |nx=>exact λaf F' h' H' bS aJ=>⟨aN,e2,F',h',bS,aJ,fin⟩|ct=>exact λaf F' h' H' bS aJ=>⟨aN,e2,F',h',bS,aJ,fin⟩|bk=>exact λaf F' h' H' bS aJ=>fin af F' h' H' bS (aJ.unbase xx)|rt a=>exact λv σ F hr h2 h H a1 a2 a3 ok=>fin v σ F hr h2 h H a1 a2 a3 (ok.unbase xx)
     ·left
      have en:n=xs.length:=by lia
      subst en;rw[ox]at fin;exact⟨by rw[l];exact Y.stop H s1,fin σ F h H hL (ok.unbase xx)⟩
set_option genSizeOf false
set_option genSizeOfSpec false
set_option bootstrap.genMatcherCode false
noncomputable section
open Classical
def noEx (r:Mr Env Fl):Mr Env Fl:=match r with |.ex _ _=>.no |r=>r
end
def raiseM (c:String)(r:Mr Env (List Ag)):Mr Env Fl:=r.bind λgs e=>if gs.length<=100 then .ex (.pl c) e else .no
theorem zd4_:∀{gs:List Ag}{vs:List V}{h:Hp},AgR K σ F H gs vs h->vs.length=gs.length
 |[],_,_,r=>by rw[r.1];rfl
 |.d d::gs,_,_,r=>by obtain⟨v,a7,h1,h2,e,j,o,r⟩:=r;rw[e,jg,jg,zd4_ r]
 |.l q::gs,_,_,r=>by obtain⟨u,v,a7,e,e1,f,r⟩:=r;rw[e,jg,jg,zd4_ r]
theorem zil_ {c:String}{r:Mr Env (List Ag)}(hg:EvG K ta E ws env r):EvS K (tRaise (gA K c) E ta) E ws env (raiseM c r):=by
 intro F0 H0 σ F h H N hL ok fin;refine hg F0 H0 σ F h H _ hL ok ?_;cases r with
 |no=>exact fin|ex c e=>exact λF h H hL ok=>fin σ F h H hL ok|ok gs e=>
  intro vs F1 hA hE h1 H1 ao ag j aq _;have fin:FinS K (if gs.length<=100 then .ex (.pl c) e else .no) E ws F0 H0 N:=fin
  split at fin
  ·rename_i z;exact⟨by rw[zd4_ ag];exact z,fin σ F1 h1 H1 (Hold.more ao j) aq⟩
  ·exact fin.elim
end
section
variable {K:j3}{E:XK}{F F' F0 F1 F2 H0 h h1 h2 h3 k H H' H1 H2:Hp}{d c:D}{ds:List D}{v u:V}{us vs:List V}{p:i9}{Q:VK}{env:Env}{t:TE}{ws:Ws}{σ:L2.St}{G:Gi}{q:Pl}{f:Fn}{s:TS}{i:Nat}
theorem ODs.snoc:∀{ds:List D}{us:List V}{h1 h:Hp},ODs K ds us F h1->OD K d v F h2->Jn h1 h2 h->ODs K (ds++[d]) (us++[v]) F h
 |[],_,h1,h,q,o,j=>by
  unfold ODs at q;rw[q.1,lY,lY];have:h=h2:=by rw[zck_ j];funext p;unfold un;rw[q.2 p]
  subst this;unfold ODs;exact⟨v,[],h,λ_=>rQ,rfl,no_r _ λ_=>rfl,o,by unfold ODs;exact⟨rfl,λ_=>rfl⟩⟩
 |e::es,_,h1,h,q,o,j=>by
  unfold ODs at q;obtain⟨w,ws,k1,k2,rfl,jk,a,r⟩:=q;obtain⟨m,jm,jh⟩:=zp_ jk j;rw[lq,lq];unfold ODs;exact⟨w,ws++[v],k1,m,rfl,jh,a,ODs.snoc r o jm⟩
theorem zit_ {o o':HO}{hc ha k:Hp}{ds':List D}(hs:Same F H)(dj:Dj F h)(sh:Same h H)(nt:∀p xs,h p≠rP (.tup xs))(jh:Jn (one p o) k h)(n':∀xs,o'≠.tup xs){d:D}{v:V}{hr h2:Hp}(jk:Jn hr h2 (un (one p o') k))
  (od:OD K d v F hr) (os:ODs K ds' vs F h2) (fin:∀v F' h' H' hr h2,Okk F (less H h) F' h' H'->Jn hr h2 h'->OD K d v F' hr->ODs K ds' vs F' h2->Q v H'):Q v (upd H p o'):=by
 have ok:=zaX_ hs dj sh nt;have hp:h p≠rQ:=by rw[jh.l _ _ zD_];exact sN _
 have aJ:=zcY_ (h1':=h) (hr:=h) (h':=h) ok hp n' (un (one p o') k) λq=>by
  unfold un;rw[ze_];by_cases e:q=p
  ·rw[if_pos e,if_pos e]
  ·rw[if_neg e,if_neg e]
   rcases jh q with⟨_,b⟩|⟨a,b⟩
   ·exact b.symm
   ·rw[a,b,ze_,if_neg e]
 exact fin v F _ _ hr h2 aJ jk od os
def BmOk (K:jG)(r:V->List V->Hp->VK->Prop)(f:Fn):Prop:=∀x xs H Q E,CtG K f (x::xs) H Q E->r x xs H Q
def appendF:Fn:=λds=>match ds with
 |[.nd .lst xs,d]=>if xs.length<jj then .ok .non [.nd .lst (xs++[d]),.gone]else .no
 |_=>.no
theorem zd5_ (os:ODs K ds vs F h):∀p xs,h p≠rP (.tup xs):=OD.notup.go os
theorem zcO_ {h:Hp}(hn:∀p,h p=rQ):OD K .non .non F h:=by unfold OD;exact⟨hn,by unfold DR;rfl⟩
theorem zfE_:BmOk K rAppend appendF:=by
 rintro x xs H Q E ⟨F,h,ds,hs,dj,sh,os,fin⟩;have nt:=zd5_ os;unfold appendF at fin;split at fin
 ·rename_i ys d
  split at fin
  ·rename_i hl
   unfold ODs at os;obtain⟨w,ws,m1,m2,e1,jm,o1,os⟩:=os;cases e1;unfold ODs at os;obtain⟨y,ws2,n1,n2,e2,jn,o2,os⟩:=os;cases e2;unfold ODs at os;obtain⟨rfl,nn⟩:=os;unfold OD at o1;obtain⟨p,us,h0,hc,rfl,cl,jc,oc⟩:=o1;have e0:h0=one p (.lst us):=cl;subst e0;have em:m2=n1:=by rw[zck_ jn];funext q;unfold un;cases z:n1 q with |none=>exact nn q |some o=>rfl
   subst em;obtain⟨a,ja,jb⟩:=zp_ jc jm;have hp:H p=rP (.lst us):=sh _ _ (jb.l _ _ zD_);refine⟨p,us,y,rfl,rfl,hp,by rw[<- ODs.len oc];exact hl,?_⟩
   have d1:Dj (one p (.lst (us++[y]))) a:=λq=>by
    rw[ze_];split
    ·rename_i e;subst e;right;exact(by rcases jb.dj q with z |z;rw[zD_]at z;cases z;exact z)
    ·exact .inl rfl
   refine zit_ (vs:=[.ref p,y]) (ds':=[.nd .lst (ys++[d]),.gone]) (hr:=λ_=>rQ) (h2:=un (one p (.lst (us++[y]))) a) (hc:=h) (ha:=h) hs dj sh nt jb (λxs z=>by cases z) (no_l _ λ_=>rfl) (zcO_ λ_=>rfl) ?_ fin
   unfold ODs;refine⟨.ref p,[y],_,λ_=>rQ,rfl,no_r _ λ_=>rfl,?_,?_⟩
   ·unfold OD
    exact⟨p,us++[y],_,a,rfl,rfl,zad_ d1,ODs.snoc oc o2 ja⟩
   ·unfold ODs
    exact⟨y,[],λ_=>rQ,λ_=>rQ,rfl,no_r _ λ_=>rfl,zat_ λ_=>rfl,by unfold ODs;exact⟨rfl,λ_=>rfl⟩⟩
  ·exact fin.elim
 ·exact fin.elim
theorem recv1 {k:Nd}{ys args:List D}{x:V}{xs:List V}(os:ODs K (.nd k ys::args) (x::xs) F h):∃p us h0 hc ha a,x=.ref p/\Cell K k p us F h0/\Jn h0 a h/\Jn hc ha a/\ODs K ys us F hc/\ODs K args xs F ha:=by
 unfold ODs at os;obtain⟨w,ws,m1,m2,e1,jm,o1,os⟩:=os;cases e1;unfold OD at o1;obtain⟨p,us,h0,hc,rfl,cl,jc,oc⟩:=o1;obtain⟨a,ja,jb⟩:=zp_ jc jm;exact⟨p,us,h0,hc,m2,a,rfl,cl,jb,ja,oc,os⟩
theorem zfG_ {o o':HO}{a:Hp}(jb:Jn (one p o) a h):Dj (one p o') a:=λq=>by
 rw[ze_];split
 ·rename_i e;subst e;right;rcases jb.dj q with z |z
  ·rw[zD_]at z;cases z
  ·exact z
 ·exact .inl rfl
theorem zbN_:ODs K [] [] F (λ_=>rQ):=by unfold ODs;exact⟨rfl,λ_=>rfl⟩
theorem zeA_ {y:V}(h1:ODs K [d] [y] F h):OD K d y F h:=by
 unfold ODs at h1;obtain⟨v,vs,m1,m2,e,j,o,r⟩:=h1;cases e;unfold ODs at r;have:h=m1:=by rw[zck_ j];funext q;unfold un;cases z:m1 q with |none=>exact r.2 q |some o=>rfl
 rw[this];exact o
theorem zho_ {xs:List V}(h1:ODs K [d] xs F h):∃y,xs=[y]:=lQ.mp (ODs.len h1).symm
theorem len2_ {l:List V}(h:l.length=2):∃a b,l=[a,b]:=by
 obtain⟨a,t,rfl⟩:=lJ h;obtain⟨b,rfl⟩:=lQ.mp (nE h);exact⟨a,b,rfl⟩
theorem len3_ {l:List V}(h:l.length=3):∃a b c,l=[a,b,c]:=by
 obtain⟨a,t,rfl⟩:=lJ h;obtain⟨b,c,rfl⟩:=len2_ (nE h);exact⟨a,b,c,rfl⟩
theorem ODs.erase:∀{ds:List D}{us:List V}{h:Hp}{i:Nat}{c:D},ODs K ds us F h->ds[i]?=rP c->∃u h1 h2,us[i]?=rP u/\Jn h1 h2 h/\OD K c u F h1/\ODs K (ds.eraseIdx i) (us.eraseIdx i) F h2
 |[],_,_,_,_,_,e=>by simp at e
 |d::ds,_,h,0,c,q,e=>by
  unfold ODs at q;obtain⟨v,vs,h1,h2,rfl,j,a,r⟩:=q;simp at e;subst e;exact⟨v,h1,h2,rfl,j,a,r⟩
 |d::ds,_,h,i+1,c,q,e=>by
  unfold ODs at q;obtain⟨v,vs,h1,h2,rfl,j,a,r⟩:=q;obtain⟨u,k1,k2,e1,j1,o1,f⟩:=ODs.erase r (by simpa using e)
  obtain⟨m,jm,jh⟩:=zp_ j1 (zai_ j);refine⟨u,k1,m,by simpa using e1,jh,o1,?_⟩
  rw[kE,kE];unfold ODs;exact⟨v,vs.eraseIdx i,h1,k2,rfl,zai_ jm,a,f⟩
theorem recvV {v0 d0:D}{args:List D}{x y:V}{xs:List V}(os:ODs K (v0::d0::args) (x::y::xs) F h):∃h1 h2 h3 a,Jn h1 a h/\Jn h2 h3 a/\OD K v0 x F h1/\OD K d0 y F h2/\ODs K args xs F h3:=by
 unfold ODs at os;obtain⟨w,ws,m1,m2,e1,jm,o1,os⟩:=os;cases e1;unfold ODs at os;obtain⟨w2,ws2,n1,n2,e2,jn,o2,os⟩:=os;cases e2;exact⟨m1,n1,n2,m2,jm,jn,o1,o2,os⟩
def rSetD:TSet:=λo i v H Q=>atD o i H λa kvs k=>kvs.length<jj/\Q (upd H a (.dK (putK kvs k v)))
def rSetA:TSet:=λo i v H Q=>mSet o i v H Q\/rSetD o i v H Q
theorem set_A {X:Cx}(hu:X.A.units+60<cLine):PSet X rSetA:=by
 intro pins s σ H o i v ov iv u Q I ro ri rv h;rcases h with h |h
 ·exact set_M pins s σ H o i v ov iv u Q I ro ri rv h
 ·obtain⟨a,kvs,k,rfl,rfl,hd,hl,q⟩:=zmM_ h
  cases ro;exact zgb_ (by lia) I (DPut.k hd hl) ri rv λs4 I4=>⟨_,I4,q⟩
def setIF:Fn:=λds=>match ds with
 |[v,.nd .lst xs,.int i]=>(match ixN xs.length i with |some j=>.ok .non [.gone,.nd .lst (xs.set j v),.int i]|none=>.no)|[v,.nd (.dct ks) xs,k]=>(match keyD k with
  |some k'=>if kIx ks k'<ks.length/\xs.length<jj then .ok .non [.gone,.nd (.dct ks) (xs.set (kIx ks k') v),k]else if xs.length<jj/\¬kIx ks k'<ks.length then .ok .non [.gone,.nd (.dct (ks++[k'])) (xs++[v]),k]else .no
  |none=>.no)
 |_=>.no
theorem zeS_ {o o':HO}{k m:Hp}{ds':List D}(hs:Same F H)(dj:Dj F h)(sh:Same h H)(nt:∀p xs,h p≠rP (.tup xs))(jh:Jn (one p o) k h)(n':∀xs,o'≠.tup xs)(sm:Same m (un (one p o') k)){d:D}{v:V}{hr h2:Hp}(jk:Jn hr h2 m)
  (od:OD K d v F hr) (os:ODs K ds' vs F h2) (fin:∀v F' h' H' hr h2,Okk F (less H h) F' h' H'->Jn hr h2 h'->OD K d v F' hr->ODs K ds' vs F' h2->Q v H'):Q v (upd H p o'):=by
 have ok:=zaX_ hs dj sh nt;have hp:h p≠rQ:=by rw[jh.l _ _ zD_];exact sN _
 have aJ:=zcY_ (h1':=h) (hr:=h) (h':=h) ok hp n' (un (one p o') k) λq=>by
  unfold un;rw[ze_];by_cases e:q=p
  ·rw[if_pos e,if_pos e]
  ·rw[if_neg e,if_neg e]
   rcases jh q with⟨_,b⟩|⟨a,b⟩
   ·exact b.symm
   ·rw[a,b,ze_,if_neg e]
 exact fin v F _ _ hr h2 (zbr_ aJ sm) jk od os
theorem zh0_:∀{ks:List Key}{k:Key},kIx ks k<ks.length↔k∈ks
 |[],k=>by simp[kIx]
 |k0::ks,k=>by
  unfold kIx;by_cases e:k0=k
  ·subst e;simp
  ·rw[if_neg e,jg,Nat.succ_lt_succ_iff,zh0_,jK]
   exact⟨.inr,λz=>by rcases z with z |z;exact absurd z.symm e;exact z⟩
theorem zlA_:∀{ks:List Key}{us:List V}{k:Key}{v:V},k∈ks->ks.Nodup->ks.length=us.length->putK (ks.zip us) k v=ks.zip (us.set (kIx ks k) v):=λ{ks us k v} hk nd hl=>by
 have ha:((ks.zip us).any λkv=>decide (kv.1=k))=rR:=by
  rw[m8];obtain⟨i,hi,e⟩:=mF hk;exact⟨(ks[i],us[i]'(by lia)),l6 (i:=i) (by rw[List.getElem?_zip_eq_some];exact⟨by rw[jf hi],by rw[jf]⟩),by simpa using e⟩
 unfold putK;rw[if_pos ha];clear ha;induction ks generalizing us with
 |nil=>simp at hk|cons k0 ks ih=>
  cases us with
  |nil=>simp at hl|cons u us=>
   obtain⟨n1,n2⟩:=mw.mp nd;rw[jR,ju];unfold kIx;by_cases e:k0=k
   ·subst e
    rw[if_pos rfl,if_pos rfl,lV,jR];congr 1;have:∀q∈ks.zip us,(if q.1=k0 then(q.1,v)else q)=q:=λq hq=>by
     have h1:=(lL (a:=q.1) (b:=q.2) hq).1;rw[if_neg (show¬q.1=k0 from λz=>n1 (z ▸ h1))]
    exact(la this).trans (pZ _)
   ·rw[if_neg e,if_neg e,lG,jR]
    congr 1;exact ih (by rcases jK.mp hk with z |z;exact absurd z.symm e;exact z) n2 (by simpa using hl)
theorem zhA_ {ks:List Key}{us:List V}{k:Key}{v:V}(hk:k∉ks)(hl:ks.length=us.length):putK (ks.zip us) k v=(ks++[k]).zip (us++[v]):=by
 have ha:¬((ks.zip us).any λkv=>decide (kv.1=k))=rR:=by
  rw[m8];rintro⟨q,hq,e⟩;exact hk (by have:=(lL hq).1;simp at e;rw[<- e];exact this)
 unfold putK;rw[if_neg ha,List.zip_append hl];rfl
theorem ziR_ {k:Nd}{ys:List D}(o:OD K (.nd k ys) v F h):∃p us h0 hc,v=.ref p/\Cell K k p us F h0/\Jn h0 hc h/\ODs K ys us F hc:=by unfold OD at o;exact o
theorem ods3 {a b c:D}{x y z:V}{h1 h2 h3 m:Hp}(o1:OD K a x F h1)(o2:OD K b y F h2)(o3:OD K c z F h3)(j1:Jn h2 h3 m)(j2:Jn h1 m h):ODs K [a,b,c] [x,y,z] F h:=by
 unfold ODs;refine⟨x,[y,z],h1,m,rfl,j2,o1,?_⟩;unfold ODs;refine⟨y,[z],h2,h3,rfl,j1,o2,?_⟩;unfold ODs;exact⟨z,[],h3,λ_=>rQ,rfl,no_r _ λ_=>rfl,o3,zbN_⟩
theorem zmz_ {x o i:V}{QQ:Hp->Prop}(h0:CtG K setIF [x,o,i] H (λv H'=>v=.non->QQ H') E):rSetA o i x H QQ:=by
 obtain⟨F,h,ds,hs,dj,sh,os,fin⟩:=h0;have nt:=zd5_ os;unfold setIF at fin;split at fin
 ·rename_i v0 ys j0
  obtain⟨h1,h2,h3,a,ja,jb,ov,orr,oi⟩:=recvV os;have oi:=zeA_ oi;unfold OD at oi;obtain⟨n3,r3⟩:=oi;cases r3.int;obtain⟨p,us,c0,hc,rfl,cl,jc,oc⟩:=ziR_ orr;have e0:c0=one p (.lst us):=cl;subst e0;have ea:a=h2:=by rw[zck_ jb];funext q;unfold un;cases z:h2 q with |none=>exact n3 q |some o=>rfl
  subst ea;cases ej:ixN ys.length j0 with
  |none=>rw[ej]at fin;exact fin.elim|some j=>
   rw[ej]at fin;dsimp only at fin;have fF:=(ze3_ ej).2.1;obtain⟨u,k1,k2,eu,jk,ow,g⟩:=ODs.focus oc (jf fF);obtain⟨m,jm,jh⟩:=zp_ jc (zai_ ja);have d1:Dj h1 hc:=λq=>(jm.dj q).symm
   have d2:Dj h1 k2:=λq=>by rcases d1 q with z |z;exact .inl z;exact .inr (jk.r.free z)
   have on:=g v0 F x h1 (un h1 k2) (Same.refl _) ov (zad_ d2);have hp:H p=rP (.lst us):=sh _ _ (jh.l _ _ zD_);have sm:Same (un h1 k2) m:=λq o e=>by
    unfold un at e;cases z:h1 q with
    |some w=>rw[z]at e;cases e;exact jm.r _ _ z|none=>rw[z]at e;exact jm.l _ _ (jk.r _ _ e)
   have dp:Dj (one p (.lst (us.set j x))) (un h1 k2):=λq=>by
    rcases zfG_ (o':=.lst (us.set j x)) jh q with z |z
    ·exact .inl z
    ·exact .inr (sm.free z)
   refine .inl ⟨us,hp,?_⟩;rw[<- ODs.len oc,ej];refine zeS_ (vs:=[x,.ref p,.int j0]) (m:=un (one p (.lst (us.set j x))) (un h1 k2)) (d:=.non) (v:=.non) (Q:=λv H'=>v=.non->QQ H') (hr:=λ_=>rQ) hs dj sh nt jh (λxs z=>by cases z) (λq o e=>?_) (no_l _ λ_=>rfl) (zcO_ λ_=>rfl) (ods3 (zat_ λ_=>rfl) ?_ (by unfold OD;exact⟨λ_=>rfl,by unfold DR;rfl⟩) (no_r _ λ_=>rfl) (no_l _ λ_=>rfl)) fin rfl
   ·unfold un at e ⊢
    cases z:one p (.lst (us.set j x)) q with
    |some w=>rw[z]at e;exact e|none=>rw[z]at e;exact sm _ _ e
   ·unfold OD
    exact⟨p,us.set j x,_,un h1 k2,rfl,rfl,zad_ dp,on⟩
 ·rename_i v0 ks ys key
  obtain⟨h1,h2,h3,a,ja,jb,ov,orr,oi⟩:=recvV os;have oi:=zeA_ oi;obtain⟨p,us,c0,hc,rfl,cl,jc,oc⟩:=ziR_ orr;obtain⟨e0,el,nd⟩:=cl;subst e0;cases ek:keyD key with
  |none=>rw[ek]at fin;exact fin.elim|some k'=>
   rw[ek]at fin;dsimp only at fin;have ck:(∀q,h3 q=rQ)/\DR K key i F:=by
    have:∀{d:D}{k:Key},keyD d=rP k->d.cold=rR:=λ{d}=>by
     cases d with
     |nd=>intro k e;cases e
     |_=>intro k e;rfl
    exact OD.cold (this ek) oi
   obtain⟨n3,r3⟩:=ck;have kv:=ziZ_ ek r3;have ea:a=h2:=by rw[zck_ jb];funext q;unfold un;cases z:h2 q with |none=>exact n3 q |some o=>rfl
   subst ea;obtain⟨m,jm,jh⟩:=zp_ jc (zai_ ja);have hp:H p=rP (.dK (ks.zip us)):=sh _ _ (jh.l _ _ zD_);have d1:Dj h1 hc:=λq=>(jm.dj q).symm
   split at fin
   ·rename_i gY
    obtain⟨hk,dz⟩:=gY;have hj:kIx ks k'<ys.length:=by rw[ODs.len oc,<- el];exact hk
    obtain⟨u,k1,k2,eu,jk,ow,g⟩:=ODs.focus oc (jf hj);have d2:Dj h1 k2:=λq=>by rcases d1 q with z |z;exact .inl z;exact .inr (jk.r.free z)
    have on:=g v0 F x h1 (un h1 k2) (Same.refl _) ov (zad_ d2);have sm:Same (un h1 k2) m:=λq o e=>by
     unfold un at e;cases z:h1 q with
     |some w=>rw[z]at e;cases e;exact jm.r _ _ z|none=>rw[z]at e;exact jm.l _ _ (jk.r _ _ e)
    have dp:Dj (one p (.dK (ks.zip (us.set (kIx ks k') x)))) (un h1 k2):=λq=>by
     rcases zfG_ (o':=.dK (ks.zip (us.set (kIx ks k') x))) jh q with z |z
     ·exact .inl z
     ·exact .inr (sm.free z)
    refine .inr (zjT_ rfl kv.1 hp ⟨?_,?_⟩)
    ·rw[lX,el,mB,<- ODs.len oc];exact dz
    ·rw[zlA_ (zh0_.mp hk) nd el]
     refine zeS_ (vs:=[x,.ref p,i]) (m:=un (one p (.dK (ks.zip (us.set (kIx ks k') x)))) (un h1 k2)) (d:=.non) (v:=.non) (Q:=λv H'=>v=.non->QQ H') (hr:=λ_=>rQ) hs dj sh nt jh (λxs z=>by cases z) (λq o e=>?_) (no_l _ λ_=>rfl) (zcO_ λ_=>rfl) (ods3 (zat_ λ_=>rfl) ?_ oi (λq=>.inr ⟨n3 q,rfl⟩) (no_l _ λ_=>rfl)) fin rfl
     ·unfold un at e ⊢
      cases z:one p (.dK (ks.zip (us.set (kIx ks k') x))) q with
      |some w=>rw[z]at e;exact e|none=>rw[z]at e;exact sm _ _ e
     ·unfold OD
      exact⟨p,us.set (kIx ks k') x,_,un h1 k2,rfl,⟨rfl,by rw[lj];exact el,nd⟩,zad_ dp,on⟩
   ·split at fin
    ·rename_i dz
     obtain⟨hl,hk⟩:=dz;have bO:k'∉ks:=λz=>hk (zh0_.mpr z)
     refine .inr (zjT_ rfl kv.1 hp ⟨by rw[lX,el,mB,<- ODs.len oc];exact hl,?_⟩)
     rw[zhA_ bO el];have on:=ODs.snoc oc ov jm;have dp:=zfG_ (o':=.dK ((ks++[k']).zip (us++[x]))) jh;refine zeS_ (vs:=[x,.ref p,i]) (m:=un (one p (.dK ((ks++[k']).zip (us++[x])))) m) (d:=.non) (v:=.non) (Q:=λv H'=>v=.non->QQ H') (hr:=λ_=>rQ) hs dj sh nt jh (λxs z=>by cases z) (Same.refl _) (no_l _ λ_=>rfl) (zcO_ λ_=>rfl) (ods3 (zat_ λ_=>rfl) ?_ oi (λq=>.inr ⟨n3 q,rfl⟩) (no_l _ λ_=>rfl)) fin rfl
     unfold OD;exact⟨p,us++[x],_,m,rfl,⟨rfl,by simp[el],nV.mpr ⟨nd,by simp,by rintro a ha b hb rfl;simp at hb;subst hb;exact bO ha⟩⟩,zad_ dp,on⟩
    ·exact fin.elim
 ·exact fin.elim
theorem zeB_ {dx:i9}{o o':HO}{k m:Hp}{ds':List D}(hs:Same F H)(dj:Dj F h)(sh:Same h H)(nt:∀p xs,h p≠rP (.tup xs))(jh:Jn (two p dx o) k h)(n':∀xs,o'≠.tup xs)(sm:Same m (un (two p dx o') k)){d:D}{v:V}{hr h2:Hp}(jk:Jn hr h2 m)
  (od:OD K d v F hr) (os:ODs K ds' vs F h2) (fin:∀v F' h' H' hr h2,Okk F (less H h) F' h' H'->Jn hr h2 h'->OD K d v F' hr->ODs K ds' vs F' h2->Q v H'):Q v (upd H p o'):=by
 have ok:=zaX_ hs dj sh nt;have hp:h p≠rQ:=by rw[jh.l _ _ zjJ_];exact sN _
 have aJ:=zcY_ (h1':=h) (hr:=h) (h':=h) ok hp n' (un (two p dx o') k) λq=>by
  unfold un;rw[z6_];by_cases e:q=p
  ·rw[if_pos e,if_pos e]
  ·rw[if_neg e,if_neg e]
   rcases jh q with⟨a,b⟩|⟨a,b⟩
   ·rw[z6_,if_neg e]at a
    rw[b];split at a
    ·cases a
    ·rename_i z;rw[if_neg z]
   ·rw[a,b,z6_,if_neg e];split<;>(rename_i z;exact z.symm)
 exact fin v F _ _ hr h2 (zbr_ aJ sm) jk od os
theorem zgY_:∀{ns:List Str}{us:List V}{f:Str}{v:V},f∈ns->ns.length=us.length->putF f v (ns.zip us)=ns.zip (us.set (ns.idxOf f) v)
 |[],_,_,_,h,_=>by simp at h
 |n::ns,[],_,_,_,l=>by simp at l
 |n::ns,u::us,f,v,h,l=>by
  rw[jR,putF];by_cases e:n=f
  ·subst e;rw[if_pos rfl];simp
  ·rw[if_neg e,zgY_ (by rcases jK.mp h with z |z;exact absurd z.symm e;exact z) (by simpa using l),oV,show(n == f)=rS from beq_eq_false_iff_ne.mpr e,cond_false,lG,jR]
def setFF (f:Str):Fn:=λds=>match ds with
 |[v,.nd (.obj c ns) xs]=>if ns.length<1000 then(if f∈ns then .ok .non [.gone,.nd (.obj c ns) (xs.set (ns.idxOf f) v)]else .ok .non [.gone,.nd (.obj c (ns++[f])) (xs++[v])])else .no
 |_=>.no
theorem zjW_ {dx:i9}{o o':HO}{a:Hp}(jb:Jn (two p dx o) a h):Dj (two p dx o') a:=λq=>by
 rcases jb.dj q with z |z
 ·left
  rw[z6_]at z ⊢;split at z
  ·cases z
  ·rename_i e;rw[if_neg e];exact z
 ·exact .inr z
theorem ods2 {a b:D}{x y:V}{h1 h2:Hp}(o1:OD K a x F h1)(o2:OD K b y F h2)(j2:Jn h1 h2 h):ODs K [a,b] [x,y] F h:=by
 unfold ODs;refine⟨x,[y],h1,h2,rfl,j2,o1,?_⟩;unfold ODs;exact⟨y,[],h2,λ_=>rQ,rfl,no_r _ λ_=>rfl,o2,zbN_⟩
theorem zlN_ {x o:V}{n:Str}{v0:D}{c':Str}{ns:List Str}{ys:List D}{QQ:Hp->Prop}(h0:CtX K (setFF n) [v0,.nd (.obj c' ns) ys] [x,o] H (λv H'=>v=.non->QQ H') E):
  ∃a,o=.ref a/\∃dx fs,H a=rP (.ins (gA K c') dx fs)/\fs.length<1000/\QQ (upd H a (.ins (gA K c') dx (putF n x fs))):=by
 obtain⟨F,h,hs,dj,sh,os,fin⟩:=h0;have nt:=zd5_ os;unfold setFF at fin;dsimp only at fin
 ·split at fin
  ·rename_i hl
   obtain⟨h1,h2,h3,a,ja,jb,ov,orr,oi⟩:=recvV os;obtain⟨p,us,c0,hcc,rfl,cl,jc,oc⟩:=ziR_ orr;obtain⟨dx,cC,e0,el⟩:=cl;subst e0;unfold ODs at oi;have ea:a=h2:=by rw[zck_ jb];funext q;unfold un;cases z:h2 q with |none=>exact oi.2 q |some o=>rfl
   subst ea;obtain⟨m,jm,jh⟩:=zp_ jc (zai_ ja);have hp:H p=rP (.ins (gA K c') dx (ns.zip us)):=sh _ _ (jh.l _ _ zjJ_);have d1:Dj h1 hcc:=λq=>(jm.dj q).symm
   refine⟨p,rfl,dx,ns.zip us,hp,by rw[lX,el,mB,<- el];exact hl,?_⟩
   split at fin
   ·rename_i hn
    have hj:ns.idxOf n<ys.length:=by rw[ODs.len oc,<- el];exact mM.mpr hn
    obtain⟨u,k1,k2,eu,jk,ow,g⟩:=ODs.focus oc (jf hj);have d2:Dj h1 k2:=λq=>by rcases d1 q with z |z;exact .inl z;exact .inr (jk.r.free z)
    have on:=g v0 F x h1 (un h1 k2) (Same.refl _) ov (zad_ d2);have sm:Same (un h1 k2) m:=λq o e=>by
     unfold un at e;cases z:h1 q with
     |some w=>rw[z]at e;cases e;exact jm.r _ _ z|none=>rw[z]at e;exact jm.l _ _ (jk.r _ _ e)
    have dp:Dj (two p dx (.ins (gA K c') dx (ns.zip (us.set (ns.idxOf n) x)))) (un h1 k2):=λq=>by
     rcases zjW_ (o':=.ins (gA K c') dx (ns.zip (us.set (ns.idxOf n) x))) jh q with z |z
     ·exact .inl z
     ·exact .inr (sm.free z)
    rw[zgY_ hn el];refine zeB_ (vs:=[x,.ref p]) (m:=un (two p dx (.ins (gA K c') dx (ns.zip (us.set (ns.idxOf n) x)))) (un h1 k2)) (d:=.non) (v:=.non) (Q:=λv H'=>v=.non->QQ H') (hr:=λ_=>rQ) hs dj sh nt jh (λxs z=>by cases z) (λq o e=>?_) (no_l _ λ_=>rfl) (zcO_ λ_=>rfl) (ods2 (zat_ λ_=>rfl) ?_ (no_l _ λ_=>rfl)) fin rfl
    ·unfold un at e ⊢
     cases z:two p dx (.ins (gA K c') dx (ns.zip (us.set (ns.idxOf n) x))) q with
     |some w=>rw[z]at e;exact e|none=>rw[z]at e;exact sm _ _ e
    ·unfold OD
     exact⟨p,us.set (ns.idxOf n) x,_,un h1 k2,rfl,⟨dx,cC,rfl,by rw[lj];exact el⟩,zad_ dp,on⟩
   ·rename_i hn
    rw[zd9_ x hn el.symm];have on:=ODs.snoc oc ov jm;have dp:=zjW_ (o':=.ins (gA K c') dx ((ns++[n]).zip (us++[x]))) jh;refine zeB_ (vs:=[x,.ref p]) (m:=un (two p dx (.ins (gA K c') dx ((ns++[n]).zip (us++[x])))) m) (d:=.non) (v:=.non) (Q:=λv H'=>v=.non->QQ H') (hr:=λ_=>rQ) hs dj sh nt jh (λxs z=>by cases z) (Same.refl _) (no_l _ λ_=>rfl) (zcO_ λ_=>rfl) (ods2 (zat_ λ_=>rfl) ?_ (no_l _ λ_=>rfl)) fin rfl
    unfold OD;exact⟨p,us++[x],_,m,rfl,⟨dx,cC,rfl,by simp[el]⟩,zad_ dp,on⟩
  ·exact fin.elim
def tSFldA (K:jG)(cs:List Str)(t tv:TE)(f:Str):TS:=λN σ H=>∃c∈cs,mSFld (gA K c) t tv f N σ H
def clsAt (env:Env)(q:Pl):Option Str:=match atE env q with |some (.nd (.obj c _) _)=>rP c |_=>rQ
def setFM (G:Gi)(n:Str)(p:Pt)(x:A)(env:Env):Mr Env Fl:=(evG G env [x,.l p]).bind λgs e=>match gs with
 |[g,.l q]=>(match clsAt e q with |some c=>if c∈G.cs then dropM (callG (setFF n) [g,.l q] e)else .no |none=>.no)|_=>.no
theorem zkR_ (g0:G.Ok K)(n:Str)(pt:Pt)(x:A):EvS K (tSFldA K G.cs (pt.x.den K G E) (x.t.den K G E) n) E ws env (setFM G n pt x env):=by
 intro F0 H0 σ F h H N hL ok fin;unfold setFM at fin;have main:∀c∈G.cs,(∀gs e,evG G env [x,.l pt]=.ok gs e->∃g q,gs=[g,.l q]/\clsAt e q=rP c)->tSFldA K G.cs (pt.x.den K G E) (x.t.den K G E) n N σ H:=λc hc hg=>⟨c,hc,by
  have:=zbm_ (K:=K) (E:=E) (ws:=ws) g0 [x,.l pt] env;rw[show X.dens K G E ([x,.l pt].map A.t)=tCons (x.t.den K G E) (tCons (pt.x.den K G E) tNil)from rfl]at this
  have key:FinG K (evG G env [x,.l pt]) E ws σ F0 H0 H (λvs H2=>match vs with |[y,.ref a]=>∃dx fs,H2 a=rP (.ins (gA K c) dx fs)/\fs.length<1000/\N.nx σ (upd H2 a (.ins (gA K c) dx (putF n y fs)))|_=>False):=by
   cases e:evG G env [x,.l pt]with
   |no=>rw[e]at fin;exact fin|ex c e'=>rw[e]at fin;exact λF h H hL ok=>fin σ F h H hL ok|ok gs e'=>
    rw[e]at fin;obtain⟨g,q,rfl,ecl⟩:=hg gs e' e;dsimp only[Mr.bind]at fin;rw[ecl]at fin;dsimp only at fin;rw[if_pos hc]at fin;intro vs F1 hA hE h1 H1 ao ag j aq _;have fe:FinE K (callG (setFF n) [g,.l q] e') E ws σ F0 H0 (λv H'=>v=.non->N.nx σ H'):=by
     cases ec:callG (setFF n) [g,.l q] e' with
     |no=>rw[ec]at fin;exact fin|ex c e2=>rw[ec]at fin;exact λF h H hL ok=>fin σ F h H hL ok|ok d e2=>rw[ec]at fin;exact λv F hr h2 h H hL od j ok _=>fin σ F h H (Hold.more hL j) ok
    obtain⟨ds,er,cx⟩:=zdM_ ao ag j aq fe;have hlen:=zd4_ ag;obtain⟨y,o,rfl⟩:=len2_ hlen;unfold clsAt at ecl;split at ecl
    ·rename_i c1 ns ys ea
     cases ecl;have ed:∃v0,ds=[v0,.nd (.obj c ns) ys]:=by
      cases g with
      |d v0=>simp[resolve,ea]at er;exact⟨v0,er.symm⟩|l q'=>
       cases eq':atE e' q' with
       |none=>simp[resolve,eq']at er|some v0=>simp[resolve,ea,eq']at er;exact⟨v0,er.symm⟩
     obtain⟨v0,rfl⟩:=ed;obtain⟨a,rfl,r⟩:=zlN_ cx;exact r
    ·cases ecl
  ·-- the same,read as an assignment
   have z:=this F0 H0 σ F h H _ hL ok key;unfold mSFld;unfold tCons tNil at z;have e:(λ(y:V) (H1:Hp)=>(pt.x.den K G E) σ H1 λo H2=>(match([y,o]:List V)with |[y,.ref a]=>∃dx fs,H2 a=rP (.ins (gA K c) dx fs)/\fs.length<1000/\N.nx σ (upd H2 a (.ins (gA K c) dx (putF n y fs)))|_=>False))=λy H1=>(pt.x.den K G E) σ H1 λo H2=>(match o with |.ref a=>∃dx fs,H2 a=rP (.ins (gA K c) dx fs)/\fs.length<1000/\N.nx σ (upd H2 a (.ins (gA K c) dx (putF n y fs)))|_=>False):=by
    funext y H1;congr 1;funext o H2;cases o<;>rfl
   have z2:=z;rw[e]at z2;exact z2⟩
 cases e:evG G env [x,.l pt]with
 |no=>rw[e]at fin;exact fin.elim|ex c e'=>
  cases hcs:G.cs with
  |nil=>exact absurd hcs g0.cs|cons c0 cs=>
   have:=main c0 (by rw[hcs];exact je ..) λgs e2 z=>by rw[e]at z;cases z
   rw[hcs]at this;exact this
 |ok gs e'=>
  rw[e]at fin;dsimp only[Mr.bind]at fin;split at fin
  ·rename_i g q
   cases ec:clsAt e' q with
   |none=>rw[ec]at fin;exact fin.elim|some c=>
    rw[ec]at fin;dsimp only at fin;by_cases hc:c∈G.cs
    ·exact main c hc λgs e2 z=>by rw[e]at z;cases z;exact⟨g,q,rfl,ec⟩
    ·rw[if_neg hc]at fin;exact fin.elim
  ·exact fin.elim
def setIM (G:Gi)(p:Pt)(k x:X)(env:Env):Mr Env Fl:=dropM ((evG G env [.x x,.l p,.x k]).bind (callG setIF))
theorem zjG_ (g0:G.Ok K)(pt:Pt)(k x:X):EvS K (tAsg (x.den K G E) (gSub (pt.x.den K G E) (k.den K G E) rSetA)) E ws env (setIM G pt k x env):=by
 intro F0 H0 σ F h H N hL ok fin;unfold setIM at fin;have:=zbm_ (K:=K) (E:=E) (ws:=ws) g0 [.x x,.l pt,.x k] env;rw[show X.dens K G E ([A.x x,.l pt,.x k].map A.t)=tCons (x.den K G E) (tCons (pt.x.den K G E) (tCons (k.den K G E) tNil))from rfl]at this
 refine this F0 H0 σ F h H (λvs H2=>match vs with |[y,o,i]=>rSetA o i y H2 (N.nx σ)|_=>False) hL ok ?_
 cases e:evG G env [.x x,.l pt,.x k]with
 |no=>rw[e]at fin;exact fin|ex c e'=>rw[e]at fin;exact λF h H hL ok=>fin σ F h H hL ok|ok gs e'=>
  rw[e]at fin;intro vs F1 hA hE h1 H1 ao ag j aq _;have fin:FinS K (dropM (callG setIF gs e')) E ws F0 H0 N:=fin;have fe:FinE K (callG setIF gs e') E ws σ F0 H0 (λv H'=>v=.non->N.nx σ H'):=by
   cases ec:callG setIF gs e' with
   |no=>rw[ec]at fin;exact fin|ex c e2=>rw[ec]at fin;exact λF h H hL ok=>fin σ F h H hL ok|ok d e2=>rw[ec]at fin;exact λv F hr h2 h H hL od j ok _=>fin σ F h H (Hold.more hL j) ok
  have cx:=zbf_ ao ag j aq fe;have hlen:=zd4_ ag;have g_:gs.length=3:=by
   have:∀{as:List A}{env e:Env}{gs:List Ag},evG G env as=.ok gs e->gs.length=as.length:=λ{as}=>by
    induction as with
    |nil=>intro env e gs h;unfold evG at h;cases h;rfl
    |cons a as ih=>
     intro env e gs h;have k:∀{r:Mr Env D},(r.bind λd e=>(evG G e as).bind λgs e'=>.ok (.d d::gs) e')=.ok gs e->gs.length=(a::as).length:=λ{r} h=>by
      cases r with
      |no=>cases h|ex c t=>cases h|ok d t=>
       dsimp only[Mr.bind]at h;cases e2:evG G t as with
       |no=>rw[e2]at h;cases h|ex c t=>rw[e2]at h;cases h|ok gs' t'=>rw[e2]at h;cases h;rw[jg,jg,ih e2]
     cases a with
     |x y=>unfold evG at h;exact k h|m y=>unfold evG at h;exact k h|l p=>
      unfold evG at h;split at h
      ·cases e2:evG G env as with
       |no=>rw[e2]at h;cases h|ex c t=>rw[e2]at h;cases h|ok gs' t'=>rw[e2]at h;cases h;rw[jg,jg,ih e2]
      ·cases h
      ·cases h
   exact this e
  rw[g_]at hlen;obtain⟨y,o,i,rfl⟩:=len3_ hlen;exact zmz_ cx
theorem za6_ (g0:G.Ok K){pt:Pt}(hL:Hold (LofW K ws env) σ F h)(ok:Okk F0 H0 F h H)(e:pt.ev G env=.ok q)(hc:atE env q=rP c)
  (hk:∀u F1 H1 k1 v,Okk F0 H0 F1 h H1->Hold (LofW K ws env) σ F1 h->Same k1 h->OD K c u F1 k1->σ[q.1]?=rP (rP v)->vAt H1 v q.2=rP u->Q u H1):pt.x.den K G E σ H Q:=by
 refine Pt.sound g0 pt E env σ (un F h) H _ (zaL_ (hL.froz ok.2.1)) ok.thaw ?_;rw[e];intro F1 H1 v u c' x1 hv hu _ _;obtain⟨o1,hsF,ht⟩:=ok.back x1;rcases zdF_ env q.1 with⟨d,hd⟩|hd
 ·rw[zV_ hd]at hc
  obtain⟨v',u',k1,k2,ev,vp,j,oc,_⟩:=zaA_ hL hd hc;rw[hv]at ev;cases ev;cases j8 ((zbh_ x1.2.2.1 (vp H ok.1.2.1 ok.2.2.1)).symm.trans hu);exact hk u _ H1 k1 v o1 (hL.mono hsF) j.l (oc.mono hsF) hv hu
 ·unfold atE at hc;split at hc
  ·rename_i d z;exact absurd z (hd d)
  ·cases hc
theorem pt_ex (g0:G.Ok K){pt:Pt}{x:Xc}(hL:Hold (LofW K ws env) σ F h)(ok:Okk F0 H0 F h H)(e:pt.ev G env=.ex x)(fin:∀F h H,Hold (LofW K ws env) σ F h->Okk F0 H0 F h H->Tell K E x H0 F H):pt.x.den K G E σ H Q:=by
 refine Pt.sound g0 pt E env σ (un F h) H _ (zaL_ (hL.froz ok.2.1)) ok.thaw ?_;rw[e];exact λF' H' y=>(fin _ _ _ (hL.mono (ok.back y).2.1) (ok.back y).1).back ok y
def lentG (G:Gi)(env:Env)(p:Pt)(as:List A)(ok:D->Bool)(k:Pl->List Ag->Env->Mr Env D):Mr Env D:=match p.ev G env with
 |.ok q=>(match atE env q with |some c=>if ok c then(evG G env as).bind (k q)else .no |none=>.no)|.ex c=>.ex c env|.no=>.no
theorem ze9_ {gs:List Ag}{v:V}{hA:Hp}(ev:σ[q.1]?=rP (rP v))(vp:vAt H1 v q.2=rP u)(sm:Same H1 H2)(ag:AgR K σ F2 H2 gs vs hA):AgR K σ F2 H2 (.l q::gs) (u::vs) hA:=⟨u,v,vs,rfl,ev,zbh_ sm vp,ag⟩
def isK (T:String)(c:D):Bool:=match c with |.nd .lst _=>T=="list" |.nd (.dct _) _=>T=="dict" |_=>rS
theorem zn2_ {T:String}(h0:isK T c=rR)(oc:OD K c u F k)(sF:Same F H)(sk:Same k H):tyV K T u H:=by
 unfold isK at h0;split at h0
 ·obtain⟨p,us,c0,hc,rfl,cl,jc,_⟩:=ziR_ oc
  have e0:c0=one p (.lst us):=cl;subst e0;have:T="list":=by simpa using h0
  exact .inl ⟨this,us,.of (sk _ _ (jc.l _ _ zD_))⟩
 ·obtain⟨p,us,c0,hc,rfl,cl,jc,_⟩:=ziR_ oc
  obtain⟨e0,_⟩:=cl;subst e0;have:T="dict":=by simpa using h0
  exact .inr (.inr (.inl ⟨this,.inl ⟨_,sk _ _ (jc.l _ _ zD_)⟩⟩))
 ·cases h0
theorem ee_bm (g0:G.Ok K){T:String}{r:V->List V->Hp->VK->Prop}(b:BmOk K r f)(pt:Pt)(as:List A):EvE K (tBM K T r (pt.x.den K G E) (X.dens K G E (as.map A.t))) E ws env (lentG G env pt as (isK T) λq gs e=>callG f (.l q::gs) e):=by
 intro F0 H0 σ F h H Q hL ok fin;unfold lentG at fin;cases e:pt.ev G env with
 |no=>rw[e]at fin;exact fin.elim|ex c=>rw[e]at fin;exact pt_ex g0 hL ok e fin|ok q=>
  rw[e]at fin;dsimp only at fin;cases hc:atE env q with
  |none=>rw[hc]at fin;exact fin.elim|some c=>
   rw[hc]at fin;dsimp only at fin;by_cases hk:isK T c=rR
   rotate_left
   ·rw[if_neg hk]at fin;exact fin.elim
   rw[if_pos hk]at fin;refine za6_ g0 hL ok e hc λu F1 H1 k1 v o1 ao sk oc ev vp=>⟨zn2_ hk oc o1.1.2.1 (sk.trans o1.2.2.1),?_⟩
   refine zbm_ (K:=K) (E:=E) (ws:=ws) g0 as env F0 H0 σ F1 h H1 _ ao o1 ?_;cases eg:evG G env as with
   |no=>rw[eg]at fin;exact fin|ex x e'=>rw[eg]at fin;exact fin|ok gs e'=>
    rw[eg]at fin;intro vs F2 hA hE h2 H2 aT ag j ak sm;exact b u vs H2 Q E (zbf_ aT (ze9_ ev vp sm ag) j ak fin)
theorem zoG_ (g0:G.Ok K){T:String}{r:V->List V->Hp->VK->Prop}(b:BmOk K r f)(pt:Pt):EvE K (tBM0 K T r (pt.x.den K G E)) E ws env (lentG G env pt [] (isK T) λq gs e=>callG f (.l q::gs) e):=by
 intro F0 H0 σ F h H Q hL ok fin;have:=ee_bm (ws:=ws) (env:=env) (E:=E) g0 (T:=T) b pt [] F0 H0 σ F h H Q hL ok fin;exact this
def isObj (fs:List (Str×Fn))(m:Str)(c:D):Bool:=match c with |.nd (.obj c ns) _=>(fs.find? (λq=>q.1 == c)).isSome && !decide (m∈ns)|_=>rS
def fnAt (fs:List (Str×Fn))(env:Env)(q:Pl):Fn:=match atE env q with
 |some (.nd (.obj c _) _)=>(match fs.find? (λg=>g.1 == c)with |some g=>g.2 |none=>λ_=>.no)
 |_=>λ_=>.no
def methG (G:Gi)(fs:List (Str×Fn))(m:Str)(p:Pt)(as:List A)(env:Env):Mr Env D:=if fs.isEmpty then .no else lentG G env p as (isObj fs m) λq gs e=>callG (fnAt fs env q) (.l q::gs) e
theorem zk9_ (g0:G.Ok K)(fs:List (Str×Fn))(m:Str)(pt:Pt)(as:List A):EvE K (tMethA K fs m E (pt.x.den K G E) (X.dens K G E (as.map A.t))) E ws env (methG G fs m pt as env):=by
 intro F0 H0 σ F h H Q hL ok fin;unfold methG at fin;split at fin
 ·exact fin.elim
 rename_i hV
 unfold lentG at fin;cases e:pt.ev G env with
 |no=>rw[e]at fin;exact fin.elim|ex c=>
  rw[e]at fin;cases fs with
  |nil=>exact absurd rfl hV|cons g fs=>exact⟨g,je ..,pt_ex g0 hL ok e fin⟩
 |ok q=>
  rw[e]at fin;dsimp only at fin;cases hc:atE env q with
  |none=>rw[hc]at fin;exact fin.elim|some c=>
   rw[hc]at fin;dsimp only at fin;by_cases hk:isObj fs m c=rR
   rotate_left
   ·rw[if_neg hk]at fin;exact fin.elim
   rw[if_pos hk]at fin;unfold isObj at hk;split at hk
   ·rename_i cn ns ys
    obtain⟨fE,hk2⟩:=jP.mp hk;obtain⟨g,eg⟩:=j6.mp fE;have h1:g.1=cn:=by simpa using oW eg
    have hm:m∉ns:=by simpa using hk2
    have ef:fnAt fs env q=g.2:=by unfold fnAt;rw[hc];dsimp only;rw[eg]
    rw[ef]at fin;refine⟨g,mE eg,?_⟩;refine za6_ g0 hL ok e hc λu F1 H1 k1 v o1 ao sk oc ev vp=>?_
    obtain⟨p,us,c0,hcc,rfl,cl,jc,_⟩:=ziR_ oc;obtain⟨dx,_,e0,el⟩:=cl;subst e0;refine⟨p,dx,_,rfl,by rw[h1];exact o1.2.2.1 _ _ (sk _ _ (jc.l _ _ zjJ_)),zbA_ hm,?_⟩
    refine zbm_ (K:=K) (E:=E) (ws:=ws) g0 as env F0 H0 σ F1 h H1 _ ao o1 ?_;cases egs:evG G env as with
    |no=>rw[egs]at fin;exact fin|ex x e'=>rw[egs]at fin;exact fin|ok gs e'=>
     rw[egs]at fin;intro vs F2 hA hE h2 H2 aT ag j ak sm;rw[ko];exact zbf_ aT (ze9_ ev vp sm ag) j ak fin
   ·cases hk
theorem zhz_:∀{d:D}{k:Key},keyD d=rP k->d.cold=rR:=λ{d}=>by
 cases d with
 |nd=>intro k e;cases e
 |_=>intro k e;rfl
theorem zdh_:∀{ks:List Key}{us:List V}{k:Key},ks.Nodup->ks.length=us.length->kIx ks k<ks.length->dropK (ks.zip us) k=(ks.eraseIdx (kIx ks k)).zip (us.eraseIdx (kIx ks k))
 |[],_,_,_,_,h=>by cases h
 |_::_,[],_,_,h,_=>by cases h
 |k0::ks,u::us,k,nd,hl,hk=>by
  rw[mw]at nd;rw[kIx]at hk ⊢;unfold dropK;rw[jR,nh];by_cases e:k0=k
  ·subst e
   rw[if_pos rfl,oA,oA,if_neg (by simp)]
   exact pz.mpr λq hq=>decide_eq_true λz=>nd.1 (z ▸ (lL (a:=q.1) (b:=q.2) hq).1)
  ·rw[if_neg e]at hk ⊢
   rw[if_pos (decide_eq_true e),kE,kE,jR];exact congrArg _ (zdh_ nd.2 (nE hl) (Nat.lt_of_succ_lt_succ hk))
def popKF:Fn:=λds=>match ds with
 |[.nd (.dct ks) ys,key]=>(match keyD key with
  |some k'=>if kIx ks k'<ks.length then .ok .gone [.nd (.dct (ks.eraseIdx (kIx ks k'))) (ys.eraseIdx (kIx ks k')),key]else .no
  |none=>.no)
 |_=>.no
theorem zj8_:BmOk K rDPop popKF:=by
 rintro x xs H Q E ⟨F,h,ds,hs,dj,sh,os,fin⟩;have nt:=zd5_ os;unfold popKF at fin;split at fin
 rotate_left
 ·exact fin.elim
 rename_i ks ys key
 cases ek:keyD key with
 |none=>rw[ek]at fin;exact fin.elim|some k'=>
  rw[ek]at fin;dsimp only at fin;split at fin
  rotate_left
  ·exact fin.elim
  rename_i hk
  obtain⟨p,us,h0,hc,ha,a,rfl,cl,jb,ja,oc,oa⟩:=recv1 os;obtain⟨e0,el,nd⟩:=cl;subst e0;obtain⟨y,rfl⟩:=zho_ oa;have o2:=zeA_ oa;obtain⟨n2,r2⟩:=OD.cold (zhz_ ek) o2;have kv:=ziZ_ ek r2;obtain⟨w,k1,k2,ew,jk,ow,oe⟩:=ODs.erase oc (jf (show kIx ks k'<ys.length by rw[ODs.len oc,<- el];exact hk))
  have ea:a=hc:=by rw[zck_ ja];funext q;unfold un;cases z:hc q with |none=>exact n2 q |some o=>rfl
  subst ea;refine⟨p,ks.zip us,k',w,rfl,by rw[kv.2],sh _ _ (jb.l _ _ zD_),zeh_ ew hk,?_⟩
  rw[zdh_ nd el hk]
  generalize ed:((ks.eraseIdx (kIx ks k')).zip (us.eraseIdx (kIx ks k')))=kv'
  have hp:h p≠rQ:=by rw[jb.l _ _ zD_];exact sN _
  have aJ:=zcY_ (h1':=h) (hr:=h) (h':=h) (zaX_ hs dj sh nt) hp (o':=.dK kv') (λxs z=>by cases z) (un (one p (.dK kv')) a) λq=>by
   unfold un;rw[ze_];by_cases e:q=p
   ·rw[if_pos e,if_pos e]
   ·rw[if_neg e,if_neg e]
    rcases jb q with⟨_,b⟩|⟨a',b⟩
    ·exact b.symm
    ·rw[a',b,ze_,if_neg e]
  have iJ:Dj (one p (.dK kv')) k2:=λq=>by rcases zfG_ (o':=.dK kv') jb q with z |z;exact .inl z;exact .inr (jk.r.free z)
  have sm:Same (un (one p (.dK kv')) k2) (un (one p (.dK kv')) a):=λq o z=>by
   unfold un at z ⊢;cases y:one p (.dK kv') q with
   |some w=>rw[y]at z;exact z|none=>rw[y]at z;exact jk.r _ _ z
  have ak:=zbr_ aJ sm;rw[funext n2]at o2;refine fin w F _ _ (λ_=>rQ) _ ak (no_l _ λ_=>rfl) (zat_ λ_=>rfl) ?_
  unfold ODs;refine⟨.ref p,[y],_,λ_=>rQ,rfl,no_r _ λ_=>rfl,?_,?_⟩
  ·unfold OD
   exact⟨p,us.eraseIdx (kIx ks k'),one p (.dK kv'),k2,rfl,⟨by rw[ed],by rw[nu,nu,el],nd.sublist (List.eraseIdx_sublist ..)⟩,zad_ iJ,oe⟩
  ·unfold ODs
   exact⟨y,[],λ_=>rQ,λ_=>rQ,rfl,no_r _ λ_=>rfl,o2,zbN_⟩
end
inductive Bm where
 |append |popK
noncomputable def Bm.ty:Bm->String
 |.popK => "dict" |_ => "list"
def Bm.r:Bm->V->List V->Hp->VK->Prop
 |.append=>rAppend |.popK=>rDPop
def Bm.f:Bm->Fn
 |.append=>appendF |.popK=>popKF
theorem bm_ok {K:jG}(o:Bm):BmOk K o.r o.f:=by
 cases o with
 |append=>exact zfE_|popK=>exact zj8_
section
variable {K:j3}{E:XK}{F F0 H0 h H:Hp}{env:Env}{ws:Ws}{σ:L2.St}{i:Nat}
theorem zK_ {o:Option D}:LofW K ws (o::env)=slotW K (ws 0) o::LofW K (λi=>ws (i+1)) env:=by
 show List.mapIdx _ _=_
 rw[List.mapIdx_cons]
theorem zaB_:∀{env:Env}{ws:Ws}{σ:L2.St}{h:Hp}(i:Nat),Hold (LofW K ws env) σ F h->Hold (LofW K ws (env.set i rQ)) (σ.set i rQ) F h
 |[],_,σ,_,_,q=>by cases σ with |nil=>exact q |cons=>exact q.elim
 |o::env,ws,[],_,i,q=>by rw[zK_]at q;exact q.elim
 |o::env,ws,a::σ,h,0,q=>by
  rw[zK_]at q;rw[lV,lV,zK_];obtain⟨h1,h2,j,p,r⟩:=q;exact⟨h1,h2,j,trivial,r⟩
 |o::env,ws,a::σ,h,i+1,q=>by
  rw[zK_]at q;rw[lG,lG,zK_];obtain⟨h1,h2,j,p,r⟩:=q;exact⟨h1,h2,j,p,zaB_ i r⟩
def goneM (i:Nat)(r:Mr Env Fl):Mr Env Fl:=match r with |.ok o e=>.ok o (e.set i rQ)|_=>.no
theorem zc9_ {r:Mr Env Fl}{N:Ends}(fin:FinS K (goneM i r) E ws F0 H0 N):FinS K r E0 ws F0 H0 (gone i N):=by
 cases r with
 |no=>exact fin|ex c e=>exact fin.elim|ok o e=>
  cases o with
  |nx=>exact λσ F h H q ok=>fin _ F h H (zaB_ i q) ok|ct=>exact λσ F h H q ok=>fin _ F h H (zaB_ i q) ok|bk=>exact λσ F h H q ok=>fin _ F h H (zaB_ i q) ok|rt d=>exact λv σ F hr h2 h H q od j ok=>fin v _ F hr h2 h H (zaB_ i q) od j ok
def tryCM (pn:Nat->Bool)(tb:List (String×Bool))(i:Nat)(env:Env)(f:Fn)(ra:Mo (List D))(hr:String->Mr Env Fl):Mr Env Fl:=match ra with
 |.ok ds=>(match f (ds.map .vw)with
  |.ok _ _=>.ok .nx env|.ex (.pl c) _=>if tb.lookup c=rP rR/\pn i=rS/\i<env.length then goneM i (hr c)else .no
  |_=>.no)
 |_=>.no
theorem zjc_ {E1:XK}{pn:Nat->Bool}{f:Fn}{ta:TA}{ra:Mo (List D)}{cl:String}{tb:List (String×Bool)}{th:TS}{hr:String->Mr Env Fl}(hp:∀i,pn i=rS->ws i=rQ)(hT:CatT K cl tb)(ha:EvAs K ta E1 env ra)(hh:∀c,EvS K th E0 ws (env.set i (rP (.fz (.nd (.exc c) [])))) (hr c)):EvS K (tTryH (tDropX (CtG K f) ta) (tHAs K (gA K cl) i th tH0)) E ws env (tryCM pn tb i env f ra hr):=by
 intro F0 H0 σ F h H N hL ok fin;refine zcm_ ha σ (un F h) H _ (zaL_ (hL.froz ok.2.1)) ok.thaw ?_;cases ra with
 |no=>exact fin|ex c=>exact fin.elim|ok ds=>
  intro F1 H1 x1 vs a9;rw[ko];refine zbM_ x1.2.1 a9 ?_;unfold tryCM at fin;dsimp only at fin;unfold Fn.val;cases e:f (ds.map D.vw)with
  |no=>rw[e]at fin;exact fin|ok d ds'=>
   rw[e]at fin;intro F2 H2 x2 v k _ _ _ _;obtain⟨o,hsF,ht⟩:=ok.back (x1.trans x2);exact fin σ _ h H2 (hL.mono hsF) o
  |ex x ds'=>
   rw[e]at fin;cases x with
   |«at» c as=>exact fin.elim|pl c=>
    dsimp only at fin;split at fin
    rotate_left
    ·exact fin.elim
    rename_i z
    intro F2 H2 x2;obtain⟨o,hsF,ht⟩:=ok.back (x1.trans x2);refine⟨_,rfl,?_⟩;have zk:catK K (gA K c) (gA K cl)=rR:=hT _ (zaG_ z.1);unfold tHAs;rw[if_pos zk];intro p hq;have y:=Ext.new (o:=XO p (gA K c) rQ) o.1.2.1 hq;refine hh c F0 H0 _ _ h _ (gone i N) (zbF_ (hp i z.2.1) z.2.2 (hL.mono (hsF.trans y.1)) (v:=.ref p) (hr:=λ_=>rQ) ?_ (no_l _ λ_=>rfl)) (o.cold y) (zc9_ fin)
    unfold OD;refine⟨λ_=>rfl,?_⟩
    unfold DR DR;exact⟨p,[],rfl,⟨rfl,rQ,zj_⟩,by unfold DRs;rfl⟩
end
def landM (pn:Nat->Bool)(tb:List (String×Bool))(i:Nat)(hr:String->Env->Mr Env Fl)(r:Mr Env D):Mr Env Fl:=match r with
 |.ok _ e=>.ok .nx e|.ex (.pl c) e=>if tb.lookup c=rP rR/\pn i=rS/\i<e.length then goneM i (hr c e)else .no
 |_=>.no
def tryMM (G:Gi)(pn:Nat->Bool)(tb:List (String×Bool))(i:Nat)(env:Env)(c:Str)(f:Fn)(m:Str)(p:Pt)(as:List A)(hr:String->Env->Mr Env Fl):Mr Env Fl:=match p.ev G env with
 |.ok q=>(match atE env q with
  | some d=>if isObj [(c,f)] m d=rR then(match evG G env as with
    |.ok gs e=>landM pn tb i hr (callG f (.l q::gs) e)|_=>.no)else .no
  |none=>.no)
 |_=>.no
theorem zhO_ {K:jG}{E:XK}{F0 H0:Hp}{ws:Ws}{σ:L2.St}{i:Nat}{pn:Nat->Bool}{cl:String}{tb:List (String×Bool)}{th:TS}{hr:String->Env->Mr Env Fl}{r:Mr Env D}{N:Ends}(hp:∀i,pn i=rS->ws i=rQ)(hT:CatT K cl tb)
  (hh:∀c e,EvS K th E0 ws (e.set i (rP (.fz (.nd (.exc c) [])))) (hr c e)) (fin:FinS K (landM pn tb i hr r) E ws F0 H0 N):
  FinE K r (λc d H'=>∃C,c=.ref C/\tHAs K (gA K cl) i th tH0 C d N σ H') ws σ F0 H0 λ_ H2=>N.nx σ H2:=by
 cases r with
 |no=>exact fin|ok d e=>exact λv F iT h2 h H hL od j ok=>fin σ F h H (Hold.more hL j) ok|ex x e=>
  cases x with
  |«at» c as=>exact fin.elim|pl c=>
   unfold landM at fin;dsimp only at fin;split at fin
   rotate_left
   ·exact fin.elim
   rename_i z
   intro F h H hL ok;refine⟨_,rfl,?_⟩;have zk:catK K (gA K c) (gA K cl)=rR:=hT _ (zaG_ z.1);unfold tHAs;rw[if_pos zk];intro p hq;have y:=Ext.new (o:=XO p (gA K c) rQ) ok.1.2.1 hq;refine hh c e F0 H0 _ _ h _ (gone i N) (zbF_ (hp i z.2.1) z.2.2 (hL.mono y.1) (v:=.ref p) (hr:=λ_=>rQ) ?_ (no_l _ λ_=>rfl)) (ok.cold y) (zc9_ fin)
   unfold OD;refine⟨λ_=>rfl,?_⟩
   unfold DR DR;exact⟨p,[],rfl,⟨rfl,rQ,zj_⟩,by unfold DRs;rfl⟩
theorem zkG_ {K:jG}{E:XK}{env:Env}{ws:Ws}{i:Nat}{G:Gi}{pn:Nat->Bool}{f:Fn}{c m:Str}{pt:Pt}{as:List A}{cl:String}{tb:List (String×Bool)}{th:TS}{hr:String->Env->Mr Env Fl}(g0:G.Ok K)(hp:∀i,pn i=rS->ws i=rQ)(hT:CatT K cl tb)
  (hh:∀c e,EvS K th E0 ws (e.set i (rP (.fz (.nd (.exc c) [])))) (hr c e)):EvS K (tTryH (tDropMX (gA K c) m (CtG K f) (pt.x.den K G E0) (X.dens K G E0 (as.map A.t))) (tHAs K (gA K cl) i th tH0)) E ws env (tryMM G pn tb i env c f m pt as hr):=by
 intro F0 H0 σ F h H N hL ok fin;unfold tryMM at fin;cases e:pt.ev G env with
 |no=>rw[e]at fin;exact fin.elim|ex c=>rw[e]at fin;exact fin.elim|ok q=>
  rw[e]at fin;dsimp only at fin;cases hc:atE env q with
  |none=>rw[hc]at fin;exact fin.elim|some d=>
   rw[hc]at fin;dsimp only at fin;split at fin
   rotate_left
   ·exact fin.elim
   rename_i hk
   unfold isObj at hk;split at hk
   rotate_left
   ·cases hk
   rename_i cn ns ys
   obtain⟨fE,hk2⟩:=jP.mp hk;obtain⟨g,eg⟩:=j6.mp fE;have h1:g.1=cn:=by simpa using oW eg
   have hg:g=(c,f):=by simpa using mE eg
   have hm:m∉ns:=by simpa using hk2
   subst hg;have h1:c=cn:=h1;refine(show pt.x.den K G E0 σ H _ from za6_ g0 hL ok e hc λu F1 H1 k1 v o1 ao sk oc ev vp=>?_)
   obtain⟨p,us,c0,hcc,rfl,cl',jc,_⟩:=ziR_ oc;obtain⟨dx,_,e0,el⟩:=cl';subst e0;refine⟨p,dx,_,rfl,by rw[h1];exact o1.2.2.1 _ _ (sk _ _ (jc.l _ _ zjJ_)),zbA_ hm,?_⟩
   refine zbm_ (K:=K) (E:=E0) (ws:=ws) g0 as env F0 H0 σ F1 h H1 _ ao o1 ?_;cases egs:evG G env as with
   |no=>rw[egs]at fin;exact fin|ex x e'=>rw[egs]at fin;exact fin.elim|ok gs e'=>
    rw[egs]at fin;intro vs F2 hA hE h2 H2 aT ag j ak sm;rw[ko];exact zbf_ aT (ze9_ ev vp sm ag) j ak (zhO_ hp hT hh fin)
def hDen (K:jG)(G:Gi):List (Nat×X)->TS
 |[]=>tNext|q::r=>tSeq (tAsg (q.2.den K G E0) (gName q.1)) (hDen K G r)
def hRun (G:Gi)(pn:Nat->Bool):List (Nat×X)->Env->Mr Env Fl
 |[],e=>.ok .nx e|q::r,e=>seqM (asgM pn q.1 (stX G e q.2)) (hRun G pn r)
theorem zem_ {K:jG}{G:Gi}{ws:Ws}{pn:Nat->Bool}(g0:G.Ok K)(hp:∀i,pn i=rS->ws i=rQ):∀(l:List (Nat×X)) (env:Env),EvS K (hDen K G l) E0 ws env (hRun G pn l env)
 |[],env=>zdR_|q::r,env=>zhG_ (zkh_ hp (ee_x g0 q.2)) λe=>zem_ g0 hp r e
inductive Ap where
 |call (f:Fn) (x:Str) (as:List X)|sm (o:Sm) (as:List X)
def Ap.x:Ap->X->X
 |.call f x as,a=>.call f x (a::as)|.sm o as,a=>.sm o a as
def Ap.t (K:jG)(G:Gi)(E:XK):Ap->TE->TE
 |.call f _ as,t=>tCall (CtG K f) [] E (tCons t (X.dens K G E as))|.sm o as,t=>tBM K "str" (o.r K) t (X.dens K G E as)
theorem Ap.den {K:jG}{G:Gi}{E:XK}(c:Ap)(d:D):(c.x (.k d)).den K G E=c.t K G E (tC (d.flat?.getD .non)):=by
 cases c with
 |call f x as=>unfold Ap.x Ap.t;rw[X.den,X.dens,X.den]|sm o as=>unfold Ap.x Ap.t;rw[X.den,X.den]
inductive Y where
 |pu (x:X)|mv (i:Nat)
 |call (f:Fn) (x:Str) (as:List A)
 |meth (ms:List (Str×Fn)) (p:Pt) (m:Str) (as:List A)
 |bm (o:Bm) (p:Pt) (as:List A)
 |bin (o:Bo) (y z:Y)
 |ap (a:Ap) (y:Y)
 |tk (d:D) (y:Y)
 |not (y:Y)
 |or (y z:Y)|and (y z:Y)
inductive S where
 |asg (i:Nat) (y:Y)|asg5 (is:List Nat) (x:X)
 |setF (p:Pt) (n:Str) (x:X)|setI (p:Pt) (k x:X)
 |ex (y:Y)|ret (y:Y)|retN
 |if_ (c:X) (a b:List S)|ifY (c:Y) (a b:List S)|ifL (c:X) (a b:List S)
 |for_ (ik:Ik) (src:List X) (tg:Tg) (b:List S)
 |raise (c:String) (as:List X)
 |tryC (f:Fn) (x:Str) (as:List X) (cl:String) (tb:List (String×Bool)) (i:Nat) (hs:List (Nat×X))
 |tryM (c:Str) (f:Fn) (p:Pt) (m:Str) (as:List A) (cl:String) (tb:List (String×Bool)) (i:Nat) (hs:List (Nat×X))
 |pass |never
 |try0 (b aZ:List S)
 |view (is:List Nat) (s:S)
section
variable (K:j3)(G:Gi)
def Y.den (E:XK):Y->TE
 |.pu x=>x.den K G E|.mv i=>mVar i|.call f _ as=>tCall (CtG K f) [] E (X.dens K G E (as.map A.t))|.meth ms p m as=>tMethA K ms m E (p.x.den K G E) (X.dens K G E (as.map A.t))|.bm o p as=>(match as with |[]=>tBM0 K o.ty o.r (p.x.den K G E)|_=>tBM K o.ty o.r (p.x.den K G E) (X.dens K G E (as.map A.t)))|.bin o y z=>tOp (o.r K) (y.den E) (z.den E)|.ap a y=>a.t K G E (y.den E)|.tk d y=>tTup (tCons (tC (d.flat?.getD .non)) (tCons (y.den E) tNil))|.not y=>mNotV (y.den E)|.or y z=>mOrV (y.den E) (z.den E)|.and y z=>mAndV (y.den E) (z.den E)
mutual
def S.den (E:XK):S->TS
 |.asg i y=>tAsg (y.den K G E) (gName i)|.asg5 is x=>tAsg (x.den K G E) (gLst5 K (tgS is))|.setF p n x=>tSFldA K G.cs (p.x.den K G E) (x.den K G E) n|.setI p k x=>tAsg (x.den K G E) (gSub (p.x.den K G E) (k.den K G E) rSetA)|.ex y=>tDrop (y.den K G E)|.ret y=>tRet (y.den K G E)|.retN=>tRetN|.if_ c a b=>mIfS (mTest (c.den K G E)) (S.dens E a) (S.dens E b)|.ifY c a b=>mIfS (mTest (c.den K G E)) (S.dens E a) (S.dens E b)|.ifL c a b=>mIfS (mTrL K (c.den K G E)) (S.dens E a) (S.dens E b)|.for_ ik src tg b=>tFor (ik.t K (X.dens K G E src)) (tgT K tg) (S.dens E b)|.raise c as=>tRaise (gA K c) E (X.dens K G E as)|.tryC f _ as cl _ i hs=>tTryH (tDropX (CtG K f) (X.dens K G E0 as)) (tHAs K (gA K cl) i (hDen K G hs) tH0)|.tryM c f p m as cl _ i hs=>tTryH (tDropMX (gA K c) m (CtG K f) (p.x.den K G E0) (X.dens K G E0 (as.map A.t))) (tHAs K (gA K cl) i (hDen K G hs) tH0)|.pass=>tNext|.never=>tNever|.try0 b aZ=>tSeq (S.dens E0 b) (S.dens E aZ)|.view _ s=>s.den E
def S.dens (E:XK):List S->TS
 |[]=>tNext|s::ss=>tSeq (s.den E) (S.dens E ss)
end
end
def trD (d:D):Mo Bool:=match d.un with |.bl b=>.ok b |.nd .lst xs=>.ok (!xs.isEmpty)|_=>.no
theorem zmL_ {K:jG}{E:XK}{env:Env}{t:TE}{r:Mo D}(h:EvX K t E env r):EvT K (mTrL K t) E (Lof K env) (r.bind trD):=by
 intro σ F H Q hL hs q;refine ex_v h σ F H _ hL hs (q.bind.imp λa F1 H1 x1 k1 v1 aM=>?_)
 have ha:=DR.un aM;unfold trD at k1;split at k1
 ·rename_i b e;rw[e]at ha;cases ha.bl;exact k1.ok x1.2.1
 ·rename_i xs e;rw[e]at ha;obtain⟨p,us,rfl,n,r⟩:=ha.nd
  refine⟨us,.of (x1.2.1 _ _ n),?_⟩;rw[show us.isEmpty=xs.isEmpty from by have:=r.len;cases us<;>cases xs<;>first |rfl |cases this]
  exact k1.ok x1.2.1
 ·exact k1.elim
def moTo {α:Type}(m:Mo α)(e:Env):Mr Env α:=match m with |.ok a=>.ok a e |.ex c=>.ex c e |.no=>.no
section
variable (G:Gi)
def mvM (env:Env)(i:Nat):Mr Env D:=match env[i]? with |some (rP d)=>.ok d (env.set i rQ)|_=>.no
def boY (w:Bool)(d:D)(e:Env)(r:Mr Env D):Mr Env D:=match blD d with |.ok b=>if b=w then .ok (.bl w) e else r |_=>.no
def apM (a:Ap)(d:D)(e:Env):Mr Env D:=if d.flat?.isSome=rR then stX G e (a.x (.k d))else .no
def Y.ev:Y->Env->Mr Env D
 |.pu x,env=>stX G env x|.mv i,env=>mvM env i|.call f _ as,env=>(evG G env as).bind (callG f)|.meth ms p m as,env=>methG G ms m p as env|.bm o p as,env=>lentG G env p as (isK o.ty) λq gs e=>callG o.f (.l q::gs) e|.bin o y z,env=>(y.ev env).bind λd e=>(z.ev e).bind λd2 e2=>moTo (o.f d d2) e2|.ap a y,env=>(y.ev env).bind λd e=>apM G a d e|.tk a y,env=>(y.ev env).bind λd e=>moTo (.grd (a.flat?.isSome=rR) (.ok (.nd .tup ([a,d].map .vw)))) e|.not y,env=>(y.ev env).bind λd e=>moTo ((blD d).bind λb=>.ok (.bl (!b))) e|.or y z,env=>(y.ev env).bind λd e=>boY rR d e (z.ev e)|.and y z,env=>(y.ev env).bind λd e=>boY rS d e (z.ev e)
def asg5M (pn:Nat->Bool)(is:List Nat)(r:Mr Env D):Mr Env Fl:=r.bind λd e=>match d.un with
 |.nd .lst [a,b,c,x,y]=>if is.length=5 then(match setG pn e is [a,b,c,x,y]with |some e'=>.ok .nx e' |none=>.no)else .no
 |_=>.no
def vwE (env:Env):Env:=env.map λo=>o.map D.vw
def deadAt (env:Env)(is:List Nat):Bool:=is.all λi=>match env[i]? with |some rQ=>rR |_=>rS
def liveB:Env->Env->Bool
 |[],[]=>rR|o::e,o'::e'=>(!o.isSome ||o'.isSome) && liveB e e'|_,_=>rS
def viewM (is:List Nat)(env:Env)(r:Mr Env Fl):Mr Env Fl:=if deadAt env is=rR then(match r with
 |.ok .nx e=>if liveB env e=rR then .ok .nx env else .no
 |.ok (.rt d) _=>if d.flat?.isSome=rR then .ok (.rt d) env else .no
 |_=>.no)else .no
noncomputable def pnV (is:List Nat)(i:Nat):Bool:=!is.contains i
mutual
def S.run:(Nat->Bool)->S->Env->Mr Env Fl
 |pn,.asg i y,env=>asgM pn i (y.ev G env)|pn,.asg5 is x,env=>asg5M pn is (stX G env x)|pn,.setF p n x,env=>setFM G n p (.x x) env|pn,.setI p k x,env=>setIM G p k x env|pn,.ex y,env=>dropM (y.ev G env)|pn,.ret y,env=>retM (y.ev G env)|pn,.retN,env=>.ok (.rt .non) env|pn,.if_ c a b,env=>ifM env ((c.ev G env).bind blD) (S.runs pn a env) (S.runs pn b env)|pn,.ifY c a b,env=>(c.ev G env).bind λd e=>ifM e (blD d) (S.runs pn a e) (S.runs pn b e)|pn,.ifL c a b,env=>ifM env ((c.ev G env).bind trD) (S.runs pn a env) (S.runs pn b env)|pn,.for_ ik src tg b,env=>forS pn ik tg (evG G env (src.map .x)) (λe=>S.runs pn b e)|pn,.raise c as,env=>raiseM c (evG G env (as.map .x))|pn,.tryC f _ as cl tb i hs,env=>if(cl,tb)∈G.ct then tryCM pn tb i env f (X.evs G env as) (λc=>hRun G pn hs (env.set i (rP (.fz (.nd (.exc c) [])))))else .no
 |pn,.tryM c f p m as cl tb i hs,env=>if(cl,tb)∈G.ct then tryMM G pn tb i env c f m p as (λc e=>hRun G pn hs (e.set i (rP (.fz (.nd (.exc c) [])))))else .no
 |pn,.pass,env=>.ok .nx env|pn,.never,env=>.no|pn,.view is s,env=>viewM is env (S.run (pnV is) s (vwE env))|pn,.try0 b aZ,env=>seqM (noEx (S.runs pn b env)) λe=>S.runs pn aZ e
def S.runs:(Nat->Bool)->List S->Env->Mr Env Fl
 |pn,[],env=>.ok .nx env|pn,s::ss,env=>seqM (S.run pn s env) (λe=>S.runs pn ss e)
end
end
section
variable {K:j3}{E:XK}{F F0 H0 h H:Hp}{env:Env}{t:TE}{ws:Ws}{G:Gi}{i:Nat}{pn:Nat->Bool}{s1 s2:TS}
theorem ee_mv:EvE K (mVar i) E ws env (mvM env i):=by
 intro F0 H0 σ F h H Q hL ok fin;unfold mvM at fin;split at fin
 ·rename_i d hd
  obtain⟨o,k1,k2,e1,j,pp,g⟩:=Hold.atG hL (z4_ hd);obtain⟨v,rfl,hv,od⟩:=zbc_ pp;unfold mVar;rw[e1];refine fin v F k1 k2 h H ?_ od j ok;have:=g (slotW K (ws i) rQ) (rP v) F (λ_=>rQ) k2 (Same.refl _) trivial (no_l _ λ_=>rfl)
  rw[zbO_,zbT_ e1]at this;exact this
 ·exact fin.elim
theorem zeo_ {m:Mo D}{e:Env}{σ:L2.St}{Q:VK}{hE:Hp}(hL:Hold (LofW K ws e) σ F hE)(ok:Okk F0 H0 F hE H)(fin:FinE K (moTo m e) E ws σ F0 H0 Q):After K m E F H (OwnK (owD K) H Q):=by
 cases m with
 |no=>exact fin|ex c=>exact λF' H' x=>Tell.up ok.1.2.2.1 (fin F' hE H' (hL.mono x.1) (ok.cold x))|ok d=>
  intro F' H' x v hn fresh dj s o;have o1:=ok.cold x;have dh:Dj hn hE:=zhk_ ok.2.2.1 fresh;refine fin v F' hn hE (un hn hE) H' (hL.mono x.1) o (zad_ dh) ⟨o1.1,λp=>?_,λp o e=>?_,λp z=>?_,λp xs z=>?_⟩
  ·unfold un
   cases z:hn p with
   |some w=>
    rcases dj p with y |y
    ·exact .inl y
    ·rw[y]at z;cases z
   |none=>exact o1.2.1 p
  ·unfold un at e
   cases z:hn p with
   |some w=>rw[z]at e;cases e;exact s _ _ z|none=>rw[z]at e;exact o1.2.2.1 _ _ e
  ·unfold un at z
   cases y:hn p with
   |some w=>exact ok.1.2.2.1.free (fresh p (by rw[y];exact sN _))|none=>rw[y]at z;exact ok.2.2.2.1 p z
  ·unfold un at z
   cases y:hn p with
   |some w=>rw[y]at z;cases z;exact OD.notup o p xs y|none=>rw[y]at z;exact ok.2.2.2.2 p xs z
theorem zb4_ {d:D}{v:V}{hr hE:Hp}(od:OD K d v F hr)(j:Jn hr hE h)(ok:Okk F0 H0 F h H):DR K d v (un F hr)/\Same F (un F hr)/\Okk F0 H0 (un F hr) hE H:=by
 obtain⟨a,b,c⟩:=zha_ (ds:=[d]) (vs:=[v]) (by unfold ODs;exact⟨v,[],hr,λ_=>rQ,rfl,no_r _ λ_=>rfl,od,zbN_⟩) j ok
 obtain⟨v',e,r⟩:=DRs.one a;cases e;exact⟨r,b,c⟩
theorem znP_ {o:Bo}{r:Mr Env D}{g:Env->Mr Env D}{t2:TE}(h1:EvE K t E ws env r)(h2:∀e,EvE K t2 E ws e (g e)):EvE K (tOp (o.r K) t t2) E ws env (r.bind λd e=>(g e).bind λd2 e2=>moTo (o.f d d2) e2):=by
 intro F0 H0 σ F h H Q hL ok fin;refine h1 F0 H0 σ F h H _ hL ok ?_;cases r with
 |no=>exact fin|ex c e=>exact fin|ok d e=>
  intro v F1 hr hE h' H1 ao od j aq;obtain⟨dr,sF,ak⟩:=zb4_ od j aq;have jn0:Jn (λ_=>rQ) hE hE:=no_l _ λ_=>rfl
  have ob:=zff_ ak jn0;have fX:∀x:Hp,un (λ_=>rQ) x=x:=λx=>rfl
  refine h2 e _ (less H1 hE) σ _ hE H1 _ (ao.mono sF) ob ?_;dsimp only[Mr.bind]at fin;cases e2:g e with
  |no=>rw[e2]at fin;exact fin|ex c e'=>
   rw[e2]at fin;intro F2 h2 H2 aT aV;obtain⟨s,_,ok4⟩:=zal_ ak jn0 aV;rw[fX]at ok4;exact zbg_ ak jn0 (fin F2 h2 H2 aT ok4)
  |ok d2 e'=>
   rw[e2]at fin;intro v2 F2 eC dM dO H2 aT eO j2 aV;obtain⟨s,_,ok4⟩:=zal_ ak jn0 aV;rw[fX]at ok4;obtain⟨iI,sF2,ok5⟩:=zb4_ eO j2 ok4;exact zl0_ o d d2 v v2 _ H2 Q ok5.1.2.1 (dr.mono (s.trans sF2)) iI (zeo_ (aT.mono sF2) ok5 fin)
theorem ee_ap {r:Mr Env D}(g0:G.Ok K)(h1:EvE K t E ws env r)(c:Ap):EvE K (c.t K G E t) E ws env (r.bind λd e=>apM G c d e):=by
 intro F0 H0 σ F h H Q hL ok fin;rw[show c.t K G E t σ H Q=t σ H λv H1=>c.t K G E (tC v) σ H1 Q from by cases c<;>rfl]
 refine h1 F0 H0 σ F h H _ hL ok ?_;cases r with
 |no=>exact fin|ex c e=>exact fin|ok d e=>
  intro v F1 hr hE h' H1 ao od j aq;obtain⟨dr,sF,ak⟩:=zb4_ od j aq;dsimp only[Mr.bind]at fin;unfold apM at fin;split at fin
  ·rename_i hf
   obtain⟨x,e1⟩:=j6.mp hf;have:=ee_x (ws:=ws) (env:=e) (E:=E) g0 (c.x (.k d)) F0 H0 σ _ hE H1 Q (ao.mono sF) ak fin;rw[Ap.den,e1,<- (zbH_ e1 dr).1]at this;exact this
  ·exact fin.elim
theorem ee_tk {r:Mr Env D}(h1:EvE K t E ws env r)(a:D):EvE K (tTup (tCons (tC (a.flat?.getD .non)) (tCons t tNil))) E ws env (r.bind λd e=>moTo (.grd (a.flat?.isSome=rR) (.ok (.nd .tup ([a,d].map .vw)))) e):=by
 intro F0 H0 σ F h H Q hL ok fin;refine h1 F0 H0 σ F h H _ hL ok ?_;cases r with
 |no=>exact fin|ex c e=>exact fin|ok d e=>
  intro v F1 hr hE h' H1 ao od j aq;obtain⟨dr,sF,ak⟩:=zb4_ od j aq;obtain⟨z,k1⟩:=(zeo_ (m:=.grd (a.flat?.isSome=rR) (.ok (.nd .tup ([a,d].map .vw)))) (ao.mono sF) ak fin).grd;obtain⟨x,e1⟩:=j6.mp z;refine⟨zW_ (show 2<=100000 by lia),λp hp=>newTp k1 ak.1.2.1 hp ?_⟩
  unfold DRs DRs DRs;refine⟨_,_,rfl,?_,_,_,rfl,dr,rfl⟩;rw[e1];exact zg5_ (by cases a<;>first |exact e1 |cases e1)
theorem znh_ {r:Mr Env D}(h1:EvE K t E ws env r):EvE K (mNotV t) E ws env (r.bind λd e=>moTo ((blD d).bind λb=>.ok (.bl (!b))) e):=by
 intro F0 H0 σ F h H Q hL ok fin;refine h1 F0 H0 σ F h H _ hL ok ?_;cases r with
 |no=>exact fin|ex c e=>exact fin|ok d e=>
  intro v F1 hr hE h' H1 ao od j aq;obtain⟨dr,sF,ak⟩:=zb4_ od j aq;have k1:=zeo_ (m:=(blD d).bind λb=>.ok (.bl (!b))) (ao.mono sF) ak fin
  have ha:=DR.un dr;unfold blD at k1;split at k1
  ·rename_i b e2;rw[e2]at ha;cases ha.bl;exact gotB k1 ak.1.2.1
  ·exact k1.elim
theorem ee_bo {w:Bool}{r:Mr Env D}{g:Env->Mr Env D}{t2:TE}(h1:EvE K t E ws env r)(h2:∀e,EvE K t2 E ws e (g e)):EvE K (match w with |true=>mOrV t t2 |false=>mAndV t t2) E ws env (r.bind λd e=>boY w d e (g e)):=by
 intro F0 H0 σ F h H Q hL ok fin;have key:t σ H (λx H1=>match x with |.bl c=>br (c == w) (Q (.bl w) H1) (t2 σ H1 Q)|_=>False):=by
  refine h1 F0 H0 σ F h H _ hL ok ?_;cases r with
  |no=>exact fin|ex c e=>exact fin|ok d e=>
   intro v F1 hr hE h' H1 ao od j aq;obtain⟨dr,sF,ak⟩:=zb4_ od j aq;have ha:=DR.un dr;have fin:FinE K (boY w d e (g e)) E ws σ F0 H0 Q:=fin;unfold boY blD at fin;split at fin
   ·rename_i b eb
    split at eb
    ·rename_i e2
     cases eb;rw[e2]at ha;cases ha.bl;refine⟨λz=>?_,λz=>?_⟩
     ·rw[if_pos (eq_of_beq z)]at fin
      exact fin (.bl w) _ (λ_=>rQ) hE hE H1 (ao.mono sF) (by unfold OD;exact⟨λ_=>rfl,by unfold DR;rfl⟩) (no_l _ λ_=>rfl) ak
     ·rw[if_neg (ne_of_beq_false z)]at fin
      exact h2 e F0 H0 σ _ hE H1 Q (ao.mono sF) ak fin
    ·cases eb
   ·exact fin.elim
 cases w with
 |true=>
  refine(show mOrV t t2 σ H Q from ?_)
  refine(show t σ H (λx H1=>match x with |.bl c=>br c (Q (.bl rR) H1) (t2 σ H1 Q)|_=>False)from ?_)
  have e:(λ(x:V) (H1:Hp)=>(match x with |.bl c=>br c (Q (.bl rR) H1) (t2 σ H1 Q)|_=>False:Prop))=λx H1=>match x with |.bl c=>br (c == rR) (Q (.bl rR) H1) (t2 σ H1 Q)|_=>False:=by
   funext x H1;cases x<;>first |rfl |(rename_i c;cases c<;>rfl)
  rw[e];exact key
 |false=>
  refine(show t σ H (λx H1=>match x with |.bl c=>br c (t2 σ H1 Q) (Q (.bl rS) H1)|_=>False)from ?_)
  have e:(λ(x:V) (H1:Hp)=>(match x with |.bl c=>br c (t2 σ H1 Q) (Q (.bl rS) H1)|_=>False:Prop))=λx H1=>match x with |.bl c=>br (c == rS) (Q (.bl rS) H1) (t2 σ H1 Q)|_=>False:=by
   funext x H1;cases x<;>first |rfl |(rename_i c;unfold br;cases c<;>simp)
  rw[e];exact key
theorem Y.sound (g0:G.Ok K):∀(y:Y) (env:Env),EvE K (y.den K G E) E ws env (y.ev G env)
 |.pu x,env=>ee_x g0 x|.mv i,env=>ee_mv|.call f x as,env=>zi4_ (zbm_ g0 as env)|.meth ms p m as,env=>zk9_ g0 ms m p as|.bm o p as,env=>by
  cases as with
  |nil=>exact zoG_ g0 (bm_ok o) p|cons a as=>exact ee_bm g0 (bm_ok o) p (a::as)
 |.bin o y z,env=>znP_ (Y.sound g0 y env) λe=>Y.sound g0 z e|.ap a y,env=>ee_ap g0 (Y.sound g0 y env) a|.tk a y,env=>ee_tk (Y.sound g0 y env) a|.not y,env=>znh_ (Y.sound g0 y env)|.or y z,env=>ee_bo (w:=rR) (Y.sound g0 y env) λe=>Y.sound g0 z e|.and y z,env=>ee_bo (w:=rS) (Y.sound g0 y env) λe=>Y.sound g0 z e
theorem zkl_ {is:List Nat}{r:Mr Env D}(hp:∀i,pn i=rS->ws i=rQ)(he:EvE K t E ws env r):EvS K (tAsg t (gLst5 K (tgS is))) E ws env (asg5M pn is r):=by
 intro F0 H0 σ F h H N hL ok fin;refine he F0 H0 σ F h H _ hL ok ?_;cases r with
 |no=>exact fin|ex c e=>exact λF h H hL ok=>fin σ F h H hL ok|ok d e=>
  intro v F1 hr hE h1 H1 ao od j aq;obtain⟨dr,sF,ak⟩:=zb4_ od j aq;have dr:=DR.un dr;unfold asg5M at fin;dsimp only[Mr.bind]at fin;split at fin
  rotate_left
  ·exact fin.elim
  rename_i a b c x y ed
  split at fin
  rotate_left
  ·exact fin.elim
  rename_i hl
  rw[ed]at dr;obtain⟨p,us,rfl,n,r⟩:=dr.nd;obtain⟨u1,u2,u3,u4,u5,rfl⟩:∃u1 u2 u3 u4 u5,us=[u1,u2,u3,u4,u5]:=by
   have:=r.len
   match us,this with
   |[u1,u2,u3,u4,u5],_=>exact⟨u1,u2,u3,u4,u5,rfl⟩
  cases e2:setG pn e is [a,b,c,x,y]with
  |none=>rw[e2]at fin;exact fin.elim|some e'=>
   rw[e2]at fin;exact⟨u1,u2,u3,u4,u5,.of (ak.1.2.1 _ _ n),zlX_ (by rw[hl];rfl) r λvs pl=>fin _ _ hE H1 (zbP_ hp e2 pl (ao.mono sF)) ak⟩
theorem zn4_ {r:Mr Env D}{g1 g2:Env->Mr Env Fl}(he:EvE K t E ws env r)(bL:∀e,EvS K s1 E ws e (g1 e))(bY:∀e,EvS K s2 E ws e (g2 e)):EvS K (mIfS (mTest t) s1 s2) E ws env (r.bind λd e=>ifM e (blD d) (g1 e) (g2 e)):=by
 intro F0 H0 σ F h H N hL ok fin;refine he F0 H0 σ F h H _ hL ok ?_;cases r with
 |no=>exact fin|ex c e=>exact λF h H hL ok=>fin σ F h H hL ok|ok d e=>
  intro v F1 hr hE h1 H1 ao od j aq;obtain⟨dr,sF,ak⟩:=zb4_ od j aq;have ha:=DR.un dr;have fin:FinS K (ifM e (blD d) (g1 e) (g2 e)) E ws F0 H0 N:=fin;unfold blD at fin;split at fin
  ·rename_i b e2
   rw[e2]at ha;cases ha.bl;refine⟨λz=>?_,λz=>?_⟩
   ·subst z;exact bL e F0 H0 σ _ hE H1 N (ao.mono sF) ak fin
   ·subst z;exact bY e F0 H0 σ _ hE H1 N (ao.mono sF) ak fin
  ·exact fin.elim
theorem zjZ_ {t:TS}{r:Mr Env Fl}(h:EvS K t E0 ws env r):EvS K t E ws env (noEx r):=by
 intro F0 H0 σ F h0 H N hL ok fin;refine h F0 H0 σ F h0 H N hL ok ?_;cases r with
 |no=>exact fin|ex c e=>exact fin.elim|ok a e=>cases a<;>exact fin
theorem map_x (as:List X):(as.map A.x).map A.t=as:=by
 rw[km];exact(la λa _=>rfl).trans (pZ _)
theorem zg2_:∀{L:List Sl}{σ:L2.St}{F:Hp},L.length=σ.length->(∀(i:Nat) s,L[i]?=rP s->s.P (σ[i]?.join) F λ_=>rQ)->Hold L σ F λ_=>rQ
 |[],[],_,_,_=>trivial|s::L,o::σ,F,hl,h=>⟨λ_=>rQ,λ_=>rQ,no_l _ λ_=>rfl,h 0 s rfl,zg2_ (by simpa using hl) λi s e=>h (i+1) s (by simpa using e)⟩|[],_::_,_,hl,_=>by cases hl
 |_::_,[],_,hl,_=>by cases hl
theorem ze4_:∀{L:List Sl}{σ af:L2.St}{F h:Hp},Hold L σ F h->af.length=σ.length->(∀(i:Nat) s,L[i]?=rP s->s=.dead\/af[i]?=σ[i]?)->Hold L af F h
 |[],[],[],_,_,_,_,_=>trivial|s::L,o::σ,o'::af,F,h,q_,hl,hs=>by
  obtain⟨h1,h2,j,p,q⟩:=q_;refine⟨h1,h2,j,?_,ze4_ q (by simpa using hl) λi s e=>by simpa using hs (i+1) s (by simpa using e)⟩
  rcases hs 0 s rfl with z |z
  ·subst z;trivial
  ·simp at z;rw[z];exact p
 |[],[],_::_,_,_,_,hl,_=>by cases hl
 |_::_,_::_,[],_,_,_,hl,_=>by cases hl
 |[],_::_,_,_,_,q,_,_=>q.elim|_::_,[],_,_,_,q,_,_=>q.elim
theorem zel_:∀{e e':Env},liveB e e'=rR->e.length=e'.length
 |[],[],_=>rfl|_::e,_::e',h=>by unfold liveB at h;rw[iP]at h;rw[jg,jg,zel_ h.2]
 |[],_::_,h=>by cases h
 |_::_,[],h=>by cases h
theorem zgy_:∀{e e':Env}{i:Nat}{d:D},liveB e e'=rR->e[i]?=rP (rP d)->∃d',e'[i]?=rP (rP d')
 |o::e,o'::e',0,d,h,z=>by
  unfold liveB at h;rw[iP]at h;simp at z;subst z;cases o' with
  |none=>cases h.1|some d'=>exact⟨d',rfl⟩
 |o::e,o'::e',i+1,d,h,z=>by
  unfold liveB at h;rw[iP]at h;obtain⟨d',q⟩:=zgy_ h.2 (by simpa using z)
  exact⟨d',by simpa using q⟩
 |[],_,_,_,_,z=>by simp at z
 |_::_,[],_,_,h,_=>by cases h
theorem zkE_ {t:TS}{is:List Nat}{r:Mr Env Fl}(hv:∀eM:Ws,(∀i,pnV is i=rS->eM i=rQ)->EvS K t E eM (vwE env) r):EvS K t E ws env (viewM is env r):=by
 intro F0 H0 σ F h H N hL ok fin;unfold viewM at fin;split at fin
 rotate_left
 ·exact fin.elim
 rename_i dd
 have hlen:env.length=σ.length:=by have:=hL.len;rw[mR]at this;exact this
 have dead:∀i,is.contains i=rR->∀d,env[i]?≠rP (rP d):=λi hi d z=>by
  unfold deadAt at dd;have:=ky.mp dd i (by simpa using hi)
  rw[z]at this;cases this
 refine hv (λi=>if is.contains i=rR then rQ else σ[i]?.join) (λi hi=>by unfold pnV at hi;rw[if_pos (by simpa using hi)]) (un F h) H σ (un F h) (λ_=>rQ) H N (zg2_ (by rw[mR];unfold vwE;rw[i7];exact hlen) λi s e=>?_) ⟨Ext.refl ok.thaw,λp=>.inr rfl,(λp o z=>by cases z),λp z=>absurd rfl z,(λp xs z=>by cases z)⟩ ?_
 ·rw [l8]at e
  unfold vwE at e;rw[jB]at e;cases z:env[i]? with
  |none=>rw[z]at e;cases e|some o=>
   rw[z]at e;cases o with
   |none=>cases e;trivial|some d=>
    cases e;obtain⟨o,k1,k2,e1,j,pp,g⟩:=Hold.atG hL (z4_ z);obtain⟨v,rfl,bX,od⟩:=zbc_ pp;have hf:=zaL_ (hL.froz ok.2.1) i (slot K (rP d)) (by show(env.map (slot K))[i]?=_;rw[jB,z];rfl)
    rw[e1]at hf ⊢;obtain⟨v',e2,dr⟩:=hf;cases e2;have eQ:OD K d.vw v (un F h) λ_=>rQ:=OD.vw (h:=λ_=>rQ) (λ_=>rfl) dr
    have nc:is.contains i=rS:=by
     cases y:is.contains i with
     |false=>rfl|true=>exact absurd z (dead i y d)
    show(slotW K (if is.contains i=rR then rQ else σ[i]?.join) (rP d.vw)).P (rP v) (un F h) λ_=>rQ
    rw[nc,if_neg (by decide),e1]
    exact⟨v,rfl,rfl,eQ⟩
 ·cases r with
  |no=>exact fin|ex c e=>exact fin.elim|ok o e=>
   cases o with
   |ct=>exact fin.elim|bk=>exact fin.elim|nx=>
    intro af F' h' H' bS aJ;have fin:FinS K (if liveB env e=rR then .ok .nx env else .no) E ws F0 H0 N:=fin
    split at fin
    rotate_left
    ·exact fin.elim
    rename_i lv
    obtain⟨o1,hsF,ht⟩:=ok.back aJ.1;have dy:e.length=af.length:=by have:=bS.len;rw[mR]at this;exact this
    refine fin af (less F' h) h H' (ze4_ (hL.mono hsF) (by rw[<- hlen,<- dy,zel_ lv]) λi s z=>?_) o1
    rw[l8]at z;cases y:env[i]? with
    |none=>rw[y]at z;cases z|some o=>
     rw[y]at z;cases o with
     |none=>cases z;exact .inl rfl|some d=>
      right;obtain⟨d',y'⟩:=zgy_ lv y;obtain⟨o,k1,k2,e1,j,pp,g⟩:=Hold.atG hL (z4_ y);obtain⟨v,rfl,bX,od⟩:=zbc_ pp;obtain⟨o2,k3,k4,e2,j2,pp2,g2⟩:=Hold.atG bS (z4_ y');have nc:is.contains i=rS:=by
       cases y:is.contains i with
       |false=>rfl|true=>exact absurd (by assumption) (dead i y d)
      rw[nc,if_neg (by decide),e1]at pp2
      obtain⟨v2,rfl,q2⟩:=pp2;rw[e1,e2,q2.1]
   |rt d=>
    intro v af F' hr h2 h' H' bS od j aJ;have fin:FinS K (if d.flat?.isSome=rR then .ok (.rt d) env else .no) E ws F0 H0 N:=fin
    split at fin
    rotate_left
    ·exact fin.elim
    rename_i fl
    obtain⟨o1,hsF,ht⟩:=ok.back aJ.1;have eO:OD K d v (less F' h) λ_=>rQ:=by
     cases d with
     |non=>unfold OD at od ⊢;exact⟨λ_=>rfl,by have:=od.2;unfold DR at this ⊢;exact this⟩|bl=>unfold OD at od ⊢;exact⟨λ_=>rfl,by have:=od.2;unfold DR at this ⊢;exact this⟩|int=>unfold OD at od ⊢;exact⟨λ_=>rfl,by have:=od.2;unfold DR at this ⊢;exact this⟩|str=>unfold OD at od ⊢;exact⟨λ_=>rfl,by have:=od.2;unfold DR at this ⊢;exact this⟩|_=>cases fl
    exact fin v σ (less F' h) (λ_=>rQ) h h H' (hL.mono hsF) eO (no_l _ λ_=>rfl) o1
mutual
theorem S.sound (g0:G.Ok K):∀(s:S) {pn:Nat->Bool}{ws:Ws}(hp:∀i,pn i=rS->ws i=rQ) {E:XK}(env:Env),EvS K (s.den K G E) E ws env (S.run G pn s env)
 |.asg i y,pn,ws,hp,E,env=>zkh_ hp (Y.sound g0 y env)|.asg5 is x,pn,ws,hp,E,env=>zkl_ hp (ee_x g0 x)|.setF p n x,pn,ws,hp,E,env=>zkR_ g0 n p (.x x)|.setI p k x,pn,ws,hp,E,env=>zjG_ g0 p k x|.ex y,pn,ws,hp,E,env=>zj0_ (Y.sound g0 y env)|.ret y,pn,ws,hp,E,env=>zmI_ (Y.sound g0 y env)|.retN,pn,ws,hp,E,env=>zlh_|.if_ c a b,pn,ws,hp,E,env=>es_if (ze8_ (X.sound g0 c E env)) (S.sounds g0 a hp env) (S.sounds g0 b hp env)|.ifL c a b,pn,ws,hp,E,env=>es_if (zmL_ (X.sound g0 c E env)) (S.sounds g0 a hp env) (S.sounds g0 b hp env)|.ifY c a b,pn,ws,hp,E,env=>zn4_ (Y.sound g0 c env) (λe=>S.sounds g0 a hp e) λe=>S.sounds g0 b hp e|.for_ ik src tg b,pn,ws,hp,E,env=>by
  have:=zbm_ (K:=K) (E:=E) (ws:=ws) g0 (src.map .x) env;rw[map_x]at this;exact zob_ hp this λe=>S.sounds g0 b hp e
 |.raise c as,pn,ws,hp,E,env=>by
  have:=zbm_ (K:=K) (E:=E) (ws:=ws) g0 (as.map .x) env;rw[map_x]at this;exact zil_ this
 |.tryC f x as cl tb i hs,pn,ws,hp,E,env=>by
  show EvS K (tTryH (tDropX (CtG K f) (X.dens K G E0 as)) (tHAs K (gA K cl) i (hDen K G hs) tH0)) E ws env (if(cl,tb)∈G.ct then _ else _)
  split
  ·rename_i hm;exact zjc_ hp (g0.ct _ hm) (X.sounds g0 as E0 env) λc=>zem_ g0 hp _ _
  ·exact es_no
 |.tryM c f p m as cl tb i hs,pn,ws,hp,E,env=>by
  show EvS K (tTryH (tDropMX (gA K c) m (CtG K f) (p.x.den K G E0) (X.dens K G E0 (as.map A.t))) (tHAs K (gA K cl) i (hDen K G hs) tH0)) E ws env (if(cl,tb)∈G.ct then _ else _)
  split
  ·rename_i hm;exact zkG_ g0 hp (g0.ct _ hm) λc e=>zem_ g0 hp _ _
  ·exact es_no
 |.pass,pn,ws,hp,E,env=>zdR_|.never,pn,ws,hp,E,env=>λF0 H0 σ F h H N hL ok fin=>fin.elim|.view is s,pn,ws,hp,E,env=>zkE_ (λeM fu=>S.sound g0 s fu (vwE env))|.try0 b aZ,pn,ws,hp,E,env=>by
  show EvS K (tSeq (S.dens K G E0 b) (S.dens K G E aZ)) E ws env (seqM (noEx (S.runs G pn b env)) λe=>S.runs G pn aZ e)
  exact zhG_ (zjZ_ (S.sounds g0 b hp env)) λe=>S.sounds g0 aZ hp e
theorem S.sounds (g0:G.Ok K):∀(ss:List S) {pn:Nat->Bool}{ws:Ws}(hp:∀i,pn i=rS->ws i=rQ) {E:XK}(env:Env),EvS K (S.dens K G E ss) E ws env (S.runs G pn ss env)
 |[],pn,ws,hp,E,env=>zdR_|s::ss,pn,ws,hp,E,env=>zhG_ (S.sound g0 s hp env) λe=>S.sounds g0 ss hp e
end
end
def pins (ds:List D)(i:Nat):Bool:=match ds[i]? with |some d=>!d.cold |none=>rS
def outs:List D->Env->List D
 |[],_=>[]|d::ds,o::env=>(if d.cold then d else match o with |some d'=>d' |none=>.gone)::outs ds env|d::ds,[]=>(if d.cold then d else .gone)::outs ds []
def fnOf (G:Gi)(n m:Nat)(body:List S):Fn:=λds=>if ds.length=n then(match S.runs G (pins ds) body (ds.map rP++i8 m rQ)with
 |.ok (.rt d) env=>.ok d (outs ds env)|.ok .nx env=>.ok .non (outs ds env)|.ex c env=>.ex c (outs ds env)|_=>.no)else .no
section
variable {K:j3}{E:XK}{F F' h H:Hp}{env:Env}{ws:Ws}{G:Gi}{σ:L2.St}
theorem zch_:∀(m:Nat) {ws:Ws}{h:Hp},Hold (LofW K ws (i8 m rQ)) (i8 m rQ) F h
 |0,ws,h=>trivial|m+1,ws,h=>by
  rw[ka,ka,zK_];exact⟨λ_=>rQ,h,no_l _ λ_=>rfl,trivial,zch_ m⟩
def wsOf (ds:List D)(vs:List V):Ws:=λi=>if pins ds i then vs[i]? else rQ
theorem zds_ (m:Nat):∀{ds:List D}{vs:List V}{h:Hp}{ws:Ws},(∀(i:Nat) u,ws i=rP u->vs[i]?=rP u)->ODs K ds vs F h->Hold (LofW K ws (ds.map rP++i8 m rQ)) (vs.map rP++i8 m rQ) F h
 |[],_,h,ws,hw,q=>by
  unfold ODs at q;rw[q.1];exact zch_ m
 |d::ds,_,h,ws,hw,q=>by
  unfold ODs at q;obtain⟨v,vs,h1,h2,rfl,j,o,r⟩:=q;rw[ju,ju,lq,lq,zK_];exact⟨h1,h2,j,zbL_ (λu z=>by have:=hw 0 u z;simpa using this) o,zds_ m (λi u z=>by have:=hw (i+1) u z;simpa using this) r⟩
theorem zaM_:∀{ds:List D}{vs:List V}{env:Env}{σ:L2.St}{h h0:Hp}{ws:Ws},(∀(i:Nat) d,ds[i]?=rP d->d.cold=rS->ws i=vs[i]?)->ODs K ds vs F h0->Same F F'->Hold (LofW K ws env) σ F' h->∃h3,Same h3 h/\ODs K (outs ds env) vs F' h3
 |[],_,env,σ,h,h0,ws,hw,q,s,hL=>by
  unfold ODs at q;rw[q.1];refine⟨λ_=>rQ,(λp o z=>by cases z),?_⟩
  unfold outs ODs;exact⟨rfl,λ_=>rfl⟩
 |d::ds,_,[],σ,h,h0,ws,hw,q,s,hL=>by
  unfold ODs at q;obtain⟨v,vs,h1,h2,rfl,j,od,r⟩:=q;obtain⟨h3,s3,os⟩:=zaM_ (env:=[]) (σ:=σ) (h:=h) (ws:=λi=>ws (i+1)) (λi d' e c=>by have:=hw (i+1) d' (by simpa using e) c;simpa using this) r s hL
  refine⟨h3,s3,?_⟩;unfold outs ODs;refine⟨v,vs,λ_=>rQ,h3,rfl,no_l _ λ_=>rfl,?_,os⟩
  by_cases hc:d.cold=rR
  ·rw[if_pos hc]
   have:=od.mono s;obtain⟨n,_⟩:=OD.cold hc this;have e:h1=λ_=>rQ:=funext n
   rw[e]at this;exact this
  ·rw[if_neg hc];exact zat_ λ_=>rfl
 |d::ds,_,o::env,[],h,h0,ws,hw,q,s,hL=>by rw[zK_]at hL;exact hL.elim
 |d::ds,_,o::env,x::σ,h,h0,ws,hw,q,s,hL=>by
  unfold ODs at q;obtain⟨v,vs,h1,h2,rfl,j,od,r⟩:=q;rw[zK_]at hL;obtain⟨k1,k2,jk,pp,hL⟩:=hL;obtain⟨h3,s3,os⟩:=zaM_ (ws:=λi=>ws (i+1)) (λi d' e c=>by have:=hw (i+1) d' (by simpa using e) c;simpa using this) r s hL
  have d1:∀{m:Hp},Same m k1->Dj m h3:=λ{m} sm p=>by
   rcases jk.dj p with z |z
   ·exact .inl (sm.free z)
   ·exact .inr (s3.free z)
  have key:∃c m,Same m k1/\(if d.cold then d else match o with |some d'=>d' |none=>.gone)=c/\OD K c v F' m:=by
   by_cases hc:d.cold=rR
   ·obtain⟨_,dr⟩:=OD.cold hc od
    refine⟨d,λ_=>rQ,(λp o z=>by cases z),by rw[if_pos hc],?_⟩
    have:=od.mono s;obtain⟨n,_⟩:=OD.cold hc this;have e:h1=λ_=>rQ:=funext n
    rw[e]at this;exact this
   ·have hf:d.cold=rS:=by simpa using hc
    rw[if_neg hc];cases o with
    |none=>exact⟨.gone,λ_=>rQ,(λp o z=>by cases z),rfl,zat_ λ_=>rfl⟩|some d'=>
     obtain⟨v',e1,e2,o'⟩:=zbc_ pp;have:ws 0=rP v:=by have:=hw 0 d (by simp) hf;simpa using this
     have:=e2 v this;subst this;exact⟨d',k1,Same.refl _,rfl,o'⟩
  obtain⟨c,m,sm,ec,oc⟩:=key;refine⟨un m h3,λp o z=>?_,?_⟩
  ·unfold un at z
   cases y:m p with
   |some w=>rw[y]at z;cases z;exact jk.l _ _ (sm _ _ y)|none=>rw[y]at z;exact jk.r _ _ (s3 _ _ z)
  ·unfold outs;rw[ec]
   unfold ODs;exact⟨v,vs,m,h3,rfl,zad_ (d1 sm),oc,os⟩
theorem zlz_ (g0:G.Ok K){N:List Str}{n m:Nat}{body:List S}(hN:N.length=n+m):
  ∀vs H Q E,CtG K (fnOf G n m body) vs H Q E->S.dens K G E body {nx:=λ_ H'=>Q .non H',rt:=Q} (L2.start N vs) H:=by
 rintro vs H Q E ⟨F,h,ds,hs,dj,sh,os,fin⟩;have nt:=zd5_ os;have ln:=ODs.len os;unfold fnOf at fin;split at fin
 rotate_left
 ·exact fin.elim
 rename_i hd
 have b9:L2.start N vs=vs.map rP++i8 m rQ:=by unfold L2.start;rw[hN,<- ln,hd,Nat.add_sub_cancel_left]
 rw[b9];have hw:∀(i:Nat) u,wsOf ds vs i=rP u->vs[i]?=rP u:=λi u z=>by
  unfold wsOf at z;split at z
  ·exact z
  ·cases z
 have hp:∀i,pins ds i=rS->wsOf ds vs i=rQ:=λi z=>by unfold wsOf;rw[z];rfl
 have fb:∀(i:Nat) d,ds[i]?=rP d->d.cold=rS->wsOf ds vs i=vs[i]?:=λi d e c=>by
  unfold wsOf pins;rw[e];simp[c]
 refine S.sounds g0 body hp _ F (less H h) _ F h H _ (zds_ m hw os) (zaX_ hs dj sh nt) ?_;cases e:S.runs G (pins ds) body (ds.map rP++i8 m rQ)with
 |no=>rw[e]at fin;exact fin|ex c env=>
  rw[e]at fin;intro σ F' h' H' hL ok;obtain⟨h3,s3,aE⟩:=zaM_ fb os ok.1.1 hL;exact fin F' h3 H' (zbr_ ok s3) aE
 |ok o env=>
  rw[e]at fin;cases o with
  |nx=>
   intro σ F' h' H' hL ok;obtain⟨h3,s3,aE⟩:=zaM_ fb os ok.1.1 hL;exact fin .non F' h3 H' (λ_=>rQ) h3 (zbr_ ok s3) (no_l _ λ_=>rfl) (zcO_ λ_=>rfl) aE
  |rt d=>
   intro v σ F' hr h2 h' H' hL od j ok;obtain⟨h3,s3,aE⟩:=zaM_ fb os ok.1.1 hL;have dd:Dj hr h3:=λp=>by rcases j.dj p with z |z;exact .inl z;exact .inr (s3.free z)
   refine fin v F' (un hr h3) H' hr h3 (zbr_ ok λp o z=>?_) (zad_ dd) od aE
   unfold un at z;cases y:hr p with
   |some w=>rw[y]at z;cases z;exact j.l _ _ y|none=>rw[y]at z;exact j.r _ _ (s3 _ _ z)
  |ct=>exact fin.elim|bk=>exact fin.elim
end
noncomputable def noStar (e:jw):Bool:=e.ctorIdx != 22
def noSup:jw->Bool
 |.Call (.Name x _) [] [] _=>x != "super" |_=>rR
noncomputable def noIf (e:jw):Bool:=e.ctorIdx != 5
noncomputable def noSl (e:jw):Bool:=e.ctorIdx != 26
noncomputable def noSet (e:jw):Bool:=e.ctorIdx != 7
noncomputable def noCmp (e:jw):Bool:=e.ctorIdx<8 ||10<e.ctorIdx
noncomputable def noTup (e:jw):Bool:=e.ctorIdx != 25
section
variable {env:PySem.Env}{e o:jw}{es:List jw}{pos apos:Pos}{m:Str}
theorem zd_ (h:noStar e=rR):jE (e::es) env=(rS,eval e env)::jE es env:=by
 cases e<;>first |rfl |cases h
theorem zbj_:∀{es:List jw},es.all noStar=rR->jE es env=es.map λe=>(rS,eval e env)
 |[],_=>rfl|e::es,h=>by
  rw[jY,iP]at h;rw[zd_ h.1,zbj_ h.2];rfl
theorem zG_ (h:es.all noStar=rR):((lh pos (jE es env)).any λx=>x.1)=rS:=by
 rw[zbj_ h];unfold lh;simp
theorem zhx_ (h:es.all noStar=rR):((lh pos (jE es env)).all λx=>!x.1)=rR:=by
 rw[zbj_ h];unfold lh;simp
theorem zbv_ (h:noSup o=rR):attributeBase o m env (eval o env)=eval o env:=by
 cases o with
 |Call f es ks q=>cases f with
  |Name id p=>cases es with
   |nil=>cases ks with
    |nil=>
     have h:(id != "super")=rR:=h;unfold attributeBase;dsimp only;rw[h];rfl
    |cons=>rfl
   |cons=>rfl
  |_=>rfl
 |_=>rfl
theorem zgT_ (h:es.all noStar=rR)(hl:es.length<29):methodCallForm (es.length+([]:List Keyword).length) (lh pos (jE es env)) (mH pos (lS [] env))=rR:=by
 unfold methodCallForm;rw[zhx_ h];simp[lS,mH];lia
theorem ziH_ (h:es.all noStar=rR)(hl:es.length<29):((((lh pos (jE es env)).all λx=>!x.fst) && (mH pos (lS [] env)).all λx=>x.fst.isSome) && decide ((es.length+([]:List Keyword).length+if([]:List Keyword).isEmpty=rR then 0 else 1)<30))=rR:=zgT_ h hl
theorem zgA_ (hb:noSup o=rR)(hl:(apos.endLine == pos.line)=rR)(h:es.all noStar=rR)(hn:es.length<29):eval (.Call (.Attribute o m apos) es [] pos) env=(do
   let ov <- eval o env
   standAt apos.atName
   let(f,first) <- holding [ov] (getMethod ov m (do return (<- importBound o env).getD rR))
   callWith pos f first (lh pos (jE es env)) (mH pos (lS [] env))):=by
 have hf:=zgT_ (pos:=pos) (env:=env) h hn
 have:eval (.Call (.Attribute o m apos) es [] pos) env=(do
  let ov <- attributeBase o m env (eval o env)
  standAt apos.atName
  methodCall o m apos pos env ov (es.length+([]:List Keyword).length) (lh pos (jE es env)) (mH pos (lS [] env))):=rfl
 rw[this,zbv_ hb];unfold methodCall calleeOf methodCallPos;rw[hf,hl];simp
theorem zct_ (h:noSl e=rR):PlainIx e:=λ_ _=>by
 cases e<;>first |rfl |cases h
theorem za5_ {op:CmpOp}(h:noSet e=rR):behindInMarks op e=rS:=by
 cases e<;>first |rfl |cases h
theorem zbC_ (h:noSet e=rR)(x:iX):foldedSetIterable e env x=pure x:=by
 cases e<;>first |rfl |cases h
theorem zay_ (h:noCmp e=rR)(t:Option jw)(n:Nat):swapsWith e t n env=pure rS:=by
 cases e<;>first |rfl |cases h
theorem zf1_ {tg:jw}(h:noTup e=rR):swappedStores [tg] e env=pure rQ:=by
 cases tg<;>first |rfl |(cases e<;>first |rfl |cases h)
theorem zd0_ {o i:jw}{p:Pos}:swappedStores [.Subscript o i p] e env=pure rQ:=by
 unfold swappedStores;rfl
noncomputable def plainT:jw->Bool
 |.UnaryOp .Not ..=>rS |.BoolOp ..=>rS |.IfExp ..=>rS |.Compare ..=>rS |_=>rR
theorem zce_ (h:plainT e=rR)(whole:Sem iX):isTrue e env whole=(do let v <- whole;standAt e.pos;holding [v] (truthy v)):=by
 cases e with
 |UnaryOp op a p=>cases op<;>first |rfl |cases h
 |_=>first |rfl |cases h
end
structure Ck where
 N:List Str
 nm:List (Str×lT)
structure Ft where
 bs:List Str
 at_:List Str
 gc:List (Str×V)
structure Ft.Ok (T:Ft)(G:Gi)(K:jG)(mg:Str->Option iX):Prop where
 bs:∀x∈T.bs,mg x=rQ
 cls:∀c∈G.cs,Cls K (gA K c)
 at_:∀c∈G.cs,∀a∈T.at_,NoAttr K (gA K c) a
 gc:∀q∈T.gc,Gc mg q.1 q.2
 kt:∀q∈G.kt,Gc mg q.1 (.ref (gA K q.1))
 ex:∀x∈G.ex,Gc mg x (.ref (gA K x))
inductive Fc where
 |call (f:Fn) (x:Str)|make (f:Fn) (c:Str)|meth (m:Str) (c:Str) (f:Fn)|exc (c:Str)|nb |kd (x:Str) (rs:List (List Nat×List V))|callN (f:Fn) (x:Str)
def Fc.H (P:jL)(w:jU)(K:jG)(mg:Str->Option iX)(base:Heap)(k:Nat):Fc->Prop
 |.call f x=>∃ps j,j<=k/\Gd P w K mg base (CXx P w) j x ps (CtG K f)|.make f c=>∃ps j,j+1<=k/\Gk P w K mg base (CXx P w) j c (gA K c) ps (CtG K f)|.meth m c f=>∃ps j,j<=k/\Gm P w K mg base (CXx P w) j (gA K c) m ps (CtG K f)|.nb=>Nb K|.kd x rs=>Kd w K x rs/\mg x=rP (.ref (gA K x))|.callN f x=>∃ps j,j<=k/\GdN P w K mg base j x ps (CtG K f)|.exc c=>excK K (gA K c)=rR/\mg c=rP (.ref (gA K c))
def Tu.fc:Tu->List Fc
 |.repl _ _=>[.nb]|.rst=>[]|.rev=>[]|.kin x rs=>[.kd x rs]|.kix x rs=>[.kd x rs]
mutual
def X.fcs:X->List Fc
 |.v _=>[]|.k _=>[]|.g _ _=>[]|.gt _ _=>[]
 |.bin _ a b=>a.fcs++b.fcs|.ch _ _ a b c=>a.fcs++(b.fcs++c.fcs)|.and a b=>a.fcs++b.fcs|.or a b=>a.fcs++b.fcs|.not a=>a.fcs|.ifx c a b=>c.fcs++(a.fcs++b.fcs)|.sl a lo hi=>a.fcs++(X.fcsO lo++X.fcsO hi)|.tup as=>X.fcss as|.lst as=>X.fcss as|.fld a _=>a.fcs|.call f x as=>.call f x::X.fcss as|.bf _ as=>X.fcss as|.sm _ a as=>a.fcs++X.fcss as|.comp _ _ _ src _ c e=>X.fcss src++(X.fcsO c++e.fcs)|.make f c as=>.make f c::X.fcss as|.meth ms a m as=>ms.map (λq=>.meth m q.1 q.2)++(a.fcs++X.fcss as)|.fs ps=>X.fcss ps|.fmt a=>a.fcs|.rep a=>a.fcs|.tu o a=>o.fc++a.fcs|.isa a _=>a.fcs|.isx a _ _=>a.fcs|.ds3 a0 b0 c0 d0 e0 f0=>a0.fcs++(b0.fcs++(c0.fcs++(d0.fcs++(e0.fcs++f0.fcs))))|.dct0=>[]
def X.fcss:List X->List Fc
 |[]=>[]|a::as=>a.fcs++X.fcss as
def X.fcsO:Option X->List Fc
 |none=>[]|some a=>a.fcs
end
noncomputable def visB:Option lT->Bool
 |some .local=>rR |some .cell=>rR |some .free=>rR |_=>rS
noncomputable def locB:Option lT->Bool
 |some .local=>rR |some .cell=>rR |_=>rS
def nmOk (x:Str):Bool:=!(x=="__debug__") && !(x=="__classdict__")
def glB (c:Ck)(x:Str):Bool:=c.nm.lookup x==rP .globalImplicit && !(x=="__debug__")
def constB (d:D):Const->Bool
 |.int i=>(match d with |.int j=>i == j |_=>rS)|.bool b=>(match d with |.bl c=>b == c |_=>rS)|.none=>(match d with |.non=>rR |_=>rS)|.str x=>(match d with |.str l=>x.cps.toList == l |_=>rS)|_=>rS
noncomputable def Bo.op:Bo->Option Operator
 |.add=>rP .Add |.mul=>rP .Mult |.mod=>rP .Mod |.div=>rP .FloorDiv |.pow=>rP .Pow |_=>rQ
noncomputable def Bo.cmp:Bo->Option CmpOp
 |.lt=>rP .Lt |.le=>rP .LtE |.gt=>rP .Gt |.eq=>rP .Eq |.ne=>rP .NotEq |.isn=>rP .IsNot |.inn=>rP .In |.nin=>rP .NotIn |_=>rQ
noncomputable def Bo.isIx:Bo->Bool
 |.ix=>rR |_=>rS
noncomputable def Bf.nm:Bf->Str
 |.len => "len" |.list => "list" |.str => "str" |.all => "all"
noncomputable def Sm.nm:Sm->Str
 |.join => "join" |.split => "split" |.ljust => "ljust"
noncomputable def tyNm:String->Option Str
 |"int" => rP "int" |"bool" => rP "bool" |"str" => rP "str" |"list" => rP "list" |"tuple" => rP "tuple" |"dict" => rP "dict" |_=>rQ
def relab (nm names:List (Str×lT)):List (Str×lT):=names.map λ(n,k)=>if k == .free && nm.lookup n == rP .cell then(n,.cell)else(n,k)
def tgB (c:Ck)(i:Nat):jw->Bool
 |.Name x _=>c.N[i]? == rP x && locB (c.nm.lookup x)|_=>rS
def tgsB (c:Ck):List Nat->List jw->Bool
 |[],[]=>rR|i::is,e::es=>tgB c i e && tgsB c is es|_,_=>rS
def tgOk (c:Ck)(g:Tg)(e:jw):Bool:=match g.tup,e with
 |true,.Tuple es _ _=>tgsB c g.is es|false,e=>g.is.length == 1 && tgB c (g.is.headD 0) e|_,_=>rS
def locals? (c:Ck)(g:Tg):Bool:=g.is.all λi=>match c.N[i]? with |some x=>c.nm.lookup x == rP .local |none=>rS
def scB (c:Ck)(sc:Scope)(lv:List Str)(fr:List (Str×Nat)):Bool:=
 sc.names.all (λy=>y.2 != .cell && (y.2 != .free ||c.nm.lookup y.1 == rP .cell ||c.nm.lookup y.1 == rP .free) && (y.2 != .local ||sc.names.lookup y.1 == rP .local)) && sc.kind == .function &&
 fr.all (λq=>c.N[q.2]? == rP q.1 && sc.names.contains (q.1,NameKind.free) && (c.nm.lookup q.1 == rP .cell ||c.nm.lookup q.1 == rP .free) && ((relab c.nm sc.names).lookup q.1 == rP .cell ||(relab c.nm sc.names).lookup q.1 == rP .free)) && decide (cN lv fr).Nodup
noncomputable def kc:List jw->(jw->List jw->Bool)->Bool
 |a::l,k=>k a l |[],_=>rS
noncomputable def kco:List (Option jw)->(jw->List (Option jw)->Bool)->Bool
 |some a::l,k=>k a l |_,_=>rS
def elB {p:Prop}[Decidable p](f:p->Bool):Bool:=if h:p then f h else rS
theorem elB_ {p:Prop}[Decidable p]{f:p->Bool}{C:Prop}(h:elB f=rR)(H:p->C):C:=by
 unfold elB at h;split at h
 ·exact H ‹_›
 ·cases h
def kN (e:jw)(k:Str->Bool):Bool:=elB λi=>Expr.Name.elim e i λx _=>k x
def kC (e:jw)(k:jw->List jw->Pos->Bool):Bool:=elB λi=>Expr.Call.elim e i λf es ks q=>ks.isEmpty && k f es q
def kA (e:jw)(k:jw->Str->Pos->Bool):Bool:=elB λi=>Expr.Attribute.elim e i λo m p=>k o m p
def kB (e:jw)(k:jw->Operator->jw->Bool):Bool:=elB λi=>Expr.BinOp.elim e i λl o r _=>k l o r
def kM (e:jw)(k:jw->List CmpOp->List jw->Bool):Bool:=elB λi=>Expr.Compare.elim e i λl o r _=>k l o r
def kS (e:jw)(k:jw->jw->Bool):Bool:=elB λi=>Expr.Subscript.elim e i λl r _=>k l r
def kL (e:jw)(k:Option jw->Option jw->Option jw->Bool):Bool:=elB λi=>Expr.Slice.elim e i λa b c _=>k a b c
def kU (e:jw)(k:UnaryOp->jw->Bool):Bool:=elB λi=>Expr.UnaryOp.elim e i λo x _=>k o x
def kI (e:jw)(k:jw->jw->jw->Bool):Bool:=elB λi=>Expr.IfExp.elim e i λt x y _=>k t x y
def kT (e:jw)(k:List jw->Bool):Bool:=elB λi=>Expr.Tuple.elim e i λes _ _=>k es
def kW (e:jw)(k:List jw->Bool):Bool:=elB λi=>Expr.List.elim e i λes _=>k es
def kK (e:jw)(k:Const->Bool):Bool:=elB λi=>Expr.Constant.elim e i λc _ _=>k c
def kG (e:jw)(k:jw->List Comprehension->Scope->Bool):Bool:=elB λi=>Expr.ListComp.elim e i λx g s _=>k x g s
def kDi (e:jw):Bool:=elB λi=>Expr.Dict.elim e i λa b _=>a.isEmpty && b.isEmpty
def kDd (e:jw)(k:List (Option jw)->List jw->Bool):Bool:=elB λi=>Expr.Dict.elim e i λa b _=>k a b
def kJ (e:jw)(k:List jw->Bool):Bool:=elB λi=>Expr.JoinedStr.elim e i λes _=>k es
def kF (e:jw)(k:jw->Int->Option jw->Bool):Bool:=elB λi=>Expr.FormattedValue.elim e i λx n f _=>k x n f
def kO (o:BoolOp)(e:jw)(k:jw->jw->Bool->Bool):Bool:=elB λi=>Expr.BoolOp.elim e i λo' es p=>o' == o && kc es λx es=>kc es λy l=>k x (bif l.isEmpty then y else .BoolOp o (y::l) p) l.isEmpty
section
variable {e:jw}{C:jw->Prop}
theorem kc_ {l:List jw}{C:List jw->Prop}{k}(h:kc l k=rR)(H:∀a t,k a t=rR->C (a::t)):C l:=by cases l with |nil=>cases h |cons a t=>exact H a t h
theorem kco_ {l:List (Option jw)}{C:List (Option jw)->Prop}{k}(h:kco l k=rR)(H:∀a t,k a t=rR->C (rP a::t)):C l:=by
 cases l with
 |nil=>cases h|cons a t=>cases a with |none=>cases h |some a=>exact H a t h
theorem kN_ {k}(h:kN e k=rR)(H:∀x p,k x=rR->C (.Name x p)):C e:=elB_ h λi=>Expr.Name.elim (motive_1:=λe=>kN e k=rR->C e) e i H h
theorem kC_ {k}(h:kC e k=rR)(H:∀f es q,k f es q=rR->C (.Call f es [] q)):C e:=elB_ h λi=>Expr.Call.elim (motive_1:=λe=>kC e k=rR->C e) e i (λf es ks q h=>by cases ks with |nil=>exact H f es q h |cons=>cases h) h
theorem kA_ {k}(h:kA e k=rR)(H:∀o m p,k o m p=rR->C (.Attribute o m p)):C e:=elB_ h λi=>Expr.Attribute.elim (motive_1:=λe=>kA e k=rR->C e) e i H h
theorem kB_ {k}(h:kB e k=rR)(H:∀l o r p,k l o r=rR->C (.BinOp l o r p)):C e:=elB_ h λi=>Expr.BinOp.elim (motive_1:=λe=>kB e k=rR->C e) e i H h
theorem kM_ {k}(h:kM e k=rR)(H:∀l o r p,k l o r=rR->C (.Compare l o r p)):C e:=elB_ h λi=>Expr.Compare.elim (motive_1:=λe=>kM e k=rR->C e) e i H h
theorem kS_ {k}(h:kS e k=rR)(H:∀l r p,k l r=rR->C (.Subscript l r p)):C e:=elB_ h λi=>Expr.Subscript.elim (motive_1:=λe=>kS e k=rR->C e) e i H h
theorem kL_ {k}(h:kL e k=rR)(H:∀a b c p,k a b c=rR->C (.Slice a b c p)):C e:=elB_ h λi=>Expr.Slice.elim (motive_1:=λe=>kL e k=rR->C e) e i H h
theorem kU_ {k}(h:kU e k=rR)(H:∀o x p,k o x=rR->C (.UnaryOp o x p)):C e:=elB_ h λi=>Expr.UnaryOp.elim (motive_1:=λe=>kU e k=rR->C e) e i H h
theorem kI_ {k}(h:kI e k=rR)(H:∀t x y p,k t x y=rR->C (.IfExp t x y p)):C e:=elB_ h λi=>Expr.IfExp.elim (motive_1:=λe=>kI e k=rR->C e) e i H h
theorem kT_ {k}(h:kT e k=rR)(H:∀es n p,k es=rR->C (.Tuple es n p)):C e:=elB_ h λi=>Expr.Tuple.elim (motive_1:=λe=>kT e k=rR->C e) e i H h
theorem kW_ {k}(h:kW e k=rR)(H:∀es p,k es=rR->C (.List es p)):C e:=elB_ h λi=>Expr.List.elim (motive_1:=λe=>kW e k=rR->C e) e i H h
theorem kK_ {k}(h:kK e k=rR)(H:∀c n p,k c=rR->C (.Constant c n p)):C e:=elB_ h λi=>Expr.Constant.elim (motive_1:=λe=>kK e k=rR->C e) e i H h
theorem kG_ {k}(h:kG e k=rR)(H:∀x g s p,k x g s=rR->C (.ListComp x g s p)):C e:=elB_ h λi=>Expr.ListComp.elim (motive_1:=λe=>kG e k=rR->C e) e i H h
theorem kDi_ (h:kDi e=rR)(H:∀p,C (.Dict [] [] p)):C e:=elB_ h λi=>Expr.Dict.elim (motive_1:=λe=>kDi e=rR->C e) e i (λa b p h=>by cases a<;>cases b<;>first |exact H p |cases h) h
theorem kDd_ {k}(h:kDd e k=rR)(H:∀a b p,k a b=rR->C (.Dict a b p)):C e:=elB_ h λi=>Expr.Dict.elim (motive_1:=λe=>kDd e k=rR->C e) e i H h
theorem kJ_ {k}(h:kJ e k=rR)(H:∀es p,k es=rR->C (.JoinedStr es p)):C e:=elB_ h λi=>Expr.JoinedStr.elim (motive_1:=λe=>kJ e k=rR->C e) e i H h
theorem kF_ {k}(h:kF e k=rR)(H:∀x n f p,k x n f=rR->C (.FormattedValue x n f p)):C e:=elB_ h λi=>Expr.FormattedValue.elim (motive_1:=λe=>kF e k=rR->C e) e i H h
theorem kO_ {o:BoolOp}{k}(h:kO o e k=rR)(H:∀x y l p,k x (bif l.isEmpty then y else .BoolOp o (y::l) p) l.isEmpty=rR->C (.BoolOp o (x::y::l) p)):C e:=elB_ h λi=>Expr.BoolOp.elim (motive_1:=λe=>kO o e k=rR->C e) e i (λo' es p h=>by
 have h:=jP.mp h;cases eq_of_beq h.1;exact kc_ (C:=λl=>C (.BoolOp o l p)) h.2 λx t h=>kc_ (C:=λl=>C (.BoolOp o (x::l) p)) h λy l h=>H x y l p h) h
end
noncomputable def Ik.isAny:Ik->Bool
 |.any=>rR |_=>rS
noncomputable def Ik.nm:Ik->Str
 |_ => "range"
noncomputable def Ik.ar:Ik->Nat
 |_=>1
noncomputable def Ik.tp:Ik->Bool
 |_=>rS
section
variable (T:Ft)(G:Gi)
def srcB (c:Ck)(ik:Ik)(tg:Tg)(it:jw)(k1:Bool)(ks:List jw->Bool):Bool:=bif ik.isAny then k1 else
 kC it λf es _=>kN f λy=>y == ik.nm && es.length == ik.ar && glB c y && T.bs.contains y && (tg.tup || !ik.tp) && ks es
def varB (c:Ck)(i:Nat)(e:jw):Bool:=kN e λx=>c.N[i]? == rP x && visB (c.nm.lookup x) && nmOk x
def nmB (c:Ck)(q:String×Bool)(z:jw):Bool:=kN z λn=>n==q.1 && glB c n && (bif q.2 then G.ex.contains n else q.1=="ValueError" && T.bs.contains n)
def nmsB (c:Ck):List (String×Bool)->List jw->Bool
 |[],[]=>rR|q::qs,z::zs=>nmB T G c q z && nmsB c qs zs|_,_=>rS
def clsB (c:Ck)(ns:List (String×Bool))(z:jw):Bool:=match ns with |[q]=>nmB T G c q z |ns=>kT z (nmsB T G c ns)
mutual
def chkE:Ck->X->jw->Bool
 |c,.v i,e=>kN e λx=>c.N[i]? == rP x && visB (c.nm.lookup x) && nmOk x|c,.k d,e=>kK e (constB d)|c,.g x d,e=>kN e λy=>x == y && glB c x && (d.flat?).any λv=>T.gc.contains (x,v)|c,.gt x ls,e=>kN e λy=>x == y && glB c x && G.kt.any (λq=>q.1 == x)| c,.bin o a b,e=>kB e (λl op r=>o.op == rP op && chkE c a l && chkE c b r)||
   (kM e (λl os rs=>kc rs λr t=>os.map rP == [o.cmp] && t.isEmpty && noSet r && chkE c a l && chkE c b r)||
   kS e (λl r=>o.isIx && noSl r && chkE c a l && chkE c b r))
 |c,.ch o o' a b d,e=>kM e λl os rs=>kc rs λr t=>kc t λr' t'=>os.map rP == [o.cmp,o'.cmp] && t'.isEmpty && noSet r' && chkE c a l && chkE c b r && chkE c d r'|c,.and a b,e=>kO .And e λx y l=>noIf x && (!l ||noIf y) && chkE c a x && chkE c b y|c,.or a b,e=>kO .Or e λx y l=>noIf x && (!l ||noIf y) && chkE c a x && chkE c b y|c,.not a,e=>kU e λo x=>o == .Not && noIf x && chkE c a x|c,.ifx d a b,e=>kI e λt x y=>noIf t && chkE c d t && chkE c a x && chkE c b y|c,.sl a lo hi,e=>kS e λl r=>kL r λl1 l2 l3=>l3.isNone && chkE c a l && chkO c lo l1 && chkO c hi l2|c,.tup as,e=>kT e (chkEs c as)|c,.lst as,e=>kW e (chkEs c as)|c,.fld a f,e=>kA e λo f' _=>f == f' && T.at_.contains f && noSup o && chkE c a o|c,.call f x as,e=>kC e λy es _=>kN y λy=>x == y && glB c x && chkEs c as es|c,.bf o as,e=>kC e λy es _=>kN y λy=>y == o.nm && glB c y && T.bs.contains y && !as.isEmpty && chkEs c as es|c,.sm o a as,e=>kC e λr es q=>kA r λr m p=>m == o.nm && noSup r && p.endLine == q.line && decide (es.length<29) && !as.isEmpty && chkE c a r && chkEs c as es| c,.comp lv fr ik src tg d x,e=>kG e λelt gs sc=>gs.length == 1 && gs.all λq=>q.is_async == 0 && scB c sc lv fr && tgOk ⟨cN lv fr,relab c.nm sc.names⟩ tg q.target && locals? ⟨cN lv fr,relab c.nm sc.names⟩ tg && noSet q.iter &&
   srcB T c ik tg q.iter (chk1 c src q.iter) (λes=>chkEs c src es) && chkIf ⟨cN lv fr,relab c.nm sc.names⟩ d q.ifs && chkE ⟨cN lv fr,relab c.nm sc.names⟩ x elt
 |c,.make f k as,e=>kC e λy es _=>kN y λy=>k == y && glB c y && chkEs c as es|c,.meth ms a m as,e=>kC e λr es q=>kA r λr m' p=>m == m' && noSup r && p.endLine == q.line && decide (es.length<29) && chkE c a r && chkEs c as es|c,.fs ps,e=>kJ e λes=>!es.tail.isEmpty && chkJ c ps es|c,.fmt a,e=>kF e λx n f=>n == -1 && f.isNone && chkE c a x|c,.rep a,e=>kF e λx n f=>n == 114 && f.isNone && chkE c a x|c,.tu o a,e=>(match o with
  |.repl l m=>kC e λr es q=>kA r λr n p=>kc es λx t=>kc t λy t=>n=="replace" && t.isEmpty && noSup r && p.endLine==q.line && kK x (λz=>z==.str ⟨#[l]⟩) && kK y (λz=>z==.str ⟨#[m]⟩) && chkE c a r|.rst=>kC e λr es q=>kA r λr n p=>n=="rstrip" && es.isEmpty && noSup r && p.endLine==q.line && chkE c a r|.rev=>kS e λl r=>kL r λa1 a2 a3=>a1.isNone && a2.isNone && a3.any (λu=>kU u λo w=>o == .USub && kK w λz=>z == .int 1) && chkE c a l|.kin x _=>kM e λl os rs=>kc rs λr t=>os == [.NotIn] && t.isEmpty && kN r (λy=>y == x && glB c x) && chkE c a l|.kix x _=>kS e λl r=>kN l (λy=>y == x && glB c x) && noSl r && chkE c a r)
 |c,.isx a ns _,e=>kC e λy es _=>kN y λy=>kc es λx t=>kc t λz t2=>y=="isinstance" && t2.isEmpty && glB c y && T.bs.contains y && noStar x && clsB T G c ns z && chkE c a x|c,.isa a n,e=>kC e λy es _=>kN y λy=>kc es λx t=>kc t λz t2=>kN z λz=>y=="isinstance" && t2.isEmpty && glB c y && T.bs.contains y && noStar x && tyNm n==rP z && glB c z && T.bs.contains z && chkE c a x|c,.ds3 a b d f m u,e=>kDd e λks vs=>kco ks λk kt=>kco kt λl lt=>kco lt λn nt=>kc vs λv vt=>kc vt λw wt=>kc wt λz zt=>nt.isEmpty && zt.isEmpty && chkE c a k && chkE c b v && chkE c d l && chkE c f w && chkE c m n && chkE c u z|_,.dct0,e=>kDi e
def chk1:Ck->List X->jw->Bool
 |_,[],_=>rS|c,a::as,e=>as.isEmpty && chkE c a e
def chkEs:Ck->List X->List jw->Bool
 |_,[],es=>es.isEmpty|c,a::as,es=>kc es λe es=>noStar e && chkE c a e && chkEs c as es
def chkO:Ck->Option X->Option jw->Bool
 |_,rQ,e=>e.isNone|c,rP a,e=>e.any (chkE c a)
def chkIf:Ck->Option X->List jw->Bool
 |_,rQ,es=>es.isEmpty|c,rP a,es=>kc es λe t=>t.isEmpty && noIf e && chkE c a e
def chkJ:Ck->List X->List jw->Bool
 |_,[],es=>es.isEmpty|c,a::as,es=>kc es λe es=>chkE c a e && chkJ c as es
end
end
structure Ch (Z:Cx)(c:Ck):Prop where
 N:Z.N=c.N
 nm:Z.env.scope.names=c.nm
 kind:Z.env.scope.kind=.function
structure Cg (Z:Cx)(c:Ck)(k:Nat)(E:XK):Prop extends Ch Z c where
 calm:Z.calm=rR
 room:Room k Z.A
 pass:Passes (CXx Z.prog Z.w) Z E
 cells:∀x,(c.nm.lookup x=rP .cell\/c.nm.lookup x=rP .free)->∃a,Z.env.cells.lookup x=rP a
section
variable {Z:Cx}{c:Ck}{k:Nat}{E:XK}{x m:Str}{e o:jw}{es:List jw}{t:TE}{ta:TA}{p pos apos:Pos}
theorem Cg.units (g:Cg Z c k E):Z.A.units+60<cLine:=by have:=g.room.un;lia
theorem zj4_ (g:Ch Z c)(h:visB (c.nm.lookup x)=rR):Vis Z.env.scope x:=by
 unfold Vis;rw[g.nm]
 revert h;cases c.nm.lookup x with
 |none=>intro h;cases h
 |some k=>cases k<;>intro h<;>first |exact .inl rfl |exact .inr (.inl rfl)|exact .inr (.inr rfl)|cases h
theorem zgk_ (g:Ch Z c)(h:locB (c.nm.lookup x)=rR):L2.Loc Z.env.scope x:=by
 unfold L2.Loc;rw[g.nm]
 revert h;cases c.nm.lookup x with
 |none=>intro h;cases h
 |some k=>cases k<;>intro h<;>first |exact .inl rfl |exact .inr rfl |cases h
theorem zbY_ (g:Ch Z c)(h:glB c x=rR):Gl Z x/\(x==("__debug__":Str))=rS:=by
 unfold glB at h;rw[iP]at h;refine⟨?_,by simpa using h.2⟩
 unfold Gl oB;rw[g.nm];exact eq_of_beq h.1
structure Rd (Z:Cx)(e:jw)(t:TE):Prop where
 pe:PE Z e t
 pt:noIf e=rR->PT Z e (mTest t)
 pw:∀op vs p,e=.BoolOp op vs p->PW Z e (mTest t)
theorem zc_ (h:PE Z e t)(hp:plainT e=rR):Rd Z e t:=⟨h,λ_=>zjC_ h (zce_ hp),λop vs p z=>by rw[z]at hp;cases hp⟩
theorem rd_if (h:PE Z e t)(hp:noIf e=rS):Rd Z e t:=⟨h,(λz=>by rw[hp]at z;cases z),(λop vs p z=>by rw[z]at hp;cases hp)⟩
theorem zf3_ {a b:jw}{t1 t2:TE}{op:CmpOp}{r:R2}(ho:OpR Z (jX op) r)(ha:Rd Z a t1)(hb:Rd Z b t2)(hs:noSet b=rR):Rd Z (.Compare a [op] [b] pos) (tOp r t1 t2):=
 ⟨zls_ ho ha.pe hb.pe (za5_ hs),λ_=>zjq_ ho ha.pe hb.pe (za5_ hs),λ_ _ _ z=>by cases z⟩
theorem zir_ {a b d:jw}{t1 t2 t3:TE}{op bt:CmpOp}{r r':R2}(ho:OpR Z (jX op) r)(aX:OpR Z (jX bt) r')(ha:Rd Z a t1)(hb:Rd Z b t2)(hd:Rd Z d t3)(hs:noSet d=rR):Rd Z (.Compare a [op,bt] [b,d] pos) (mChain r r' t1 t2 t3):=
 ⟨zfV_ ho aX ha.pe hb.pe hd.pe (za5_ hs),λ_=>zgq_ ho aX ha.pe hb.pe hd.pe (za5_ hs),λ_ _ _ z=>by cases z⟩
theorem zeT_ (t1 t2:TE):mTest (mAndV t1 t2)=mAnd (mTest t1) (mTest t2):=by
 funext σ H Q;exact congrArg (t1 σ H) (funext λx=>funext λH1=>by cases x<;>rfl)
theorem zgE_ (t1 t2:TE):mTest (mOrV t1 t2)=mOr (mTest t1) (mTest t2):=by
 funext σ H Q;exact congrArg (t1 σ H) (funext λx=>funext λH1=>by cases x<;>rfl)
theorem zh3_ (t1:TE):mTest (mNotV t1)=tNot (mTest t1):=by
 funext σ H Q;exact congrArg (t1 σ H) (funext λx=>funext λH1=>by cases x<;>rfl)
theorem zc2_ {op:BoolOp}{vs:List jw}(h:PE Z (.BoolOp op vs pos) t)(h2:PW Z (.BoolOp op vs pos) (mTest t)):Rd Z (.BoolOp op vs pos) t:=⟨h,λ_=>h2.pt,λ_ _ _ _=>h2⟩
theorem zfe_ {a b:jw}{t1 t2:TE}(ha:Rd Z a t1)(hb:Rd Z b t2)(na:noIf a=rR)(nb:noIf b=rR):Rd Z (.BoolOp .And [a,b] pos) (mAndV t1 t2):=
 zc2_ (zg9_ ha.pe (zj6_ hb.pe)) (by rw[zeT_];exact zgU_ (ha.pt na) (zld_ (hb.pt nb)))
theorem ziK_ {a b d:jw}{r:List jw}{t1 t2:TE}(ha:Rd Z a t1)(hb:Rd Z (.BoolOp .And (b::d::r) pos) t2)(na:noIf a=rR):Rd Z (.BoolOp .And (a::b::d::r) pos) (mAndV t1 t2):=
 zc2_ (zg9_ ha.pe hb.pe) (by rw[zeT_];exact zgU_ (ha.pt na) (hb.pw _ _ _ rfl))
theorem zjD_ {a b:jw}{t1 t2:TE}(ha:Rd Z a t1)(hb:Rd Z b t2)(na:noIf a=rR)(nb:noIf b=rR):Rd Z (.BoolOp .Or [a,b] pos) (mOrV t1 t2):=
 zc2_ (zjt_ ha.pe (zj6_ hb.pe)) (by rw[zgE_];exact zkp_ (ha.pt na) (znu_ (hb.pt nb)))
theorem rd_or {a b d:jw}{r:List jw}{t1 t2:TE}(ha:Rd Z a t1)(hb:Rd Z (.BoolOp .Or (b::d::r) pos) t2)(na:noIf a=rR):Rd Z (.BoolOp .Or (a::b::d::r) pos) (mOrV t1 t2):=
 zc2_ (zjt_ ha.pe hb.pe) (by rw[zgE_];exact zkp_ (ha.pt na) (hb.pw _ _ _ rfl))
theorem zlm_ {a:jw}{t1:TE}(ha:Rd Z a t1)(na:noIf a=rR):Rd Z (.UnaryOp .Not a pos) (mNotV t1):=
 ⟨zlI_ ha.pe,λ_=>by rw[zh3_];exact zoF_ (ha.pt na),λ_ _ _ z=>by cases z⟩
theorem zoO_ {b:Bo}{op:Operator}(h:b.op=rP op):OpR Z (lO op) (b.r Z.K):=by
 cases b<;>cases h
 ·exact zjd_
 ·exact zlP_
 ·exact zjg_
 ·exact zi8_
 ·exact zkm_
theorem zeM_ (hu:Z.A.units+60<cLine){b:Bo}{op:CmpOp}(h:b.cmp=rP op):OpR Z (jX op) (b.r Z.K):=by
 cases b<;>cases h
 ·exact zmd_
 ·exact zoI_
 ·exact znA_
 ·exact znV_ hu
 ·exact zol_ hu
 ·exact zfq_
 ·exact zof_ hu
 ·exact zgs_ hu
theorem zeW_ {d:D}{kc:Const}{j:Nat}(h:constB d kc=rR):PE Z (.Constant kc j pos) (tC (d.flat?.getD .non)):=by
 cases kc with
 |int i=>cases d<;>first |(cases eq_of_beq h;exact zkH_)|cases h
 |bool b=>cases d<;>first |(cases eq_of_beq h;exact pe_bl)|cases h
 |none=>cases d<;>first |exact znK_ |cases h
 |str z=>cases d<;>first |(have h:=eq_of_beq h;subst h;exact zoE_ (by cases z;rfl))|cases h
 |_=>cases h
theorem zej_ {sp:Sp}{ps:List Str}{j:Nat}(F:Gd Z.prog Z.w Z.K Z.mg Z.base (CXx Z.prog Z.w) j x ps sp)(hr:Room j Z.A)(hx:Passes (CXx Z.prog Z.w) Z E)(ha:PA Z es ta)(hs:es.all noStar=rR)(hg:Gl Z x)(hd:(x==("__debug__":Str))=rS)(h0:es=[]->ta=tNil):
  PE Z (.Call (.Name x p) es [] pos) (tCall sp [] E ta):=by
 cases es with
 |nil=>
  rw[h0 rfl];obtain⟨f,fd,F,hm,hk,hb⟩:=F;exact ziU_ F hr hg hm hk hb .nil hx hd
 |cons e es=>
  rw[jY,iP]at hs;obtain⟨f,fd,F,hm,hk,hb⟩:=F;exact zlF_ F hr hg hm hk hb .nil hx ha hd (zd_ hs.1) (zG_ hs.2)
theorem zhV_ {sp:Sp}{ps:List Str}{j:Nat}{C:i9}(F:Gk Z.prog Z.w Z.K Z.mg Z.base (CXx Z.prog Z.w) j x C ps sp)(hr:Room (j+1) Z.A)(hx:Passes (CXx Z.prog Z.w) Z E)(ha:PA Z es ta)(hs:es.all noStar=rR)(hg:Gl Z x)(hd:(x==("__debug__":Str))=rS)(h0:es=[]->ta=tNil):
  PE Z (.Call (.Name x p) es [] pos) (tMake C sp [] E ta):=by
 cases es with
 |nil=>
  rw[h0 rfl];obtain⟨f,fd,F,M,hm,hb⟩:=F;exact zif_ M F hr hg hm hb .nil hx hd
 |cons e es=>
  rw[jY,iP]at hs;obtain⟨f,fd,F,M,hm,hb⟩:=F;exact zjF_ M F hr hg hm hb .nil hx ha hd (zd_ hs.1) (zG_ hs.2)
theorem zic_ {sp:Sp}{ps:List Str}{j:Nat}{C:i9}(F:Gm Z.prog Z.w Z.K Z.mg Z.base (CXx Z.prog Z.w) j C m ps sp)(hr:Room j Z.A)(hx:Passes (CXx Z.prog Z.w) Z E)(ho:PE Z o t)(ha:PA Z es ta)(hs:es.all noStar=rR)(hb:noSup o=rR)(hl:(apos.endLine == pos.line)=rR)(hn:es.length<29)(h0:es=[]->ta=tNil):
  PE Z (.Call (.Attribute o m apos) es [] pos) (tMeth C m sp [] E t ta):=by
 have eE:=zgA_ (env:=Z.env) (m:=m) hb hl hs hn;cases es with
 |nil=>
  rw[h0 rfl];obtain⟨f,fd,F,c,hm,hb⟩:=F;exact zhu_ ho c hm F hr hb .nil hx eE
 |cons e es=>
  rw[jY,iP]at hs;obtain⟨f,fd,F,c,hm,hb⟩:=F;exact zkk_ ho c hm F hr hb .nil hx ha (zd_ hs.1) (zG_ hs.2) eE
theorem bf_pe (g:Cg Z c k E){b:Bf}(hm:Z.mg b.nm=rQ)(ha:PA Z es ta)(hs:es.all noStar=rR)(h0:es≠[])(hg:glB c b.nm=rR):PE Z (.Call (.Name b.nm p) es [] pos) (tCB (b.r Z.K) ta):=by
 obtain⟨g1,g2⟩:=zbY_ g.toCh hg;cases es with
 |nil=>exact absurd rfl h0|cons e es=>
  rw[jY,iP]at hs;have s1:=zd_ (env:=Z.env) (es:=es) hs.1;have s2:=zG_ (env:=Z.env) (pos:=pos) hs.2;cases b with
  |len=>exact zlb_ zgr_ hm ha g1 rfl (by decide) g2 s1 s2|list=>exact pe_tf "list" (zeu_ g.calm) hm ha g1 rfl (by decide) g2 s1 s2|str=>exact pe_tf "str" zfo_ hm ha g1 rfl (by decide) g2 s1 s2|all=>exact zlb_ (zfF_ g.calm) hm ha g1 rfl (by decide) g2 s1 s2
theorem sm_pe {b:Sm}(ho:PE Z o t)(ha:PA Z es ta)(hs:es.all noStar=rR)(hb:noSup o=rR)(hl:(apos.endLine==pos.line)=rR)(hn:es.length<29)(h0:es≠[]):PE Z (.Call (.Attribute o b.nm apos) es [] pos) (tBM Z.K "str" (b.r Z.K) t ta):=by
 cases es with
 |nil=>exact absurd rfl h0|cons e es=>
  have f:=ziH_ (env:=Z.env) (pos:=pos) hs hn;rw[jY,iP]at hs;have s1:=zd_ (env:=Z.env) (es:=es) hs.1;have s2:=zG_ (env:=Z.env) (pos:=pos) hs.2;have b0:=λn=>zbv_ (env:=Z.env) (m:=n) hb
  cases b with
  |join=>exact zmW_ zdG_ zdI_ zlE_ ho ha (b0 _) f hl s1 s2|split=>exact zmW_ zcP_ zcy_ zfN_ ho ha (b0 _) f hl s1 s2|ljust=>exact zmW_ zcp_ zcF_ ziC_ ho ha (b0 _) f hl s1 s2
variable {T:Ft}{G:Gi}
theorem za7_ {cells:List (Str×i9)}:∀(names:List (Str×lT)) (acc:List (Str×i9)),(∀y∈names,y.2=.free->∃a,cells.lookup y.1=rP a)->∃cl,closeL cells names acc=rP cl
 |[],acc,_=>⟨acc,rfl⟩|(n,k)::r,acc,h=>by
  unfold closeL;split
  ·rename_i hk
   obtain⟨a,ha⟩:=h (n,k) (je ..) (eq_of_beq hk);rw[show cells.lookup n=rP a from ha]
   exact za7_ r _ λy hy=>h y (ji _ hy)
  ·exact za7_ r _ λy hy=>h y (ji _ hy)
theorem zco_ (g:Cg Z c k E){sc:Scope}:(relabel sc Z.env).names=relab c.nm sc.names:=by
 unfold relabel relab oB;rw[g.kind,g.nm];simp
theorem zeQ_ (g:Cg Z c k E){sc:Scope}{lv:List Str}{fr:List (Str×Nat)}(h:scB c sc lv fr=rR):
  (cN lv fr).Nodup/\∃cl,CScope Z sc cl lv fr/\∀C fp s2 H2,Cg (cxComp Z sc cl C (cN lv fr) fp s2 H2) ⟨cN lv fr,relab c.nm sc.names⟩ k E0:=by
 unfold scB at h;rw[iP,iP,iP]at h;obtain⟨⟨⟨h1,h2⟩,h3⟩,h4⟩:=h;have h1:=ky.mp h1;have h3:=ky.mp h3;have h2:sc.kind=.function:=eq_of_beq h2;have hc:∀y∈sc.names,y.2≠.cell:=λy hy=>by have:=h1 y hy;simp at this;exact this.1.1
 have hf:∀y∈sc.names,y.2=.free->c.nm.lookup y.1=rP .cell\/c.nm.lookup y.1=rP .free:=λy hy z=>by
  have:=h1 y hy;simp[z]at this;exact this
 obtain⟨cl,aY⟩:=za7_ (cells:=Z.env.cells) sc.names [] λy hy z=>g.cells _ (hf y hy z)
 refine⟨of_decide_eq_true h4,cl,⟨aY,hc,h2,λz hz e=>?_,λq hq=>?_⟩,λC fp s2 H2=>⟨⟨rfl,zco_ g,h2⟩,g.calm,g.room,passX0,λx hx=>?_⟩⟩
 ·have:=h1 z hz;simp[e]at this;exact this
 ·have:=h3 q hq
  simp at this;obtain⟨⟨⟨a,b⟩,d⟩,e⟩:=this;unfold oB;rw[g.N,g.nm,zco_ g];exact⟨a,b,d,e⟩
 ·have hx:(relabel sc Z.env).names.lookup x=rP .cell\/(relabel sc Z.env).names.lookup x=rP .free:=by rw[zco_ g];exact hx
  have hm:(x,NameKind.free)∈sc.names:=hx.elim (λz=>zan_ z (.inl rfl) hc) λz=>zan_ z (.inr rfl) hc
  exact zaJ_ sc.names [] cl aY x (.inl hm)
theorem zdQ_ (g:Ch Z c)(nd:c.N.Nodup){i:Nat}(hf:(∀x,Z.fn x=rR)\/∀x,c.N[i]?=rP x->c.nm.lookup x=rP .local)(h:tgB c i e=rR):PG Z e (gName i)/\∃x p,e=.Name x p:=by
 unfold tgB at h;split at h
 ·rename_i x p
  rw[iP]at h;have hi:c.N[i]?=rP x:=eq_of_beq h.1;exact⟨zki_ (by rw[g.N];exact nd) (by rw[g.N];exact hi) (zgk_ g h.2) (hf.elim (λz=>.inl (z x)) λz=>.inr (by rw[g.nm];exact z x hi)),x,p,rfl⟩
 ·cases h
theorem zhE_ (g:Cg Z c k E)(nd:c.N.Nodup):∀{is:List Nat}{es:List jw},((∀x,Z.fn x=rR)\/∀i∈is,∀x,c.N[i]?=rP x->c.nm.lookup x=rP .local)->tgsB c is es=rR->PGs Z es (tgS is)/\(kP es Z.env).length=is.length/\(kP es Z.env).findIdx? (·.1)=rQ
 |[],[],_,_=>⟨zhp_,rfl,rfl⟩|[],_::_,_,h=>by cases h
 |_::_,[],_,h=>by cases h
 |i::is,e::es,hf,h=>by
  unfold tgsB at h;rw[iP]at h;obtain⟨h1,x,p,rfl⟩:=zdQ_ g.toCh nd (i:=i) (hf.imp id λz=>z i (je ..)) h.1
  obtain⟨a,b,d⟩:=zhE_ g nd (is:=is) (es:=es) (hf.imp id λz j hj=>z j (ji _ hj)) h.2
  refine⟨zfr_ h1 a,?_,?_⟩
  ·show(kP es Z.env).length+1=_;rw[b];rfl
  ·show List.findIdx? _ ((rS,_)::kP es Z.env)=rQ
   rw[List.findIdx?_cons];simp[d]
theorem tg_ok (g:Cg Z c k E)(nd:c.N.Nodup){tg:Tg}(hf:(∀x,Z.fn x=rR)\/locals? c tg=rR)(h:tgOk c tg e=rR):PG Z e (tgT Z.K tg):=by
 have hf:(∀x,Z.fn x=rR)\/∀i∈tg.is,∀x,c.N[i]?=rP x->c.nm.lookup x=rP .local:=hf.imp id λz i hi x hx=>by
  have:=ky.mp z i hi;rw[hx]at this;exact eq_of_beq this
 unfold tgOk at h;unfold tgT;split at h
 ·rename_i es _ _ ht
  rw[if_pos ht];obtain⟨a,b,d⟩:=zhE_ g nd hf h;intro pins s σ H v u Q I r h;rcases h with h |⟨h2,h⟩
  ·exact zja_ g.calm a b d pins s σ H v u Q I r h
  ·exact zkV_ g.calm a (b.trans h2) d pins s σ H v u Q I r h
 ·rename_i ht
  rw[if_neg (by rw[ht];decide)]
  rw[iP]at h;refine(zdQ_ g.toCh nd (hf.imp id λz=>?_) h.2).1
  have hl:=eq_of_beq h.1;cases hi:tg.is with
  |nil=>rw[hi]at hl;cases hl|cons i r=>rw[hi]at z;exact z i (je ..)
 ·cases h
theorem zll_ {f:Str}(hc:∀d∈G.cs,Cls Z.K (gA Z.K d)/\NoAttr Z.K (gA Z.K d) f)(he:PE Z e t)(hb:noSup e=rR):PE Z (.Attribute e f pos) (tFld Z.K G.cs t f):=by
 intro pins s σ H Q I h;obtain⟨d,hd,h⟩:=h;exact zkF_ (hc d hd).1 (hc d hd).2 he (zbv_ hb) pins s σ H Q I h
theorem ziI_ {ms:List (Str×Fn)}(hm:∀q∈ms,∃ps j,j<=k/\Gm Z.prog Z.w Z.K Z.mg Z.base (CXx Z.prog Z.w) j (gA Z.K q.1) m ps (CtG Z.K q.2))(hr:Room k Z.A)(hx:Passes (CXx Z.prog Z.w) Z E)(ho:PE Z o t)(ha:PA Z es ta)(hs:es.all noStar=rR)(hb:noSup o=rR)(hl:(apos.endLine == pos.line)=rR)(hn:es.length<29)(h0:es=[]->ta=tNil):
  PE Z (.Call (.Attribute o m apos) es [] pos) (tMethA Z.K ms m E t ta):=by
 intro pins s σ H Q I h;obtain⟨q,hq,h⟩:=h;obtain⟨ps,j,hj,F⟩:=hm q hq;exact zic_ F (hr.mono hj) hx ho ha hs hb hl hn h0 pins s σ H Q I h
theorem zoM_ (g:Cg Z c k E){n:String}{y:Str}{p1 p2:Pos}(ha:PE Z e t)(he:noStar e=rR)(h1:glB c "isinstance"=rR)(h2:Z.mg "isinstance"=rQ)(hn:tyNm n=rP y)(h3:glB c y=rR)(h4:Z.mg y=rQ):PE Z (.Call (.Name "isinstance" p1) [e,.Name y p2] [] pos) (tCB (mIsaV Z.K) (tCons t (tCons (tC (.ty n)) tNil))):=by
 obtain⟨g1,g2⟩:=zbY_ g.toCh h1;obtain⟨g3,g4⟩:=zbY_ g.toCh h3;have hb:lP y=rP (.type n)/\y ≠ "__name__":=by
  unfold tyNm at hn;split at hn<;>cases hn<;>exact⟨rfl,by decide⟩
 exact zlb_ zf2_ h2 (zaa_ ha (zaa_ (pe_ty n h4 g3 hb.1 hb.2 g4) zcw_ (zd_ rfl)) (zd_ he)) g1 rfl (by decide) g2 (zd_ he) (zG_ rfl)
theorem nm_pe (fo:T.Ok G Z.K Z.mg)(g:Ch Z c){q:String×Bool}{z:jw}(h:nmB T G c q z=rR):PE Z z (tC (clV Z.K q))/\noStar z=rR:=by
 unfold nmB at h;apply kN_ h;intro n p h;simp only[iP]at h;obtain⟨⟨h1,h2⟩,h3⟩:=h;obtain⟨g1,g2⟩:=zbY_ g h2;refine⟨?_,rfl⟩;obtain⟨m,b⟩:=q;cases eq_of_beq h1;cases b with
 |true=>exact zmw_ (fo.ex _ (by simpa using h3)) g1 g2|false=>
  have h3:=jP.mp h3;have hn:m="ValueError":=eq_of_beq h3.1;subst hn;exact pe_ty "ValueError" (fo.bs _ (by simpa using h3.2)) g1 rfl (by decide) g2
theorem zkY_ (fo:T.Ok G Z.K Z.mg)(g:Ch Z c):∀{ns:List (String×Bool)}{es:List jw},nmsB T G c ns es=rR->PA Z es (tCsts (ns.map (clV Z.K)))
 |[],[],_=>zcw_|q::ns,z::es,h=>by
  obtain⟨h1,h2⟩:=jP.mp h;obtain⟨a,b⟩:=nm_pe fo g h1;exact zaa_ a (zkY_ fo g h2) (zd_ b)
theorem zkz_ (fo:T.Ok G Z.K Z.mg)(g:Ch Z c){ns:List (String×Bool)}{z:jw}{p1:Pos}(ha:PE Z e t)(he:noStar e=rR)(h1:glB c "isinstance"=rR)(h2:Z.mg "isinstance"=rQ)(h:clsB T G c ns z=rR):PE Z (.Call (.Name "isinstance" p1) [e,z] [] pos) (tIsx Z.K ns t):=by
 obtain⟨g1,g2⟩:=zbY_ g h1;have tu:∀ns,kT z (nmsB T G c ns)=rR->PE Z (.Call (.Name "isinstance" p1) [e,z] [] pos) (tCB (mIsaXT Z.K ns) (tCons t (tCons (tTup (tCsts (ns.map (clV Z.K)))) tNil))):=λns h=>by
  apply kT_ h;intro es n p h;exact zlb_ (zfd_ ns) h2 (zaa_ ha (zaa_ (ziQ_ (zkY_ fo g h)) zcw_ (zd_ rfl)) (zd_ he)) g1 rfl (by decide) g2 (zd_ he) (zG_ rfl)
 match ns,h with
 |[q],h=>
  obtain⟨a,b⟩:=nm_pe fo g h;exact zlb_ zfW_ h2 (zaa_ ha (zaa_ a zcw_ (zd_ b)) (zd_ he)) g1 rfl (by decide) g2 (zd_ he) (zG_ (by rw[jY,b];rfl))
 |[],h=>exact tu [] h|q::q'::ns,h=>exact tu (q::q'::ns) h
theorem os1 {os:List CmpOp}{a:Option CmpOp}(h:[a]=os.map rP):∃x,a=rP x/\os=[x]:=by
 cases os with
 |nil=>cases h|cons x l=>cases l with |nil=>cases h;exact⟨x,rfl,rfl⟩|cons=>cases h
theorem os2 {os:List CmpOp}{a b:Option CmpOp}(h:[a,b]=os.map rP):∃x y,a=rP x/\b=rP y/\os=[x,y]:=by
 cases os with
 |nil=>cases h|cons x l=>
  obtain⟨y,rfl,rfl⟩:=os1 (qt h).2;exact⟨x,y,(qt h).1,rfl,rfl⟩
theorem zg_:∀{as:List X}{es:List jw},chkEs T G c as es=rR->es.all noStar=rR/\(es=[]↔as=[])
 |[],es,h=>by
  unfold chkEs at h;rw[jH.mp h];exact⟨rfl,Iff.rfl.trans ⟨λ_=>rfl,λ_=>rfl⟩⟩
 |a::as,es,h=>by
  apply kc_ h;intro e es h;simp only[iP]at h;exact⟨by rw[jY,h.1.1,(zg_ h.2).1];rfl,(λz=>by cases z),(λz=>by cases z)⟩
theorem zcQ_ {K:jG}{as:List X}(h:chkEs T G c as es=rR)(h0:es=[]):X.dens K G E as=tNil:=by rw[(zg_ h).2.mp h0,X.dens]
theorem zdA_ {as:List X}(h:chkEs T G c as es=rR)(h0:(!as.isEmpty)=rR):es≠[]:=λz=>by
 rw[(zg_ h).2.mp z]at h0;cases h0
theorem zfJ_ {os:List CmpOp}{l:List (Option CmpOp)}(h:(os.map rP == l)=rR):l=os.map rP:=(eq_of_beq h).symm
abbrev AllH (Z:Cx)(k:Nat)(l:List Fc):Prop:=∀φ∈l,φ.H Z.prog Z.w Z.K Z.mg Z.base k
theorem AllH.l {a b:List Fc}(h:AllH Z k (a++b)):AllH Z k a:=λφ aG=>h φ (kj _ aG)
theorem AllH.r {a b:List Fc}(h:AllH Z k (a++b)):AllH Z k b:=λφ aG=>h φ (jr _ aG)
theorem zjV_ {tg:Tg}(h:tgOk c tg e=rR)(ht:tg.tup=rR):∃es k p,e=.Tuple es k p:=by
 unfold tgOk at h;split at h
 ·exact⟨_,_,_,rfl⟩
 ·rename_i z;rw[z]at ht;cases ht
 ·cases h
theorem zlD_ {ik:Ik}{src:List X}{tg:Tg}{t it:jw}{k1:Bool}{ks:List jw->Bool}(fo:T.Ok G Z.K Z.mg)(g:Cg Z c k E)(h3:tg.tup=rR->∃es k p,t=.Tuple es k p)(h:srcB T c ik tg it k1 ks=rR)
  (H0:k1=rR->∃s,src=[s]/\PE Z it (s.den Z.K G E)) (H1:∀es,ks es=rR->PA Z es (X.dens Z.K G E src)/\es.all noStar=rR):PI Z t it (ik.t Z.K (X.dens Z.K G E src)):=by
 unfold srcB at h;cases ha:ik.isAny with
 |true=>
  rw[ha,cond_true]at h;obtain⟨s,rfl,hs⟩:=H0 h;cases ik<;>first |exact znL_ hs |cases ha
 |false=>
  rw[ha,cond_false]at h;apply kC_ h;intro f es q h;apply kN_ h;intro y p h;simp only[iP]at h;obtain⟨⟨⟨⟨⟨h1,h2⟩,h4⟩,h5⟩,h6⟩,h7⟩:=h;obtain⟨pa,st⟩:=H1 es h7;have b:=fo.bs y (by simpa using h5)
  have gl:=(zbY_ g.toCh h4).1;have hy:=eq_of_beq h1;have hl:=eq_of_beq h2;have tp:ik.tp=rR->∃es k p,t=.Tuple es k p:=λz=>h3 (by rw[z]at h6;simpa using h6)
  have sm:=zbj_ (env:=Z.env) st;cases ik with
  |any=>cases ha|r1=>obtain⟨a,rfl⟩:=lQ.mp hl;cases hy;exact zh8_ b pa gl sm
theorem zgX_ (lv:List Str)(fr:List (Str×Nat))(ik:Ik)(src:List X)(tg:Tg)(d:Option X)(x:X)
  (H0:∀{Z:Cx}{c:Ck}{E:XK}{e:jw},T.Ok G Z.K Z.mg->Cg Z c k E->AllH Z k (X.fcss src)->chk1 T G c src e=rR->∃s,src=[s]/\PE Z e (s.den Z.K G E))
  (H1:∀{Z:Cx}{c:Ck}{E:XK}{es:List jw},T.Ok G Z.K Z.mg->Cg Z c k E->AllH Z k (X.fcss src)->chkEs T G c src es=rR->PA Z es (X.dens Z.K G E src))
  (H2:∀{Z:Cx}{c:Ck}{E:XK}{es:List jw},T.Ok G Z.K Z.mg->Cg Z c k E->AllH Z k (X.fcsO d)->chkIf T G c d es=rR->PIf Z es (X.denT Z.K G E d))
  (H3:∀{Z:Cx}{c:Ck}{E:XK}{e:jw},T.Ok G Z.K Z.mg->Cg Z c k E->AllH Z k x.fcs->chkE T G c x e=rR->Rd Z e (x.den Z.K G E)):∀{Z:Cx}{c:Ck}{E:XK}{e:jw},T.Ok G Z.K Z.mg->Cg Z c k E->AllH Z k (X.comp lv fr ik src tg d x).fcs->chkE T G c (.comp lv fr ik src tg d x) e=rR ->
  ∃t it ifs elt sc pos,e=.ListComp elt [⟨t,it,ifs,0⟩] sc pos/\∃cl,CScope Z sc cl lv fr/\PI Z t it (ik.t Z.K (X.dens Z.K G E src))/\(∀C fp s2 H2,PG (cxComp Z sc cl C (cN lv fr) fp s2 H2) t (tgT Z.K tg)) /\
   (∀C fp s2 H2,PIf (cxComp Z sc cl C (cN lv fr) fp s2 H2) ifs (X.denT Z.K G E0 d))/\(∀C fp s2 H2,PE (cxComp Z sc cl C (cN lv fr) fp s2 H2) elt (x.den Z.K G E0))/\noSet it=rR:=by
 intro Z c E e fo g fs h;apply kG_ h;intro elt gs sc pos h;rw[iP]at h;obtain⟨⟨t,it,ifs,as⟩,rfl⟩:=lQ.mp (eq_of_beq h.1);have h:=h.2;rw[jY,List.all_nil,Bool.and_true]at h;simp only[iP]at h;obtain⟨⟨⟨⟨⟨⟨⟨h1,h2⟩,h3⟩,h4⟩,h5⟩,h6⟩,h7⟩,h8⟩:=h;cases eq_of_beq h1;obtain⟨nd,cl,S,cg⟩:=zeQ_ g h2
 exact⟨t,it,ifs,elt,sc,pos,rfl,cl,S,zlD_ fo g (zjV_ h3) h6 (H0 fo g fs.l) λes z=>⟨H1 fo g fs.l z,(zg_ z).1⟩,λC fp s2 H2=>tg_ok (Z:=cxComp Z sc cl C (cN lv fr) fp s2 H2) (cg C fp s2 H2) nd (.inr h4) h3,λC fp s2 gF=>H2 (Z:=cxComp Z sc cl C (cN lv fr) fp s2 gF) fo (cg C fp s2 gF) fs.r.l h7,
   λC fp s2 H2=>(H3 (Z:=cxComp Z sc cl C (cN lv fr) fp s2 H2) fo (cg C fp s2 H2) fs.r.r h8).pe,h5⟩
mutual
theorem za_:∀(x:X) {Z:Cx}{c:Ck}{E:XK}{e:jw},T.Ok G Z.K Z.mg->Cg Z c k E->AllH Z k x.fcs->chkE T G c x e=rR->Rd Z e (x.den Z.K G E)
 |.v i,Z,c,E,e,fo,g,fs,h=>by
  apply kN_ h;intro x p h;rw[iP,iP]at h;have h3:=h.2;unfold nmOk at h3;rw[iP]at h3;exact zc_ (zgZ_ i (by rw[g.N];exact eq_of_beq h.1.1) (zj4_ g.toCh h.1.2) (by simpa using h3.1) (by simpa using h3.2)) rfl
 |.k d,Z,c,E,e,fo,g,fs,h=>by
  apply kK_ h;intro x n p h;exact zc_ (zeW_ h) rfl
 |.g x d,Z,c,E,e,fo,g,fs,h=>by
  show Rd Z e (tC (d.flat?.getD .non))
  apply kN_ h;intro y p h;rw[iP,iP]at h;cases eq_of_beq h.1.1;obtain⟨g1,g2⟩:=zbY_ g.toCh h.1.2;have h2:=h.2;cases hv:d.flat? with
  |none=>rw[hv]at h2;cases h2|some v=>rw[hv]at h2;exact zc_ (zmw_ (fo.gc _ (by simpa using h2)) g1 g2) rfl
 |.gt x ls,Z,c,E,e,fo,g,fs,h=>by
  apply kN_ h;intro y p h;rw[iP,iP]at h;cases eq_of_beq h.1.1;obtain⟨g1,g2⟩:=zbY_ g.toCh h.1.2;obtain⟨q,hq,e⟩:=m8.mp h.2;have:=fo.kt q hq;rw[eq_of_beq e]at this;exact zc_ (zmw_ this g1 g2) rfl
 |.bin o a b,Z,c,E,e,fo,g,fs,h=>by
  rcases(lC _ _).mp h with h |h
  rotate_left
  rcases(lC _ _).mp h with h |h
  rotate_right
  ·apply kB_ h;intro l op r p h
   simp only[iP]at h;exact zc_ (zn8_ (zoO_ (eq_of_beq h.1.1)) (za_ a fo g fs.l h.1.2).pe (za_ b fo g fs.r h.2).pe) rfl
  ·apply kM_ h;intro l os rs p h
   apply kc_ h;intro r t h;simp only[iP]at h;cases jH.mp h.1.1.1.2;obtain⟨op,ho,rfl⟩:=os1 (zfJ_ h.1.1.1.1);exact zf3_ (zeM_ g.units ho) (za_ a fo g fs.l h.1.2) (za_ b fo g fs.r h.2) h.1.1.2
  ·apply kS_ h;intro l r p h
   simp only[iP]at h;have ho:o=.ix:=by
    have:=h.1.1.1;cases o<;>first |rfl |cases this
   subst ho;exact zc_ (zmN_ (ix_A g.units) (za_ a fo g fs.l h.1.2).pe (za_ b fo g fs.r h.2).pe (zct_ h.1.1.2)) rfl
 |.ch o o' a b d,Z,c,E,e,fo,g,fs,h=>by
  apply kM_ h;intro l os rs p h;apply kc_ h;intro r t h;apply kc_ h;intro r' t' h;simp only[iP]at h;cases jH.mp h.1.1.1.1.2;obtain⟨op,bt,h1,h2,rfl⟩:=os2 (zfJ_ h.1.1.1.1.1);exact zir_ (zeM_ g.units h1) (zeM_ g.units h2) (za_ a fo g fs.l h.1.1.2) (za_ b fo g fs.r.l h.1.2) (za_ d fo g fs.r.r h.2) h.1.1.1.2
 |.and a b,Z,c,E,e,fo,g,fs,h=>by
  apply kO_ h;intro x y l p h;simp only[iP]at h;cases l with
  |nil=>exact zfe_ (za_ a fo g fs.l h.1.2) (za_ b fo g fs.r h.2) h.1.1.1 h.1.1.2|cons z l=>exact ziK_ (za_ a fo g fs.l h.1.2) (za_ b fo g fs.r h.2) h.1.1.1
 |.or a b,Z,c,E,e,fo,g,fs,h=>by
  apply kO_ h;intro x y l p h;simp only[iP]at h;cases l with
  |nil=>exact zjD_ (za_ a fo g fs.l h.1.2) (za_ b fo g fs.r h.2) h.1.1.1 h.1.1.2|cons z l=>exact rd_or (za_ a fo g fs.l h.1.2) (za_ b fo g fs.r h.2) h.1.1.1
 |.not a,Z,c,E,e,fo,g,fs,h=>by
  apply kU_ h;intro o x p h;simp only[iP]at h;cases eq_of_beq h.1.1;exact zlm_ (za_ a fo g fs h.2) h.1.2
 |.ifx d a b,Z,c,E,e,fo,g,fs,h=>by
  apply kI_ h;intro t x y p h;simp only[iP]at h;exact rd_if (zos_ ((za_ d fo g fs.l h.1.1.2).pt h.1.1.1) (za_ a fo g fs.r.l h.1.2).pe (za_ b fo g fs.r.r h.2).pe) rfl
 |.sl a lo hi,Z,c,E,e,fo,g,fs,h=>by
  apply kS_ h;intro l r p h;apply kL_ h;intro l1 l2 l3 q h;simp only[iP]at h;cases kf.mp h.1.1.1;exact zc_ (zhF_ sl_A (za_ a fo g fs.l h.1.1.2).pe (zgW_ lo fo g fs.r.l h.1.2) (zgW_ hi fo g fs.r.r h.2)) rfl
 |.tup as,Z,c,E,e,fo,g,fs,h=>by
  apply kT_ h;intro es n p h;exact zc_ (ziQ_ (zw_ as fo g fs h)) rfl
 |.lst as,Z,c,E,e,fo,g,fs,h=>by
  apply kW_ h;intro es p h;exact zc_ (zkU_ (zw_ as fo g fs h)) rfl
 |.fld a f,Z,c,E,e,fo,g,fs,h=>by
  apply kA_ h;intro o f' p h;simp only[iP]at h;cases eq_of_beq h.1.1.1;exact zc_ (zll_ (λd hd=>⟨fo.cls d hd,fo.at_ d hd _ (by simpa using h.1.1.2)⟩) (za_ a fo g fs h.2).pe h.1.2) rfl
 |.call f x as,Z,c,E,e,fo,g,fs,h=>by
  apply kC_ h;intro y es q h;apply kN_ h;intro y p h;simp only[iP]at h;cases eq_of_beq h.1.1;obtain⟨g1,g2⟩:=zbY_ g.toCh h.1.2;obtain⟨ps,j,hj,F⟩:=fs _ (je ..);exact zc_ (zej_ F (g.room.mono hj) g.pass (zw_ as fo g (λφ aG=>fs φ (ji _ aG)) h.2) (zg_ h.2).1 g1 g2 (zcQ_ h.2)) rfl
 |.bf o as,Z,c,E,e,fo,g,fs,h=>by
  apply kC_ h;intro y es q h;apply kN_ h;intro y p h;simp only[iP]at h;cases eq_of_beq h.1.1.1.1;exact zc_ (bf_pe g (fo.bs _ (by simpa using h.1.1.2)) (zw_ as fo g fs h.2) (zg_ h.2).1 (zdA_ h.2 h.1.2) h.1.1.1.2) rfl
 |.sm o a as,Z,c,E,e,fo,g,fs,h=>by
  apply kC_ h;intro y es q h;apply kA_ h;intro r m p h;simp only[iP]at h;cases eq_of_beq h.1.1.1.1.1.1;exact zc_ (sm_pe (za_ a fo g fs.l h.1.2).pe (zw_ as fo g fs.r h.2) (zg_ h.2).1 h.1.1.1.1.1.2 h.1.1.1.1.2 (of_decide_eq_true h.1.1.1.2) (zdA_ h.2 h.1.1.2)) rfl
 |.comp lv fr ik src tg d x,Z,c,E,e,fo,g,fs,h=>by
  obtain⟨t,it,ifs,elt,sc,pos,rfl,cl,S,q1,q2,q3,q4,q5⟩:=zgX_ lv fr ik src tg d x (zdS_ src) (zw_ src) (zdO_ d) (za_ x) fo g fs h;exact zc_ (zj5_ g.calm S q1 q2 q3 q4 (zbC_ q5)) rfl
 |.make f d as,Z,c,E,e,fo,g,fs,h=>by
  apply kC_ h;intro y es q h;apply kN_ h;intro y p h;simp only[iP]at h;cases eq_of_beq h.1.1;obtain⟨g1,g2⟩:=zbY_ g.toCh h.1.2;obtain⟨ps,j,hj,F⟩:=fs _ (je ..);exact zc_ (zhV_ F (g.room.mono hj) g.pass (zw_ as fo g (λφ aG=>fs φ (ji _ aG)) h.2) (zg_ h.2).1 g1 g2 (zcQ_ h.2)) rfl
 |.meth ms a m as,Z,c,E,e,fo,g,fs,h=>by
  apply kC_ h;intro y es q h;apply kA_ h;intro r m p h;simp only[iP]at h;cases eq_of_beq h.1.1.1.1.1;exact zc_ (ziI_ (λq hq=>fs.l _ (j4.mpr ⟨q,hq,rfl⟩)) g.room g.pass (za_ a fo g fs.r.l h.1.2).pe (zw_ as fo g fs.r.r h.2) (zg_ h.2).1 h.1.1.1.1.2 h.1.1.1.2 (of_decide_eq_true h.1.1.2) (zcQ_ h.2)) rfl
 |.fs ps,Z,c,E,e,fo,g,fs,h=>by
  apply kJ_ h;intro es p h;rw[iP]at h;cases es with
  |nil=>cases h.1|cons a t=>cases t with
   |nil=>cases h.1|cons b t=>exact zc_ (zfB_ (zg7_ ps fo g fs h.2)) rfl
 |.fmt a,Z,c,E,e,fo,g,fs,h=>by
  apply kF_ h;intro x n f p h;simp only[iP]at h;cases eq_of_beq h.1.1;cases kf.mp h.1.2;exact zc_ (zmb_ (za_ a fo g fs h.2).pe) rfl
 |.rep a,Z,c,E,e,fo,g,fs,h=>by
  apply kF_ h;intro x n f p h;simp only[iP]at h;cases eq_of_beq h.1.1;cases kf.mp h.1.2;exact zc_ (zmD_ (za_ a fo g fs h.2).pe) rfl
 |.tu o a,Z,c,E,e,fo,g,fs,h=>by
  cases o with
  |repl l m=>
   apply kC_ h;intro r es q h;apply kA_ h;intro r n p h;apply kc_ h;intro x t h;apply kc_ h;intro y t h;simp only[iP]at h;obtain⟨⟨⟨⟨⟨⟨h1,h2⟩,h3⟩,h4⟩,h5⟩,h6⟩,h7⟩:=h;cases eq_of_beq h1;cases jH.mp h2;apply kK_ h5;intro z j1 p1 h5;apply kK_ h6;intro z2 j2 p2 h6;cases eq_of_beq h5;cases eq_of_beq h6;have st:[Expr.Constant (.str ⟨#[l]⟩) j1 p1,Expr.Constant (.str ⟨#[m]⟩) j2 p2].all noStar=rR:=rfl;exact zc_ (zjy_ (show Nb Z.K from fs .nb (je ..)) (za_ a fo g fs.r h7).pe ⟨zbv_ h3,ziH_ st (show 2<29 by decide),h4,by rw[zbj_ st];rfl⟩) rfl
  |rst=>
   apply kC_ h;intro r es q h;apply kA_ h;intro r n p h;simp only[iP]at h;obtain⟨⟨⟨⟨h1,h2⟩,h3⟩,h4⟩,h5⟩:=h;cases eq_of_beq h1;cases jH.mp h2;exact zc_ (zhM_ mV PySem.F.slot_str_rstrip PySem.F.type_str_rstrip zfU_ (za_ a fo g fs.r h5).pe (zbv_ h3) h4) rfl
  |rev=>
   apply kS_ h;intro l r p h;apply kL_ h;intro a1 a2 a3 q h;simp only[iP]at h;cases kf.mp h.1.1.1;cases kf.mp h.1.1.2;cases a3 with
   |none=>cases h.1.2|some u=>
    apply kU_ (show kU u _=rR from h.1.2);intro o w p' h'
    rw[iP]at h';cases eq_of_beq h'.1;apply kK_ h'.2;intro z n' p2 h2;cases eq_of_beq h2;exact zc_ (zlC_ (za_ a fo g fs.r h.2).pe (po_M (zmZ_ zkH_))) rfl
  |kin x rs=>
   obtain⟨kd,hm⟩:Kd Z.w Z.K x rs/\Z.mg x=rP (.ref (gA Z.K x)):=fs (.kd x rs) (je ..);apply kM_ h;intro l os dZ p h;apply kc_ h;intro r t h;simp only[iP]at h;obtain⟨⟨⟨h1,h2⟩,h3⟩,h4⟩:=h;cases eq_of_beq h1;cases jH.mp h2;apply kN_ h3;intro y p2 h3;rw[iP]at h3;cases eq_of_beq h3.1;obtain⟨g1,g2⟩:=zbY_ g.toCh h3.2;exact zf3_ (zm0_ kd) (za_ a fo g fs.r h4) (zc_ (ze2_ (v:=.ref (gA Z.K x)) g1 hm rfl g2) rfl) rfl
  |kix x rs=>
   obtain⟨kd,hm⟩:Kd Z.w Z.K x rs/\Z.mg x=rP (.ref (gA Z.K x)):=fs (.kd x rs) (je ..);apply kS_ h;intro l r p h;simp only[iP]at h;apply kN_ h.1.1;intro y p2 h3;rw[iP]at h3;cases eq_of_beq h3.1;obtain⟨g1,g2⟩:=zbY_ g.toCh h3.2;exact zc_ (zmN_ (ix_kd kd) (ze2_ (v:=.ref (gA Z.K x)) g1 hm rfl g2) (za_ a fo g fs.r h.2).pe (zct_ h.1.2)) rfl
 |.isx a ns tb,Z,c,E,e,fo,g,fs,h=>by
  apply kC_ h;intro y es q h;apply kN_ h;intro y p h;apply kc_ h;intro x t h;apply kc_ h;intro z t2 h;simp only[iP]at h;obtain⟨⟨⟨⟨⟨⟨h1,ht⟩,h2⟩,h3⟩,h4⟩,h5⟩,h8⟩:=h;cases eq_of_beq h1;cases jH.mp ht;exact zc_ (zkz_ fo g.toCh (za_ a fo g fs h8).pe h4 h2 (fo.bs _ (by simpa using h3)) h5) rfl
 |.isa a n,Z,c,E,e,fo,g,fs,h=>by
  apply kC_ h;intro y es q h;apply kN_ h;intro y p h;apply kc_ h;intro x t h;apply kc_ h;intro z t2 h;apply kN_ h;intro z p2 h;simp only[iP]at h;obtain⟨⟨⟨⟨⟨⟨⟨⟨h1,ht⟩,h2⟩,h3⟩,h4⟩,h5⟩,h6⟩,h7⟩,h8⟩:=h;cases eq_of_beq h1;cases jH.mp ht;exact zc_ (zoM_ g (za_ a fo g fs h8).pe h4 h2 (fo.bs _ (by simpa using h3)) (eq_of_beq h5) h6 (fo.bs _ (by simpa using h7))) rfl
 |.ds3 a b d f m u,Z,c,E,e,fo,g,fs,h=>by
  apply kDd_ h;intro ks vs p h;apply kco_ h;intro k kt h;apply kco_ h;intro l lt h;apply kco_ h;intro n nt h;apply kc_ h;intro v vt h;apply kc_ h;intro w wt h;apply kc_ h;intro z zt h;simp only[iP]at h;obtain⟨⟨⟨⟨⟨⟨⟨h1,h2⟩,h3⟩,h4⟩,h5⟩,h6⟩,h7⟩,h8⟩:=h;cases jH.mp h1;cases jH.mp h2;exact zc_ (zlj_ (zcL_ (za_ a fo g fs.l h3).pe (za_ b fo g fs.r.l h4).pe (zcL_ (za_ d fo g fs.r.r.l h5).pe (za_ f fo g fs.r.r.r.l h6).pe (zcL_ (za_ m fo g fs.r.r.r.r.l h7).pe (za_ u fo g fs.r.r.r.r.r h8).pe zjl_))) rfl rfl (λz=>by cases z) (oZ rfl)) rfl
 |.dct0,Z,c,E,e,fo,g,fs,h=>by
  apply kDi_ h;intro p;exact zc_ zhy_ rfl
theorem zdS_:∀(as:List X) {Z:Cx}{c:Ck}{E:XK}{e:jw},T.Ok G Z.K Z.mg->Cg Z c k E->AllH Z k (X.fcss as)->chk1 T G c as e=rR->∃s,as=[s]/\PE Z e (s.den Z.K G E)
 |[],Z,c,E,e,fo,g,fs,h=>by unfold chk1 at h;cases h
 |s::as,Z,c,E,e,fo,g,fs,h=>by
  have h:=jP.mp h;cases jH.mp h.1;exact⟨s,rfl,(za_ s fo g fs.l h.2).pe⟩
theorem zw_:∀(as:List X) {Z:Cx}{c:Ck}{E:XK}{es:List jw},T.Ok G Z.K Z.mg->Cg Z c k E->AllH Z k (X.fcss as)->chkEs T G c as es=rR->PA Z es (X.dens Z.K G E as)
 |[],Z,c,E,es,fo,g,fs,h=>by
  show PA Z es tNil;rw[jH.mp h]
  exact zcw_
 |a::as,Z,c,E,es,fo,g,fs,h=>by
  apply kc_ h;intro e t h;simp only[iP]at h;exact zaa_ (za_ a fo g fs.l h.1.2).pe (zw_ as fo g fs.r h.2) (zd_ h.1.1)
theorem zgW_:∀(a:Option X) {Z:Cx}{c:Ck}{E:XK}{e:Option jw},T.Ok G Z.K Z.mg->Cg Z c k E->AllH Z k (X.fcsO a)->chkO T G c a e=rR->PO Z e (X.denO Z.K G E a)
 |none,Z,c,E,e,fo,g,fs,h=>by
  show PO Z e tNoPart;rw[kf.mp h]
  exact zlx_
 |some a,Z,c,E,e,fo,g,fs,h=>by
  cases e with
  |none=>cases h|some e=>exact po_M (za_ a fo g fs h).pe
theorem zdO_:∀(a:Option X) {Z:Cx}{c:Ck}{E:XK}{es:List jw},T.Ok G Z.K Z.mg->Cg Z c k E->AllH Z k (X.fcsO a)->chkIf T G c a es=rR->PIf Z es (X.denT Z.K G E a)
 |none,Z,c,E,es,fo,g,fs,h=>by
  show PIf Z es tTrue;rw[jH.mp h]
  exact zkI_
 |some a,Z,c,E,es,fo,g,fs,h=>by
  apply kc_ h;intro e t h;simp only[iP]at h;cases jH.mp h.1.1;exact zlc_ ((za_ a fo g fs h.2).pt h.1.2)
theorem zg7_:∀(as:List X) {Z:Cx}{c:Ck}{E:XK}{es:List jw},T.Ok G Z.K Z.mg->Cg Z c k E->AllH Z k (X.fcss as)->chkJ T G c as es=rR->PJ Z es (X.denJ Z.K G E as)
 |[],Z,c,E,es,fo,g,fs,h=>by
  unfold chkJ at h;rw[jH.mp h,X.denJ];exact zng_
 |a::as,Z,c,E,es,fo,g,fs,h=>by
  apply kc_ h;intro e t h;rw[iP]at h;exact zlw_ (za_ a fo g fs.l h.1).pe (zg7_ as fo g fs.r h.2)
end
end
structure Cq (Z:Cx)(c:Ck)(k:Nat)(E:XK):Prop extends Cg Z c k E where
 fn:∀x,Z.fn x=rR
 nd:c.N.Nodup
 own:PassesOwn (model Z.prog Z.w) Z.A Z.env Z.xe
 takes:Takes Z E
 ex:Z.ex=[]
 stack:Z.stack=Z.env::Z.outer/\Z.env.frame=rP Z.env.locals
noncomputable def Y.isC:Y->Bool
 |.pu (.comp ..)=>rR |_=>rS
noncomputable def Bm.nm:Bm->Str
 |.append => "append" |.popK => "pop"
def Y.fcs:Y->List Fc
 |.pu x=>x.fcs|.mv i=>[]|.call f x as=>(X.call f x (as.map A.t)).fcs|.meth ms p m as=>(X.meth ms p.x m (as.map A.t)).fcs|.bm _ p as=>p.x.fcs++X.fcss (as.map A.t)|.bin _ y z=>y.fcs++z.fcs|.ap a y=>(match a with |.call f x as=>.call f x::(y.fcs++X.fcss as)|.sm _ as=>y.fcs++X.fcss as)|.tk _ y=>y.fcs|.not y=>y.fcs|.or y z=>y.fcs++z.fcs|.and y z=>y.fcs++z.fcs
def hFc:X->List Fc
 |.call f x _=>[.callN f x]|_=>[]
def hFcs:List (Nat×X)->List Fc
 |[]=>[]|q::l=>hFc q.2++hFcs l
mutual
def S.fcs:S->List Fc
 |.asg _ y=>y.fcs|.asg5 _ x=>x.fcs|.setF p _ x=>p.x.fcs++x.fcs|.setI p k x=>p.x.fcs++(k.fcs++x.fcs)|.ex y=>y.fcs|.ret y=>y.fcs|.retN=>[]|.if_ c a b=>c.fcs++(S.fcss a++S.fcss b)|.ifY c a b=>c.fcs++(S.fcss a++S.fcss b)|.ifL c a b=>c.fcs++(S.fcss a++S.fcss b)|.view _ s=>s.fcs|.for_ _ src _ b=>X.fcss src++S.fcss b|.raise c as=>.exc c::X.fcss as|.tryC f x as _ _ _ hs=>.call f x::(X.fcss as++hFcs hs)|.tryM c f p m as _ _ _ hs=>.meth m c f::(p.x.fcs++X.fcss (as.map A.t)++hFcs hs)|.pass=>[]|.never=>[]|.try0 b aZ=>S.fcss b++S.fcss aZ
def S.fcss:List S->List Fc
 |[]=>[]|s::ss=>s.fcs++S.fcss ss
end
section
variable (T:Ft)(G:Gi)
def chkY (c:Ck):Y->jw->Bool
 |.pu x,e=>chkE T G c x e|.mv i,e=>chkE T G c (.v i) e|.call f x as,e=>chkE T G c (.call f x (as.map A.t)) e|.meth ms p m as,e=>chkE T G c (.meth ms p.x m (as.map A.t)) e|.bm o p as,e=>kC e λr es q=>kA r λr m ap=>m == o.nm && noSup r && ap.endLine == q.line && decide (es.length<29) && chkE T G c p.x r && chkEs T G c (as.map A.t) es| .bin o y z,e=>kB e (λl op r=>o.op == rP op && chkY c y l && chkY c z r)||
   (kM e (λl os rs=>kc rs λr t=>os.map rP == [o.cmp] && t.isEmpty && noSet r && chkY c y l && chkY c z r)||
   kS e (λl r=>o.isIx && noSl r && chkY c y l && chkY c z r))
 |.ap a y,e=>(match a with
  |.call f x as=>kC e λr es _=>kN r λz=>kc es λb t=>x == z && glB c x && noStar b && chkY c y b && chkEs T G c as t|.sm o as=>kC e λr es q=>kA r λr m p=>m == o.nm && noSup r && p.endLine == q.line && decide (es.length<29) && !as.isEmpty && chkY c y r && chkEs T G c as es)
 |.tk d y,e=>kT e λes=>kc es λa t=>kc t λb t2=>t2.isEmpty && noStar a && noStar b && kK a (constB d) && chkY c y b|.not y,e=>kU e λo x=>o == .Not && noIf x && chkY c y x|.or y z,e=>kO .Or e λa b l=>noIf a && (!l ||noIf b) && chkY c y a && chkY c z b|.and y z,e=>kO .And e λa b l=>noIf a && (!l ||noIf b) && chkY c y a && chkY c z b
def sA (s:kq)(k:jw->jw->Bool):Bool:=elB λi=>Stmt.Assign.elim s i λgs e _=>kc gs λg t=>t.isEmpty && k g e
def sE (s:kq)(k:jw->Bool):Bool:=elB λi=>Stmt.Expr.elim s i λe _=>k e
def sR (s:kq)(k:Option jw->Bool):Bool:=elB λi=>Stmt.Return.elim s i λe _=>k e
def sI (s:kq)(k:jw->List kq->List kq->Bool):Bool:=elB λi=>Stmt.If.elim s i λe a b _=>k e a b
def sF (s:kq)(k:jw->jw->List kq->Bool):Bool:=elB λz=>Stmt.For.elim s z λt i b l _=>l.isEmpty && k t i b
def sX (s:kq)(k:jw->Bool):Bool:=elB λi=>Stmt.Raise.elim s i λe c _=>c.isNone && e.any k
def sT (s:kq)(k:List kq->List kq->Bool):Bool:=elB λi=>Stmt.Try.elim s i λb hs l f _=>!hs.isEmpty && (f.isEmpty && k b l)
def sh:List ExceptHandler->(jw->Str->List kq->Bool)->Bool
 |[.ExceptHandler (rP t) (rP n) b _],k=>k t n b |_,_=>rS
def sK (s:kq)(k:List kq->jw->Str->List kq->Bool):Bool:=elB λi=>Stmt.Try.elim s i λb hs l f _=>l.isEmpty && (f.isEmpty && sh hs λt n r=>!r.isEmpty && k b t n r)
def sP (s:kq):Bool:=elB λi=>Stmt.Pass.elim s i λ_=>rR
section
variable {s:kq}{C:kq->Prop}
theorem sA_ {k}(h:sA s k=rR)(H:∀g e q,k g e=rR->C (.Assign [g] e q)):C s:=elB_ h λi=>Stmt.Assign.elim (motive_2:=λs=>sA s k=rR->C s) s i (λgs e q h=>kc_ (C:=λgs=>C (.Assign gs e q)) h λg t h=>by cases t with |nil=>exact H g e q h |cons=>cases h) h
theorem sE_ {k}(h:sE s k=rR)(H:∀e q,k e=rR->C (.Expr e q)):C s:=elB_ h λi=>Stmt.Expr.elim (motive_2:=λs=>sE s k=rR->C s) s i H h
theorem sR_ {k}(h:sR s k=rR)(H:∀e q,k e=rR->C (.Return e q)):C s:=elB_ h λi=>Stmt.Return.elim (motive_2:=λs=>sR s k=rR->C s) s i H h
theorem sI_ {k}(h:sI s k=rR)(H:∀e a b q,k e a b=rR->C (.If e a b q)):C s:=elB_ h λi=>Stmt.If.elim (motive_2:=λs=>sI s k=rR->C s) s i H h
theorem sF_ {k}(h:sF s k=rR)(H:∀t i b q,k t i b=rR->C (.For t i b [] q)):C s:=elB_ h λi=>Stmt.For.elim (motive_2:=λs=>sF s k=rR->C s) s i (λt i b l q h=>by cases l with |nil=>exact H t i b q h |cons=>cases h) h
theorem sX_ {k}(h:sX s k=rR)(H:∀e q,k e=rR->C (.Raise (rP e) rQ q)):C s:=elB_ h λi=>Stmt.Raise.elim (motive_2:=λs=>sX s k=rR->C s) s i (λe c q h=>by cases c<;>cases e<;>first |exact H _ q h |cases h) h
theorem sT_ {k}(h:sT s k=rR)(H:∀b a r l q,k b l=rR->C (.Try b (a::r) l [] q)):C s:=elB_ h λi=>Stmt.Try.elim (motive_2:=λs=>sT s k=rR->C s) s i (λb hs l f q h=>by cases hs<;>cases f<;>first |exact H b _ _ l q h |cases h) h
theorem sh_ {l:List ExceptHandler}{C:List ExceptHandler->Prop}{k}(h:sh l k=rR)(H:∀t n b p,k t n b=rR->C [.ExceptHandler (rP t) (rP n) b p]):C l:=by
 cases l with
 |nil=>cases h|cons a l=>cases a with |ExceptHandler t n b p=>cases t<;>cases n<;>cases l<;>first |exact H _ _ b p h |cases h
theorem sK_ {k}(h:sK s k=rR)(H:∀b t n a r p q,k b t n (a::r)=rR->C (.Try b [.ExceptHandler (rP t) (rP n) (a::r) p] [] [] q)):C s:=elB_ h λi=>Stmt.Try.elim (motive_2:=λs=>sK s k=rR->C s) s i (λb hs l f q h=>by
 cases l with
 |cons=>cases h|nil=>cases f with
  |cons=>cases h|nil=>exact sh_ (C:=λhs=>C (.Try b hs [] [] q)) h λt n r p h=>by cases r with |nil=>cases h |cons=>exact H b t n _ _ p q h) h
theorem sP_ (h:sP s=rR)(H:∀q,C (.Pass q)):C s:=elB_ h λi=>Stmt.Pass.elim (motive_2:=λs=>C s) s i H
end
noncomputable def sc:List kq->(kq->List kq->Bool)->Bool
 |a::l,k=>k a l |[],_=>rS
theorem sc_ {l:List kq}{C:List kq->Prop}{k}(h:sc l k=rR)(H:∀a t,k a t=rR->C (a::t)):C l:=by cases l with |nil=>cases h |cons a t=>exact H a t h
noncomputable def isStr:Const->Bool
 |.str _=>rR |_=>rS
mutual
def chkN (c:Ck):X->jw->Bool
 |.v i,e=>varB c i e|.k d,e=>kK e (constB d)|.isx a ns _,e=>kC e λy es _=>kN y λy=>kc es λx t=>kc t λz t2=>y=="isinstance" && t2.isEmpty && glB c y && T.bs.contains y && noStar x && clsB T G c ns z && chkN c a x|.lst as,e=>kW e (chkNs c as)| .bin o a b,e=>kB e (λl op r=>o.op == rP op && chkN c a l && chkN c b r)||
   kM e (λl os rs=>kc rs λr t=>os.map rP == [o.cmp] && t.isEmpty && noSet r && chkN c a l && chkN c b r)
 |.and a b,e=>kO .And e λx y l=>noIf x && (!l ||noIf y) && chkN c a x && chkN c b y|_,_=>rS
def chkNs (c:Ck):List X->List jw->Bool
 |[],es=>es.isEmpty|a::as,es=>kc es λe es=>noStar e && chkN c a e && chkNs c as es
end
def chkNC (c:Ck):X->jw->Bool
 |.call _ x as,e=>kC e λy es _=>kN y λy=>y == x && glB c x && !as.isEmpty && chkNs T G c as es|x,e=>chkN T G c x e
def chkG (c:Ck):List (Nat×X)->List kq->Bool
 |[],ss=>ss.isEmpty|q::gs,ss=>sc ss λs ss=>sA s (λo e=>tgB c q.1 o && noCmp e && chkNC T G c q.2 e) && chkG c gs ss
def chkSN (c:Ck):S->kq->Bool
 |.asg i (.pu x),s=>sA s λg e=>tgB c i g && noCmp e && chkN T G c x e|.ret (.pu x),s=>sR s λe=>e.any (chkN T G c x)|_,_=>rS
def chkSNs (c:Ck):List S->List kq->Bool
 |[],ss=>ss.isEmpty|a::as,ss=>sc ss λs ss=>chkSN T G c a s && chkSNs c as ss
mutual
def chkS (c:Ck):S->kq->Bool
 |.asg i y,s=>sA s λg e=>tgB c i g && (noCmp e ||y.isC) && chkY T G c y e|.asg5 is x,s=>sA s λg e=>kT g λes=>noCmp e && noTup e && is.length == 5 && tgsB c is es && chkE T G c x e|.setF p n x,s=>sA s λg e=>kA g λo f _=>n == f && T.at_.contains n && chkE T G c p.x o && chkE T G c x e|.setI p k x,s=>sA s λg e=>kS g λo i=>noSl i && chkE T G c p.x o && chkE T G c k i && chkE T G c x e|.ex y,s=>sE s λe=>noCmp e && chkY T G c y e|.ret y,s=>sR s λe=>e.any (chkY T G c y)|.retN,s=>sR s λe=>e.isNone|.if_ d a b,s=>sI s λe x y=>noIf e && chkE T G c d e && chkSs c a x && chkSs c b y|.view _ d,s=>chkS c d s|.ifL d a b,s=>sI s λe x y=>plainT e && chkE T G c d e && chkSs c a x && chkSs c b y|.ifY d a b,s=>sI s λe x y=>noIf e && chkY T G c d e && chkSs c a x && chkSs c b y|.for_ ik src tg b,s=>sF s λt it x=>noSet it && tgOk c tg t && srcB T c ik tg it (chk1 T G c src it) (chkEs T G c src) && chkSs c b x|.raise d as,s=>sX s λe=>kC e λy es _=>kN y λy=>y == d && glB c y && !as.isEmpty && chkEs T G c as es|.tryC f x as cl _ i hs,s=>sK s λb t n ss=>(sc b λs r=>r.isEmpty && sE s λe=>kC e λy es _=>kN y λy=>y == x && glB c x && !as.isEmpty && chkEs T G c as es) && kN t (λm=>m == cl && glB c m && G.ex.contains m) && c.N[i]? == rP n && c.nm.lookup n == rP .local && chkG T G c hs ss|.tryM C _ p m as cl _ i hs,s=>sK s λb t n ss=>(sc b λs r=>r.isEmpty && sE s λe=>kC e λy es q=>kA y λo f ap=>f == m && noSup o && ap.endLine == q.line && decide (es.length<29) && !as.isEmpty && G.cs.contains C && chkE T G c p.x o && chkEs T G c (as.map A.t) es) && kN t (λm=>m == cl && glB c m && G.ex.contains m) && c.N[i]? == rP n && c.nm.lookup n == rP .local && chkG T G c hs ss|.pass,s=>sP s ||sE s λe=>kK e isStr
 |.never,_=>rR|.try0 b aZ,s=>sT s λx y=>chkSs c b x && chkSs c aZ y
def chkSs (c:Ck):List S->List kq->Bool
 |[],ss=>ss.isEmpty|a::as,ss=>sc ss λs ss=>chkS c a s && chkSs c as ss
end
end
section
variable {Z:Cx}{c:Ck}{k:Nat}{E:XK}{T:Ft}{G:Gi}{e o:jw}{es:List jw}{t:TE}{p pos apos:Pos}
def bmT (K:jG)(G:Gi)(E:XK)(b:Bm)(t:TE)(as:List A):TE:=match as with |[]=>tBM0 K b.ty b.r t |_=>tBM K b.ty b.r t (X.dens K G E (as.map A.t))
theorem bm_pe {b:Bm}{as:List A}(ho:PE Z o t)(ha:PA Z es (X.dens Z.K G E (as.map A.t)))(hs:es.all noStar=rR)(hb:noSup o=rR)(hl:(apos.endLine == pos.line)=rR)(hn:es.length<29)(h0:es=[]↔as=[]):PE Z (.Call (.Attribute o b.nm apos) es [] pos) (bmT Z.K G E b t as):=by
 have b0:=λn=>zbv_ (env:=Z.env) (m:=n) hb
 cases as with
 |nil=>
  rw[h0.mpr rfl];cases b with
  |append=>exact zhM_ zgD_ zaD_ zaE_ zbW_ ho (b0 _) hl|popK=>exact zhM_ oE m3 o6 zg3_ ho (b0 _) hl
 |cons a as=>
  cases es with
  |nil=>cases h0.mp rfl|cons e es=>
   have f:=ziH_ (env:=Z.env) (pos:=pos) hs hn;rw[jY,iP]at hs;have s1:=zd_ (env:=Z.env) (es:=es) hs.1;have s2:=zG_ (env:=Z.env) (pos:=pos) hs.2;cases b with
   |append=>exact zn9_ zgD_ zaD_ zaE_ zbW_ ho ha (b0 _) f hl s1 s2|popK=>exact zn9_ oE m3 o6 zg3_ ho ha (b0 _) f hl s1 s2
theorem zy_:∀(y:Y) {e:jw},T.Ok G Z.K Z.mg->Cg Z c k E->AllH Z k y.fcs->chkY T G c y e=rR->Rd Z e (y.den Z.K G E)
 |.pu x,e,fo,g,fs,h=>za_ x fo g fs h|.mv i,e,fo,g,fs,h=>by
  exact za_ (.v i) fo g (λ_ z=>by cases z) h
 |.call f x as,e,fo,g,fs,h=>by
  exact za_ (.call f x (as.map A.t)) fo g fs h
 |.meth ms p m as,e,fo,g,fs,h=>by
  have:=za_ (.meth ms p.x m (as.map A.t)) fo g fs h;rw[X.den]at this;exact this
 |.bm b p as,e,fo,g,fs,h=>by
  apply kC_ h;intro r es q h;apply kA_ h;intro r m ap h;simp only[iP]at h;cases eq_of_beq h.1.1.1.1.1;exact zc_ (bm_pe (b:=b) (za_ p.x fo g fs.l h.1.2).pe (zw_ _ fo g fs.r h.2) (zg_ h.2).1 h.1.1.1.1.2 h.1.1.1.2 (of_decide_eq_true h.1.1.2) ((zg_ h.2).2.trans px)) rfl
 |.bin o y z,e,fo,g,fs,h=>by
  rcases(lC _ _).mp h with h |h
  ·apply kB_ h;intro l op r p h
   simp only[iP]at h;exact zc_ (zn8_ (zoO_ (eq_of_beq h.1.1)) (zy_ y fo g fs.l h.1.2).pe (zy_ z fo g fs.r h.2).pe) rfl
  rcases(lC _ _).mp h with h |h
  ·apply kM_ h;intro l os rs p h
   apply kc_ h;intro r t h;simp only[iP]at h;cases jH.mp h.1.1.1.2;obtain⟨op,ho,rfl⟩:=os1 (zfJ_ h.1.1.1.1);exact zf3_ (zeM_ g.units ho) (zy_ y fo g fs.l h.1.2) (zy_ z fo g fs.r h.2) h.1.1.2
  ·apply kS_ h;intro l r p h
   simp only[iP]at h;have ho:o=.ix:=by
    have:=h.1.1.1;cases o<;>first |rfl |cases this
   subst ho;exact zc_ (zmN_ (ix_A g.units) (zy_ y fo g fs.l h.1.2).pe (zy_ z fo g fs.r h.2).pe (zct_ h.1.1.2)) rfl
 |.ap (.call f x as) y,e,fo,g,fs,h=>by
  apply kC_ h;intro r es q h;apply kN_ h;intro z p h;apply kc_ h;intro b t h;simp only[iP]at h;cases eq_of_beq h.1.1.1.1;obtain⟨g1,g2⟩:=zbY_ g.toCh h.1.1.1.2;obtain⟨ps,j,hj,F⟩:=fs _ (je ..);have gD:AllH Z k (y.fcs++X.fcss as):=λφ aG=>fs φ (ji _ aG)
  exact zc_ (zej_ F (g.room.mono hj) g.pass (zaa_ (zy_ y fo g gD.l h.1.2).pe (zw_ as fo g gD.r h.2) (zd_ h.1.1.2)) (by rw[jY,h.1.1.2];exact(zg_ h.2).1) g1 g2 (λz=>by cases z)) rfl
 |.ap (.sm o as) y,e,fo,g,fs,h=>by
  apply kC_ h;intro r es q h;apply kA_ h;intro r m p h;simp only[iP]at h;cases eq_of_beq h.1.1.1.1.1.1;have fs:AllH Z k (y.fcs++X.fcss as):=fs;exact zc_ (sm_pe (zy_ y fo g fs.l h.1.2).pe (zw_ as fo g fs.r h.2) (zg_ h.2).1 h.1.1.1.1.1.2 h.1.1.1.1.2 (of_decide_eq_true h.1.1.1.2) (zdA_ h.2 h.1.1.2)) rfl
 |.tk d y,e,fo,g,fs,h=>by
  apply kT_ h;intro es n p h;apply kc_ h;intro a t h;apply kc_ h;intro b t2 h;simp only[iP]at h;cases jH.mp h.1.1.1.1;exact zc_ (ziQ_ (zaa_ (za_ (.k d) fo g (λ_ z=>by cases z) h.1.2).pe (zaa_ (zy_ y fo g fs h.2).pe zcw_ (zd_ h.1.1.2)) (zd_ h.1.1.1.2))) rfl
 |.not y,e,fo,g,fs,h=>by
  apply kU_ h;intro o x p h;simp only[iP]at h;cases eq_of_beq h.1.1;exact zlm_ (zy_ y fo g fs h.2) h.1.2
 |.or y z,e,fo,g,fs,h=>by
  apply kO_ h;intro a b l p h;simp only[iP]at h;cases l with
  |nil=>exact zjD_ (zy_ y fo g fs.l h.1.2) (zy_ z fo g fs.r h.2) h.1.1.1 h.1.1.2|cons q l=>exact rd_or (zy_ y fo g fs.l h.1.2) (zy_ z fo g fs.r h.2) h.1.1.1
 |.and y z,e,fo,g,fs,h=>by
  apply kO_ h;intro a b l p h;simp only[iP]at h;cases l with
  |nil=>exact zfe_ (zy_ y fo g fs.l h.1.2) (zy_ z fo g fs.r h.2) h.1.1.1 h.1.1.2|cons q l=>exact ziK_ (zy_ y fo g fs.l h.1.2) (zy_ z fo g fs.r h.2) h.1.1.1
theorem zfh_ {elt:jw}{gs:List Comprehension}{sc:Scope}{x:Str}{p:Pos}{env:PySem.Env}{n:Nat}:∃b,swapsWith (.ListComp elt gs sc pos) (rP (.Name x p)) n env=pure b:=⟨_,rfl⟩
theorem zeK_ {f:Str}{n:Nat}:swapsWith e (rP (.Attribute o f p)) n Z.env=pure rS:=by cases e<;>rfl
theorem zgd_ {i:jw}{n:Nat}:swapsWithSole [.Subscript o i p] e n Z.env=pure rS:=by cases e<;>rfl
theorem zeI_ {tg:jw}{n:Nat}(h:noCmp e=rR):swapsWithSole [tg] e n Z.env=pure rS:=zay_ h (rP tg) n
theorem znJ_ {i:jw}(h:noSl i=rR)(v:iX):assign (.Subscript o i p) Z.env v=(do
   let ov <- holding [v] (eval o Z.env)
   let iv <- holding [v,ov] (eval i Z.env)
   standAt p
   holding [v,ov,iv] (setItem ov iv v)
   release [v,ov,iv] []):=by
 cases i<;>first |rfl |cases h
theorem znO_ (fo:T.Ok G Z.K Z.mg)(g:Cq Z c k E){i:Nat}{y:Y}{q:Pos}(fs:AllH Z k y.fcs)(h1:tgB c i o=rR)(h2:(noCmp e ||y.isC)=rR)(h3:chkY T G c y e=rR):
  PS Z (.Assign [o] e q) (tAsg (y.den Z.K G E) (gName i)):=by
 have hv:=(zy_ y fo g.toCg fs h3).pe;obtain⟨gR,x,p,rfl⟩:=zdQ_ g.toCh g.nd (.inl g.fn) h1;unfold tgB at h1;rw[iP]at h1;have hi:Z.N[i]?=rP x:=by rw[g.N];exact eq_of_beq h1.1
 have hn:Z.N.Nodup:=by rw[g.N];exact g.nd
 have hl:=zgk_ g.toCh h1.2;by_cases hc:noCmp e=rR
 ·exact zfy_ hn hi hl hv (zay_ hc _ _) (.inl (g.fn x))
 ·have hc:noCmp e=rS:=by simpa using hc
  rw[hc,qp]at h2;unfold Y.isC at h2;split at h2
  ·rename_i lv fr ik src tg d z
   obtain⟨t,it,ifs,elt,sc,pos,rfl,cl,S,q1,q2,q3,q4,q5⟩:=zgX_ lv fr ik src tg d z (zdS_ src) (zw_ src) (zdO_ d) (za_ z) fo g.toCg fs h3;obtain⟨b,hb⟩:=zfh_ (elt:=elt) (gs:=[⟨t,it,ifs,0⟩]) (sc:=sc) (pos:=pos) (x:=x) (p:=p) (env:=Z.env) (n:=q.line);cases b with
   |true=>
    exact zez_ g.calm S q1 q2 q3 q4 gR hb (zbC_ q5)
   |false=>exact zfy_ hn hi hl hv hb (.inl (g.fn x))
  ·cases h2
theorem Cq.nox (g:Cq Z c k E):Cq Z.nox c k E0 where
 N:=g.N
 nm:=g.nm
 kind:=g.kind
 calm:=g.calm
 room:=g.room
 pass:=passX0
 cells:=g.cells
 fn:=g.fn
 nd:=g.nd
 own:=PassesOwn.never
 takes:=λ_ _ _ _ _ _ _ _ _ _ _ _ _ _ _ _ _ _ h=>h.elim
 ex:=g.ex
 stack:=g.stack
theorem zno_ (g:Ch Z c){i:Nat}{e:jw}(h:varB c i e=rR):PE Z e (mVar i):=by
 unfold varB at h;apply kN_ h;intro x p h;rw[iP,iP]at h;have h3:=h.2;unfold nmOk at h3;rw[iP]at h3;exact zgZ_ i (by rw[g.N];exact eq_of_beq h.1.1) (zj4_ g h.1.2) (by simpa using h3.1) (by simpa using h3.2)
theorem zm9_ (g:Ch Z c){i:Nat}{e:jw}(h:varB c i e=rR):Rd Z e (mVar i):=by
 have:=zno_ g h;unfold varB at h
 revert this
 apply kN_ h;intro x p h this;exact zc_ this rfl
mutual
theorem zZ_ (fo:T.Ok G Z.K Z.mg)(g:Ch Z c)(hu:Z.A.units+60<cLine):∀(x:X) {e:jw},chkN T G c x e=rR->Rd Z e (x.den Z.K G E)
 |.v i,e,h=>zm9_ g h|.k d,e,h=>by apply kK_ h;intro z j p h;exact zc_ (zeW_ h) rfl
 |.isx a ns tb,e,h=>by
  apply kC_ h;intro y es q h;apply kN_ h;intro y p h;apply kc_ h;intro x t h;apply kc_ h;intro z t2 h;simp only[iP]at h;obtain⟨⟨⟨⟨⟨⟨h1,ht⟩,h2⟩,h3⟩,h4⟩,h5⟩,h8⟩:=h;cases eq_of_beq h1;cases jH.mp ht;exact zc_ (zkz_ fo g (zZ_ fo g hu a h8).pe h4 h2 (fo.bs _ (by simpa using h3)) h5) rfl
 |.lst as,e,h=>by apply kW_ h;intro es p h;exact zc_ (zkU_ (zcq_ fo g hu as h)) rfl
 |.bin o y z,e,h=>by
  rcases(lC _ _).mp h with h |h
  ·apply kB_ h;intro l op r p h
   simp only[iP]at h;exact zc_ (zn8_ (zoO_ (eq_of_beq h.1.1)) (zZ_ fo g hu y h.1.2).pe (zZ_ fo g hu z h.2).pe) rfl
  ·apply kM_ h;intro l os rs p h
   apply kc_ h;intro r t h;simp only[iP]at h;cases jH.mp h.1.1.1.2;obtain⟨op,ho,rfl⟩:=os1 (zfJ_ h.1.1.1.1);exact zf3_ (zeM_ hu ho) (zZ_ fo g hu y h.1.2) (zZ_ fo g hu z h.2) h.1.1.2
 |.and y z,e,h=>by
  apply kO_ h;intro a b l p h;simp only[iP]at h;cases l with
  |nil=>exact zfe_ (zZ_ fo g hu y h.1.2) (zZ_ fo g hu z h.2) h.1.1.1 h.1.1.2|cons q l=>exact ziK_ (zZ_ fo g hu y h.1.2) (zZ_ fo g hu z h.2) h.1.1.1
 |.g _ _,e,h=>by cases h
 |.gt _ _,e,h=>by cases h
 |.ch _ _ _ _ _,e,h=>by cases h
 |.or _ _,e,h=>by cases h
 |.not _,e,h=>by cases h
 |.ifx _ _ _,e,h=>by cases h
 |.sl _ _ _,e,h=>by cases h
 |.tup _,e,h=>by cases h
 |.fld _ _,e,h=>by cases h
 |.call _ _ _,e,h=>by cases h
 |.bf _ _,e,h=>by cases h
 |.sm _ _ _,e,h=>by cases h
 |.comp _ _ _ _ _ _ _,e,h=>by cases h
 |.make _ _ _,e,h=>by cases h
 |.meth _ _ _ _,e,h=>by cases h
 |.fs _,e,h=>by cases h
 |.fmt _,e,h=>by cases h
 |.rep _,e,h=>by cases h
 |.ds3 _ _ _ _ _ _,e,h=>by cases h
 |.tu _ _,e,h=>by cases h
 |.isa _ _,e,h=>by cases h
 |.dct0,e,h=>by cases h
theorem zcq_ (fo:T.Ok G Z.K Z.mg)(g:Ch Z c)(hu:Z.A.units+60<cLine):∀(xs:List X) {es:List jw},chkNs T G c xs es=rR->PA Z es (X.dens Z.K G E xs)
 |[],es,h=>by
  show PA Z es tNil;rw[jH.mp h]
  exact zcw_
 |q::qs,es,h=>by
  apply kc_ h;intro e t h;simp only[iP]at h;exact zaa_ (zZ_ fo g hu q h.1.2).pe (zcq_ fo g hu qs h.2) (zd_ h.1.1)
end
theorem zb1_:∀{xs:List X}{es:List jw},chkNs T G c xs es=rR->es.all noStar=rR/\(xs.isEmpty=rS->es≠[])
 |[],es,h=>⟨by rw[jH.mp h];rfl,λz=>by cases z⟩|x::xs,es,h=>by
  apply kc_ h;intro e t h;simp only[iP]at h;exact⟨by rw[jY,h.1.1,(zb1_ h.2).1];rfl,λ_ z=>by cases z⟩
theorem ziO_ (fo:T.Ok G Z.K Z.mg)(g:Ch Z c)(rn:RoomN k Z.A)(x:X){e:jw}(fs:AllH Z k (hFc x))(h:chkNC T G c x e=rR):PE Z e (x.den Z.K G E0):=by
 have hu:Z.A.units+60<cLine:=by have:=rn.un;lia
 cases x with
 |call f x as=>
  apply kC_ h;intro y es p h;apply kN_ h;intro y p h;simp only[iP]at h;cases eq_of_beq h.1.1.1;obtain⟨g1,g2⟩:=zbY_ g h.1.1.2;obtain⟨ps,j,hj,F⟩:=fs (.callN f x) (je ..);have ha:=zcq_ (E:=E0) fo g hu as h.2;obtain⟨hs,h0⟩:=zb1_ h.2;cases es with
  |nil=>exact absurd rfl (h0 (by simpa using h.1.2))|cons e es=>
   rw[jY,iP]at hs;exact zip_ F (rn.mono hj) ha g1 g2 (zd_ hs.1) (zG_ hs.2)
 |_=>exact(zZ_ fo g hu _ h).pe
theorem zd8_ (fo:T.Ok G Z.K Z.mg)(g:Ch Z c)(nd:c.N.Nodup)(fn:∀x,Z.fn x=rR)(rn:RoomN k Z.A):∀(gs:List (Nat×X)) {st:List kq},AllH Z k (hFcs gs)->chkG T G c gs st=rR->PSs Z st (hDen Z.K G gs)
 |[],st,fs,h=>by
  unfold chkG at h;rw[hDen,jH.mp h];exact zeF_
 |q::gs,st,fs,h=>by
  apply sc_ h;intro a t h;rw[iP]at h;refine zcE_ ?_ (zd8_ fo g nd fn rn gs fs.r h.2);apply sA_ h.1;intro o e r h;rw[iP,iP]at h;obtain⟨⟨h1,h2⟩,h3⟩:=h;obtain⟨_,y,p,rfl⟩:=zdQ_ g nd (.inl fn) h1;rw[tgB,iP]at h1;exact zfy_ (by rw[g.N];exact nd) (by rw[g.N];exact eq_of_beq h1.1) (zgk_ g h1.2) (ziO_ fo g rn q.2 fs.l h3) (zay_ h2 _ _) (.inl (fn y))
theorem zdo_ (fo:T.Ok G Z.K Z.mg)(g:Ch Z c)(nd:c.N.Nodup)(fn:∀x,Z.fn x=rR)(hu:Z.A.units+60<cLine):∀(ss:List S) {st:List kq},chkSNs T G c ss st=rR->PSs Z st (S.dens Z.K G E ss)
 |[],st,h=>by
  unfold chkSNs at h;rw[S.dens,jH.mp h];exact zeF_
 |s::ss,st,h=>by
  apply sc_ h;intro a t h;rw[iP]at h;refine zcE_ ?_ (zdo_ fo g nd fn hu ss h.2);have h:=h.1;unfold chkSN at h;split at h
  ·apply sA_ h;intro o e r h
   rw[iP,iP]at h;obtain⟨⟨h1,h2⟩,h3⟩:=h;obtain⟨_,y,p,rfl⟩:=zdQ_ g nd (.inl fn) h1;rw[tgB,iP]at h1;exact zfy_ (by rw[g.N];exact nd) (by rw[g.N];exact eq_of_beq h1.1) (zgk_ g h1.2) (zZ_ fo g hu _ h3).pe (zay_ h2 _ _) (.inl (fn y))
  ·apply sR_ h;intro e q h
   cases e with
   |none=>cases h|some e=>exact zlO_ (zZ_ fo g hu _ h).pe
  ·cases h
theorem zjO_ {fY:List kq}{t:TS}(h:PSs Z.nox fY t):PSsx Z fY (λD _ σ H=>t D σ H):=λpins s σ H D W I hw=>
 ke (h pins s σ H D (I.wish _) hw) (λ_ _ q=>q.unwish) λ_ _ z=>jM z
mutual
theorem zgG_:∀{Z:Cx}{E:XK}(fo:T.Ok G Z.K Z.mg) (g:Cq Z c k E) (s:S) {st:kq},AllH Z k s.fcs->chkS T G c s st=rR->PS Z st (s.den Z.K G E)
 |Z,E,fo,g,.asg i y,st,fs,h=>by
  apply sA_ h;intro o e q h;simp only[iP]at h;exact znO_ fo g fs h.1.1 h.1.2 h.2
 |Z,E,fo,g,.asg5 is x,st,fs,h=>by
  apply sA_ h;intro o e q h;apply kT_ h;intro es n p h;simp only[iP]at h;obtain⟨⟨⟨⟨h1,h2⟩,h3⟩,h4⟩,h5⟩:=h;obtain⟨a,b,d⟩:=zhE_ g.toCg g.nd (.inl g.fn) h4;exact zlk_ (za_ x fo g.toCg fs h5).pe (zlR_ g.calm a (b.trans (eq_of_beq h3)) d) (zeI_ h1) (zf1_ h2)
 |Z,E,fo,g,.setF p n x,st,fs,h=>by
  apply sA_ h;intro o e q h;apply kA_ h;intro o f r h;simp only[iP]at h;cases eq_of_beq h.1.1.1;have ha:=(za_ p.x fo g.toCg fs.l h.1.2).pe;have hv:=(za_ x fo g.toCg fs.r h.2).pe;intro pins s σ H D I q;obtain⟨d,hd,q⟩:=q;exact zlo_ (fo.cls d hd) (fo.at_ d hd _ (by simpa using h.1.1.2)) ha hv zeK_ pins s σ H D I q
 |Z,E,fo,g,.setI p k x,st,fs,h=>by
  apply sA_ h;intro o e q h;apply kS_ h;intro o i r h;simp only[iP]at h;exact zlk_ (za_ x fo g.toCg fs.r.r h.2).pe (zmm_ (za_ p.x fo g.toCg fs.l h.1.1.2).pe (za_ k fo g.toCg fs.r.l h.1.2).pe (set_A g.units) (znJ_ h.1.1.1)) zgd_ zd0_
 |Z,E,fo,g,.ex y,st,fs,h=>by
  apply sE_ h;intro e q h;simp only[iP]at h;exact zlt_ (zy_ y fo g.toCg fs h.2).pe (zay_ h.1 _ _)
 |Z,E,fo,g,.ret y,st,fs,h=>by
  apply sR_ h;intro e q h;cases e with
  |none=>cases h|some e=>exact zlO_ (zy_ y fo g.toCg fs h).pe
 |Z,E,fo,g,.retN,st,fs,h=>by
  apply sR_ h;intro e q h;cases kf.mp h;exact zjM_
 |Z,E,fo,g,.if_ d a b,st,fs,h=>by
  apply sI_ h;intro e x y q h;simp only[iP]at h;exact ziM_ ((za_ d fo g.toCg fs.l h.1.1.2).pt h.1.1.1) (zN_ fo g a fs.r.l h.1.2) (zN_ fo g b fs.r.r h.2)
 |Z,E,fo,g,.view is d,st,fs,h=>zgG_ fo g d fs h|Z,E,fo,g,.ifL d a b,st,fs,h=>by
  apply sI_ h;intro e x y q h;simp only[iP]at h;exact ziM_ (znD_ (za_ d fo g.toCg fs.l h.1.1.2).pe (zce_ h.1.1.1)) (zN_ fo g a fs.r.l h.1.2) (zN_ fo g b fs.r.r h.2)
 |Z,E,fo,g,.ifY d a b,st,fs,h=>by
  apply sI_ h;intro e x y q h;simp only[iP]at h;exact ziM_ ((zy_ d fo g.toCg fs.l h.1.1.2).pt h.1.1.1) (zN_ fo g a fs.r.l h.1.2) (zN_ fo g b fs.r.r h.2)
 |Z,E,fo,g,.for_ ik src tg b,st,fs,h=>by
  apply sF_ h;intro t it x q h;simp only[iP]at h;exact znm_ g.own g.calm (zlD_ fo g.toCg (zjV_ h.1.1.2) h.1.2 (zdS_ src fo g.toCg fs.l) λes z=>⟨zw_ src fo g.toCg fs.l z,(zg_ z).1⟩) (tg_ok g.toCg g.nd (.inl g.fn) h.1.1.2) (zN_ fo g b fs.r h.2) (zbC_ h.1.1.1)
 |Z,E,fo,g,.raise d as,st,fs,h=>by
  apply sX_ h;intro e q h;apply kC_ h;intro y es q h;apply kN_ h;intro y p h;simp only[iP]at h;obtain⟨g1,g2⟩:=zbY_ g.toCh h.1.1.2;have hy:=eq_of_beq h.1.1.1;obtain⟨f1,f2⟩:=fs _ (je ..);have ha:=zw_ as fo g.toCg (λφ aG=>fs φ (ji _ aG)) h.2
  have hs:=(zg_ h.2).1;have h0:=zdA_ h.2 h.1.2;cases es with
  |nil=>exact absurd rfl h0|cons e es=>
   rw[jY,iP]at hs;exact zh6_ g.takes g.calm f1 (by rw[hy];exact f2) ha g1 g2 (zd_ hs.1) (zG_ hs.2) g.ex
 |Z,E,fo,g,.tryC f x as cl tb i gs,st,fs,h=>by
  apply sK_ h;intro b t n a r p q h;simp only[iP]at h;obtain⟨⟨⟨⟨h1,h2⟩,h3⟩,h4⟩,h5⟩:=h;have hi:Z.N[i]?=rP n:=by rw[g.N];exact eq_of_beq h3
  have hl:Z.env.scope.names.lookup n=rP .local:=by rw[g.nm];exact eq_of_beq h4
  have hN:Z.N.Nodup:=by rw[g.N];exact g.nd
  have c9:∀x,PSs (Z.inX x) (a::r) (hDen Z.K G gs):=λx=>zd8_ (Z:=Z.inX x) fo ⟨g.N,g.nm,g.kind⟩ g.nd g.fn (g.room.nX x) gs (λφ aG=>fs φ (ji _ (jr _ aG))) h5
  have dJ:PSsx Z b (tDropX (CtG Z.K f) (X.dens Z.K G E0 as)):=by
   apply sc_ h1;intro s' r' h1;rw[iP]at h1;cases jH.mp h1.1;apply sE_ h1.2;intro e q' h1;apply kC_ h1;intro y es q2 h1;apply kN_ h1;intro y p2 h1;simp only[iP]at h1;cases eq_of_beq h1.1.1.1;obtain⟨g1,g2⟩:=zbY_ g.toCh h1.1.1.2;obtain⟨ps,j,hj,F⟩:=fs _ (je ..);have ha:=zw_ as (Z:=Z.nox) fo g.nox.toCg (λφ aG=>fs φ (ji _ (kj _ aG))) h1.2
   have hs:=(zg_ h1.2).1;have h0:=zdA_ h1.2 h1.1.2;cases es with
   |nil=>exact absurd rfl h0|cons e es=>
    rw[jY,iP]at hs;exact ze5_ (ziX_ F (g.room.mono hj) ha g1 g2 (zd_ hs.1) (zG_ hs.2) (zay_ rfl _ _))
  apply kN_ h2;intro m p3 h2;simp only[iP]at h2;cases eq_of_beq h2.1.1;obtain⟨g1,g2⟩:=zbY_ g.toCh h2.1.2;obtain⟨u,hu,ru⟩:=fo.ex _ (by simpa using h2.2)
  cases ru;exact zgV_ g.stack.1 g.stack.2 dJ (ph_as hu hN hi hl c9 zjk_ g1 g2)
 |Z,E,fo,g,.tryM C f pt m as cl tb i gs,st,fs,h=>by
  apply sK_ h;intro b t n a r p q h;simp only[iP]at h;obtain⟨⟨⟨⟨h1,h2⟩,h3⟩,h4⟩,h5⟩:=h;have hi:Z.N[i]?=rP n:=by rw[g.N];exact eq_of_beq h3
  have hl:Z.env.scope.names.lookup n=rP .local:=by rw[g.nm];exact eq_of_beq h4
  have hN:Z.N.Nodup:=by rw[g.N];exact g.nd
  have c9:∀x,PSs (Z.inX x) (a::r) (hDen Z.K G gs):=λx=>zd8_ (Z:=Z.inX x) fo ⟨g.N,g.nm,g.kind⟩ g.nd g.fn (g.room.nX x) gs (λφ aG=>fs φ (ji _ (jr _ aG))) h5
  have dJ:PSsx Z b (tDropMX (gA Z.K C) m (CtG Z.K f) (pt.x.den Z.K G E0) (X.dens Z.K G E0 (as.map A.t))):=by
   apply sc_ h1;intro s' r' h1;rw[iP]at h1;cases jH.mp h1.1;apply sE_ h1.2;intro e q' h1;apply kC_ h1;intro y es q2 h1;apply kA_ h1;intro o f2 ap h1;simp only[iP]at h1;obtain⟨⟨⟨⟨⟨⟨⟨k1,k2⟩,k3⟩,k4⟩,k5⟩,k6⟩,k7⟩,k8⟩:=h1;cases eq_of_beq k1;obtain⟨ps,j,hj,F⟩:=fs _ (je ..);have ho:=(za_ pt.x (Z:=Z.nox) fo g.nox.toCg (λφ aG=>fs φ (ji _ (kj _ (kj _ aG)))) k7).pe
   have ha:=zw_ (as.map A.t) (Z:=Z.nox) fo g.nox.toCg (λφ aG=>fs φ (ji _ (kj _ (jr _ aG)))) k8
   have hs:=(zg_ k8).1;have eE:=zgA_ (env:=Z.env) (m:=m) k2 k3 hs (of_decide_eq_true k4);have h0:=zdA_ k8 (by simpa using k5)
   cases es with
   |nil=>exact absurd rfl h0|cons e es=>
    rw[jY,iP]at hs;exact ze5_ (zhR_ F (g.room.mono hj) ho ha (zd_ hs.1) (zG_ hs.2) eE (zay_ rfl _ _))
  apply kN_ h2;intro m p3 h2;simp only[iP]at h2;cases eq_of_beq h2.1.1;obtain⟨g1,g2⟩:=zbY_ g.toCh h2.1.2;obtain⟨u,hu,ru⟩:=fo.ex _ (by simpa using h2.2)
  cases ru;exact zgV_ g.stack.1 g.stack.2 dJ (ph_as hu hN hi hl c9 zjk_ g1 g2)
 |Z,E,fo,g,.pass,st,fs,h=>by
  rcases(lC _ _).mp h with h |h
  ·apply sP_ h;intro q;exact zli_
  ·apply sE_ h;intro e q h
   apply kK_ h;intro d n p h;cases d<;>first |exact zou_ |cases h
 |Z,E,fo,g,.never,st,fs,h=>ziy_|Z,E,fo,g,.try0 b aZ,st,fs,h=>by
  apply sT_ h;intro x a r y q h;simp only[iP]at h;have hb:=zN_ (Z:=Z.nox) (E:=E0) fo g.nox b fs.l h.1;have hl:=zN_ fo g aZ fs.r h.2;exact zhi_ g.stack.1 g.stack.2 (zjO_ hb) hl ziP_
theorem zN_:∀{Z:Cx}{E:XK}(fo:T.Ok G Z.K Z.mg) (g:Cq Z c k E) (ss:List S) {st:List kq},AllH Z k (S.fcss ss)->chkSs T G c ss st=rR->PSs Z st (S.dens Z.K G E ss)
 |Z,E,fo,g,[],st,fs,h=>by
  unfold chkSs at h;rw[S.dens,jH.mp h];exact zeF_
 |Z,E,fo,g,s::ss,st,fs,h=>by
  apply sc_ h;intro a t h;simp only[iP]at h;exact zcE_ (zgG_ fo g s fs.l h.1) (zN_ fo g ss fs.r h.2)
end
end
theorem am_nil {α:Type}{p:α->Prop}:∀x∈([]:List α),p x:=λ_ h=>by cases h
theorem am_cons {α:Type}{p:α->Prop}{a:α}{l:List α}(h:p a)(t:∀x∈l,p x):∀x∈a::l,p x:=λx hx=>by
 rcases jK.mp hx with rfl |hx
 ·exact h
 ·exact t x hx
theorem ftt_u {K:jG}{x:Str}{xs:List (List Nat)}(h:FtT K x xs):SqU K (gA K x) (xs.map tx):=by
 rcases h (λ_=>rQ)with h |h
 ·rcases h with h |⟨_,h⟩<;>cases h
 ·exact h
noncomputable def AllF (Φ:Fc->Prop):List Fc->Prop
 |[]=>True|φ::l=>Φ φ/\AllF Φ l
theorem AllF.mem {Φ:Fc->Prop}:∀{l:List Fc},AllF Φ l->∀φ∈l,Φ φ
 |[],_,_,h=>by cases h
 |ψ::l,h,φ,hm=>by
  rcases jK.mp hm with rfl |hm
  ·exact h.1
  ·exact AllF.mem h.2 φ hm
section
variable {P:jL}{w:jU}{K:j3}{mg:Str->Option iX}{base:Heap}{x q:Str}{st:kq}{N ps:List Str}{k:Nat}{T:Ft}{G:Gi}{body:List S}
theorem cq_of (S:FnScope N ps (defScope st)){f:i9}{ai:iX}{A:jW}{outer:List PySem.Env}{s:iY}{H:Hp}{E:XK}(hr:Room k (A.deeper (envOfC q (defScope st) s.heap.objs.size f ai))):
  Cq (cxOf (CXx P w) P w K mg base N q (defScope st) f ai A outer s H E) ⟨N,(defScope st).names⟩ k E where
 N:=rfl
 nm:=rfl
 kind:=S.kind
 calm:=rfl
 room:=hr
 pass:=zgm_
 cells:=λx hx=>by
  rcases hx with hx |hx
  ·exact zcH_ hx
  ·exact absurd rfl (S.nofree _ (lB hx))
 fn:=λ_=>rfl
 nd:=S.nd
 own:=PassesOwn.leaving
 takes:=zia_
 ex:=rfl
 stack:=⟨rfl,rfl⟩
theorem zgM_ {n m:Nat}{vs:List V}{H:Hp}{Q:VK}{E:XK}(h:CtG K (fnOf G n m body) vs H Q E):vs.length=n:=by
 obtain⟨F,h,ds,hs,dj,sh,os,fin⟩:=h;unfold fnOf at fin;split at fin
 ·rename_i hd
  rw[<- ODs.len os,hd]
 ·exact fin.elim
theorem okV {n m:Nat}(g0:G.Ok K)(fo:T.Ok G K mg)(fs:AllF (Fc.H P w K mg base k) (S.fcss body))(hc:chkSs T G ⟨N,(defScope st).names⟩ body (defBody st)=rR)
  (S:FnScope N ps (defScope st)) (b:Bnd K x q st ps) (hp:ps.length=n) (hm:N.length=n+m):OkF P w K mg base (CXx P w) (k+1) x q st ps (CtG K (fnOf G n m body)):=λf fd F=>
 ⟨F.okX S (λvs H Q E h=>(zgM_ h).trans hp.symm) λai A outer s H vs Q E hr h=>⟨VI.S.dens K G E body,zN_ fo (cq_of S hr) body fs.mem hc,zlz_ g0 hm vs H Q E h⟩,b f fd F⟩
noncomputable abbrev X.n (i:Int):X:=.k (.int i)
abbrev X.i (a:X)(n:Int):X:=.bin .ix a (.k (.int n))
abbrev GG (P:jL)(w:jU)(K:jG)(mg:Str->Option iX)(base:Heap)(k:Nat)(x:Str)(ps:List Str)(f:Fn):Prop:=Gd P w K mg base (CXx P w) k x ps (CtG K f)
theorem fkc {j:Nat}{f:Fn}(g:GG P w K mg base j x ps f)(h:j<=k:=by decide):Fc.H P w K mg base k (.call f x):=⟨ps,j,h,g⟩
theorem fkk {j:Nat}{f:Fn}(g:Gk P w K mg base (CXx P w) j x (gA K x) ps (CtG K f))(h:j+1<=k:=by decide):Fc.H P w K mg base k (.make f x):=⟨ps,j,h,g⟩
theorem fkm {j:Nat}{f:Fn}{c:Str}(g:Gm P w K mg base (CXx P w) j (gA K c) x ps (CtG K f))(h:j<=k:=by decide):Fc.H P w K mg base k (.meth x c f):=⟨ps,j,h,g⟩
def lN (st:kq):List Str:=(defScope st).names.filterMap λq=>match q.2 with |.local=>rP q.1 |.cell=>rP q.1 |_=>rQ
structure Ec (T:Ft)(G:Gi)(K:jG):Prop where
 b:∀x∈T.bs,L2.Fb K x
 c:∀c∈G.cs,L2.Fc K c
 a:∀c∈G.cs,∀a∈T.at_,L2.Fa K c a
 v:∀q∈T.gc,L2.Fv K q.1 q.2
 k:∀q∈G.kt,L2.Fk K q.1
 t:∀q∈G.kt,L2.FtT K q.1 q.2
 x:∀x∈G.ex,L2.Fk K x
theorem Ec.ft (e:Ec T G K)(m:Mgo K mg):T.Ok G K mg:=⟨λx h=>m.gb (e.b x h),λc h=>(e.c c h).cls,λc h a h'=>(e.a c h a h').no,λq h=>m.gv (e.v q h),λq h=>m.gkc (e.k q h),λx h=>m.gkc (e.x x h)⟩
structure Eo (P:jL)(w:jU)(base:Heap)(T:Ft)(G:Gi)(K:jG)(mg:Str->Option iX):Prop where
 m:Mgo K mg
 g:G.Ok K
 t:T.Ok G K mg
theorem gdT (k:Nat){n m:Nat}{f:Fn}(e:Eo P w base T G K mg)(hf:f=fnOf G n m body)(F:Fg K x st)(fs:AllF (Fc.H P w K mg base k) (S.fcss body))(hc:chkSs T G ⟨lN st,(defScope st).names⟩ body (defBody st)=rR:=by decide +kernel)
  (S:FnScope (lN st) ((lN st).take n) (defScope st):=by exact⟨rfl,rfl,rfl,by decide +kernel,by decide +kernel,by decide +kernel,by decide +kernel,by decide +kernel⟩)
  (b:Bnd K x x st ((lN st).take n):=by first |exact λ_ _ F=>Fun.binds1 rfl F (by intros;rfl)|exact λ_ _ F=>Fun.binds2 rfl F (by intros;rfl)|exact λ_ _ F=>Fun.binds3 rfl F (by intros;rfl)|exact λ_ _ F=>Fun.binds4 rfl F (by intros;rfl)|exact λ_ _ F=>Fun.binds5 rfl F (by intros;rfl))
  (hp:((lN st).take n).length=n:=by decide +kernel) (hm:(lN st).length=n+m:=by decide +kernel):GG P w K mg base (k+1) x ((lN st).take n) f:=by subst hf;exact gd_of e.m F (okV e.g e.t fs hc S b hp hm)
theorem gnT (k:Nat){n m:Nat}{f:Fn}(e:Eo P w base T G K mg)(hf:f=fnOf G n m body)(F:Fg K x st)(hc:chkSNs T G ⟨lN st,(defScope st).names⟩ body (defBody st)=rR:=by decide +kernel)
  (S:FnScope (lN st) ((lN st).take n) (defScope st):=by exact⟨rfl,rfl,rfl,by decide +kernel,by decide +kernel,by decide +kernel,by decide +kernel,by decide +kernel⟩)
  (b:Bnd K x x st ((lN st).take n):=by first |exact λ_ _ F=>Fun.binds1 rfl F (by intros;rfl)|exact λ_ _ F=>Fun.binds2 rfl F (by intros;rfl))
  (hp:((lN st).take n).length=n:=by decide +kernel) (hm:(lN st).length=n+m:=by decide +kernel):GdN P w K mg base (k+1) x ((lN st).take n) (CtG K f):=by
 subst hf;exact gn_of e.m F λf fd F=>⟨F.okN S (λvs H Q E h=>(zgM_ h).trans hp.symm) λai A outer s H vs Q E hr h=>⟨VI.S.dens K G E body,zdo_ e.t ⟨rfl,rfl,S.kind⟩ S.nd (λ_=>rfl) (by have:=hr.un;show(A.deeper (envOfC x (defScope st) s.heap.objs.size f ai)).units+60<cLine;lia) body hc,zlz_ e.g hm vs H Q E h⟩,b f fd F⟩
theorem fkn {j:Nat}{f:Fn}(g:GdN P w K mg base j x ps (CtG K f))(h:j<=k:=by decide):Fc.H P w K mg base k (.callN f x):=⟨ps,j,h,g⟩
theorem FnOk.cx0 {f:i9}{fd:kZ}{sp f6:Sp}(F:FnOk P w K mg base (CXx P w) k f fd ps sp)(h:∀vs H Q E,f6 vs H Q E->sp vs H Q E0):FnOk P w K mg base CX0 k f fd ps f6:=by
 refine⟨λvs H Q E q=>F.len _ _ _ _ (h _ _ _ _ q),λA outer s H args us vs Q E hr e0 c8 hb r q=>codeAny_mono (F.run A outer s H args us vs Q E0 hr e0 c8 hb r (h _ _ _ _ q)) λr s' z=>?_⟩
 cases r with
 |ok fl=>cases fl<;>exact z
 |error e=>
  obtain⟨_,_,_,_,_,_,_,_,_,_,_,_,h⟩:=z;exact h.elim
theorem zeg_:∀(ns:List Int) {H:Hp},DRs K (ns.map D.int) (ns.map V.int) H
 |[],_=>by unfold DRs;rfl
 |n::ns,H=>by rw[ju,ju];unfold DRs;exact⟨_,_,rfl,by unfold DR;rfl,zeg_ ns⟩
noncomputable def scr (ns:List Int):D:=.fz (.nd .scr (ns.map .int))
theorem zjL_ {f:Fn}(hf:∀ns:List Int,ns.length<=63->BitsOk ns->f.val [scr ns]=.ok (.bl rR)):∀vs H Q E,spL K vs H Q E->CtG K f vs H Q E0:=by
 rintro vs H Q E ⟨a,ns,rfl,hS,hl,hb,q⟩;refine zbM_ (ds:=[.nd .scr (ns.map .int)]) (Same.refl H) ?_ ?_
 ·unfold DRs;exact⟨_,_,rfl,by unfold DR;exact⟨a,_,rfl,hS,zeg_ ns⟩,by unfold DRs;rfl⟩
 ·have:[D.nd .scr (ns.map .int)].map D.vw=[scr ns]:=by
   unfold D.vw scr D.imm;rfl
  rw[this,hf ns hl hb];rintro F' H' x v h fresh d s o;have o:(∀p,h p=rQ)/\DR K (.bl rR) v F':=by
   have o:OD K (.bl rR) v F' h:=o;unfold OD at o;exact o
  cases o.2.bl;exact q H'
theorem okLV {fa:i9}{fd:kZ}{f:Fn}(F:FnOk P w K mg base (CXx P w) k fa fd ps (CtG K f))(hf:∀ns:List Int,ns.length<=63->BitsOk ns->f.val [scr ns]=.ok (.bl rR)):FnOk P w K mg base CX0 k fa fd ps (spL K):=FnOk.cx0 F (zjL_ hf)
end
section
variable {G:Gi}{pn:Nat->Bool}{env e:Env}{ss a b:List S}{y:Y}{c:X}{d:D}{i:Nat}{ds:List D}
theorem rf_ {α:Type}{a:α}:a=a:=of_eq_true (eq_self a)
theorem zfj_ (r:Mr Env Fl)(f g:Env->Mr Env Fl):seqM (seqM r f) g=seqM r λe=>seqM (f e) g:=by
 cases r with
 |ok o e=>cases o<;>rfl
 |ex c e=>rfl|no=>rfl
theorem zdV_:∀(a:List S) (env:Env),seqM (S.runs G pn a env) (λe=>S.runs G pn b e)=S.runs G pn (a++b) env
 |[],env=>by rw[S.runs];rfl
 |s::a,env=>by
  rw[lq,S.runs,S.runs,zfj_];congr 1;funext e;exact zdV_ a e
theorem zom_ (h:y.ev G env=.ok d e)(hp:pn i=rS)(hi:i<e.length):S.runs G pn (.asg i y::ss) env=S.runs G pn ss (e.set i (rP d)):=by
 rw[S.runs,S.run,h];show seqM (if pn i=rS/\i<e.length then .ok .nx (e.set i (rP d))else .no) _=_
 rw[if_pos ⟨hp,hi⟩];rfl
theorem znc_ (h:y.ev G env=.ok d e):S.runs G pn (.ex y::ss) env=S.runs G pn ss e:=by
 rw[S.runs,S.run,h];rfl
theorem za4_ (h:y.ev G env=.ok d e):S.runs G pn (.ret y::ss) env=.ok (.rt d) e:=by
 rw[S.runs,S.run,h];rfl
theorem za9_ (h:(c.ev G env).bind blD=.ok rR):S.runs G pn (.if_ c a b::ss) env=S.runs G pn (a++ss) env:=by
 rw[S.runs,S.run,h,<- zdV_];rfl
theorem zT_ (h:(c.ev G env).bind blD=.ok rS):S.runs G pn (.if_ c a b::ss) env=S.runs G pn (b++ss) env:=by
 rw[S.runs,S.run,h,<- zdV_];rfl
theorem zk8_ {t:Bool}(h:y.ev G env=.ok (.bl t) e):S.runs G pn (.ifY y a b::ss) env=if t=rR then S.runs G pn (a++ss) e else S.runs G pn (b++ss) e:=by
 rw[S.runs,S.run,h];cases t with
 |true=>rw[if_pos rfl,<- zdV_];rfl|false=>rw[if_neg (by decide),<- zdV_];rfl
theorem zbJ_ (h:D.colds ds=rR)(i:Nat):pins ds i=rS:=by
 unfold pins;induction ds generalizing i with
 |nil=>rfl|cons d ds ih=>
  unfold D.colds at h;rw[iP]at h;cases i with
  |zero=>show(!d.cold)=rS;rw[h.1];rfl|succ i=>exact ih h.2 i
theorem zaK_:∀{ds:List D}{env:Env},D.colds ds=rR->outs ds env=ds
 |[],_,_=>by unfold outs;rfl
 |d::ds,[],h=>by
  unfold D.colds at h;rw[iP]at h;unfold outs;rw[if_pos h.1,zaK_ h.2]
 |d::ds,o::env,h=>by
  unfold D.colds at h;rw[iP]at h;unfold outs;rw[if_pos h.1,zaK_ h.2]
theorem zhK_ {f:Fn}{ds':List D}(h:f ds=.ok d ds'):f.val ds=.ok d:=by unfold Fn.val;rw[h]
theorem zhI_ (ns:List Int):(scr ns).vw=scr ns:=by unfold scr D.vw D.imm;rfl
theorem zk6_ (i:Int):(D.int i).vw=.int i:=rfl
theorem zgn_ (l:List Nat):(D.str l).vw=.str l:=rfl
theorem bl_vw (b:Bool):(D.bl b).vw=.bl b:=rfl
theorem zny_:D.non.vw=.non:=rfl
theorem zgJ_ (ns:List Int):lenA [scr ns]=.ok (.int ns.length):=by
 show Mo.ok (D.int ((ns.map D.int).length:Nat))=_
 rw[i7]
theorem atI_nn {α:Type}{l:List α}{i:Int}{a:α}(h0:0<=i)(h:l[i.toNat]?=rP a):atI l i=rP a:=by
 have hi:=(jN.mp h).1;unfold atI ixN;rw[if_pos h0,if_pos (by omega)]
 exact h
section
variable (i j:Int)
theorem vd_lt:ltD (.int i) (.int j)=.ok (.bl (decide (i<j))):=rfl
theorem vd_le:leD (.int i) (.int j)=.ok (.bl (decide (i<=j))):=rfl
theorem vd_gt:gtD (.int i) (.int j)=.ok (.bl (decide (j<i))):=rfl
theorem zor_:addA (.int i) (.int j)=.ok (.int (i+j)):=rfl
theorem vd_bl (b:Bool):blD (.bl b)=.ok b:=rfl
theorem vd_int:intD (.int i)=.ok i:=rfl
theorem vd_str (l:List Nat):strOf (.str l)=.ok l:=rfl
end
theorem vd_mod {i j:Int}(h:0<j):modD (.int i) (.int j)=.ok (.int (i % j)):=by
 show Mo.grd _ _=_
 exact if_pos h
theorem zmU_ {i j:Int}(h:CDivG i j):divD (.int i) (.int j)=.ok (.int (i / j)):=by
 show Mo.grd _ _=_
 exact if_pos h
theorem vd_mul {i j:Int}(h:IntMulOk i j):mulD (.int i) (.int j)=.ok (.int (i*j)):=by
 show Mo.grd _ _=_
 exact if_pos h
theorem vd_ix {ns:List Int}{k:Int}(h0:0<=k)(h:k<ns.length):ixA (scr ns) (.int k)=.ok (.int (ns.getD k.toNat 0)):=by
 show Mo.opt ((atI (ns.map D.int) k).map D.vw)=_
 have hk:k.toNat<ns.length:=by lia
 rw[atI_nn h0 (a:=.int (ns.getD k.toNat 0)) (by rw[jB,jf hk];simp[lA,hk])]
 rfl
end
section
variable {α β s:Type}{G:Gi}{pn:Nat->Bool}{env e:Env}{d x y:D}
theorem zi0_ (g:Env->Mr Env Fl):seqM (.ok .nx e) g=g e:=of_eq_true (eq_self _)
theorem zoo_ (g:Env->Mr Env Fl):seqM (.ok (.rt d) e) g=.ok (.rt d) e:=of_eq_true (eq_self _)
theorem zaW_ (a:α)(t:s)(k:α->s->Mr s β):(Mr.ok a t).bind k=k a t:=of_eq_true (eq_self _)
theorem zbp_ (a:α)(k:α->Mo β):(Mo.ok a).bind k=k a:=of_eq_true (eq_self _)
theorem zk0_ (a:α):Mo.opt (rP a)=.ok a:=of_eq_true (eq_self _)
theorem ifM_t (r1 r2:Mr Env Fl):ifM env (.ok rR) r1 r2=r1:=of_eq_true (eq_self _)
theorem ifM_f (r1 r2:Mr Env Fl):ifM env (.ok rS) r1 r2=r2:=of_eq_true (eq_self _)
theorem and_f (r:Mo D):andD (.bl rS) r=.ok (.bl rS):=of_eq_true (eq_self _)
theorem zkK_ (i:Nat)(hp:pn i=rS)(hi:i<e.length):asgM pn i (.ok d e)=.ok .nx (e.set i (rP d)):=by
 unfold asgM;rw[zaW_,if_pos ⟨hp,hi⟩]
theorem zjY_:dropM (.ok d e)=.ok .nx e:=of_eq_true (eq_self _)
theorem zmu_:retM (.ok d e)=.ok (.rt d) e:=of_eq_true (eq_self _)
theorem get_0 (l:Env):getE (rP d::l) 0=.ok d.vw:=of_eq_true (eq_self _)
theorem get_s (o:Option D)(l:Env)(n:Nat):getE (o::l) (n+1)=getE l n:=of_eq_true (eq_self _)
theorem mv_0 (l:Env):mvM (rP d::l) 0=.ok d (rQ::l):=of_eq_true (eq_self _)
theorem mv_s (o:Option D)(l:Env)(n:Nat):mvM (o::l) (n+1)=match mvM l n with |.ok d e=>.ok d (o::e)|.ex c e=>.ex c (o::e)|.no=>.no:=by
 unfold mvM;rw[mj]
 match l[n]? with
 |some (rP d)=>rfl
 |some rQ=>rfl|none=>rfl
def keep (m:Mo D)(env:Env)(u:List Nat):Mr Env D:=match m with
 |.ok d=>if d.new then .ok d env else .ok d (frzE env u)
 |.ex c=>.ex c env|.no=>.no
theorem zcv_ (x:X):stX G env x=keep (x.ev G env) env x.uses:=rfl
theorem zab_ (u:List Nat)(hn:d.new=rR):keep (.ok d) env u=.ok d env:=if_pos hn
theorem zaq_ (u:List Nat)(hn:d.new=rS):keep (.ok d) env u=.ok d (frzE env u):=if_neg (by rw[hn];decide)
section
variable (neg:Bool)(lo hi:Option Int)
theorem fz_ix:ixA (.fz d) x=ixA d x:=of_eq_true (eq_self _)
theorem fz_in:inA neg x (.fz d)=inA neg x d:=of_eq_true (eq_self _)
theorem zon_:lenA [.fz d]=lenA [d]:=of_eq_true (eq_self _)
theorem zjz_:addA (.fz d) x=addA d x:=of_eq_true (eq_self _)
theorem zlr_:addA x (.fz d)=addA x d:=of_eq_true (eq_self _)
theorem fz_sl:slA (.fz d) lo hi=slA d lo hi:=of_eq_true (eq_self _)
theorem znv_ (cs:List Str)(f:Str):fldD cs f (.fz d)=fldD cs f d:=of_eq_true (eq_self _)
theorem zkP_:listA [.fz d]=listA [d]:=of_eq_true (eq_self _)
theorem zlQ_:walkA [.fz d]=walkA [d]:=of_eq_true (eq_self _)
theorem zm1_ (n:String):isaD n (.fz d)=isaD n d:=of_eq_true (eq_self _)
theorem zmT_ (n:Nat):eqT n (.fz d) x=eqT n d x:=by cases n<;>rfl
theorem zlf_ (n:Nat):eqT n x (.fz d)=eqT n x d:=by cases n<;>rfl
theorem fz_eq:eqD neg (.fz d) x=eqD neg d x:=by unfold eqD;rw[zmT_]
theorem zov_:eqD neg x (.fz d)=eqD neg x d:=by unfold eqD;rw[zlf_]
theorem fz_vw (h:d.imm=rS):(D.fz d).vw=.fz d:=by unfold D.vw;rw[if_neg];rw[show(D.fz d).imm=d.imm from by rw[D.imm]];rw[h];decide
end
theorem znR_ (i:Int):X.ev G env (.k (.int i))=.ok (.int i):=rf_
theorem zjs_ (l:List Nat):X.ev G env (.k (.str l))=.ok (.str l):=rf_
theorem xk_bl (b:Bool):X.ev G env (.k (.bl b))=.ok (.bl b):=rf_
theorem zl5_:X.ev G env (.k .non)=.ok .non:=rf_
theorem znq_ (n:Str)(i:Int):X.ev G env (.g n (.int i))=.ok (.int i):=rf_
theorem zmG_ (n:Str)(l:List Nat):X.ev G env (.g n (.str l))=.ok (.str l):=rf_
theorem or_b (a b:Bool):orD (.bl a) (.ok (.bl b))=.ok (.bl (a ||b)):=by cases a<;>rfl
theorem and_b (a b:Bool):andD (.bl a) (.ok (.bl b))=.ok (.bl (a && b)):=by cases a<;>rfl
theorem zgI_ {i j:Int}(h0:0<j)(h1:j<1073741824):divD (.int i) (.int j)=.ok (.int (i / j)):=zmU_ (zlU_ h0 (by lia))
theorem zda_ {i j:Int}(h0 : -18446744073709551616<i)(h1:i<18446744073709551616):mulD (.int i) (.int j)=.ok (.int (i*j)):=vd_mul (zeY_ (.inl ⟨by lia,by lia⟩))
theorem zfD_ (l:List Nat):(D.str l).new=rR:=by rw[D.new]<;>simp
theorem zhd_:D.non.new=rR:=by rw[D.new]<;>simp
theorem nw_nd (k:Nd)(ds:List D):(D.nd k ds).new=D.news ds:=by rw[D.new]
theorem nw_c (d:D)(ds:List D):D.news (d::ds)=(d.new && D.news ds):=by rw[D.news]
theorem nw_0:D.news []=rR:=by rw[D.news]
section
variable (a b c x:X)(as:List X)
theorem xv_v (i:Nat):X.ev G env (.v i)=getE env i:=rf_
theorem zhm_ (o:Bo):X.ev G env (.bin o a b)=(a.ev G env).bind λx=>(b.ev G env).bind λy=>o.f x y:=rf_
theorem xv_ch (o o':Bo):X.ev G env (.ch o o' a b c)=(a.ev G env).bind λx=>(b.ev G env).bind λy=>chD o o' x y (c.ev G env):=rf_
theorem zn3_:X.ev G env (.and a b)=(a.ev G env).bind λx=>andD x (b.ev G env):=rf_
theorem xv_or:X.ev G env (.or a b)=(a.ev G env).bind λx=>orD x (b.ev G env):=rf_
theorem zmk_:X.ev G env (.not a)=(a.ev G env).bind λx=>(blD x).bind λb=>.ok (.bl (!b)):=rf_
theorem zni_:X.ev G env (.ifx c a b)=((c.ev G env).bind blD).bind λt=>if t=rR then a.ev G env else b.ev G env:=rf_
theorem xv_sl (lo hi:Option X):X.ev G env (.sl a lo hi)=(a.ev G env).bind λx=>(X.evO G env lo).bind λl=>(X.evO G env hi).bind λh=>slA x l h:=rf_
theorem zn5_:X.ev G env (.tup as)=(X.evs G env as).bind λds=>.lim ds.length (.ok (.nd .tup ds)):=rf_
theorem zlq_:X.ev G env (.lst as)=(X.evs G env as).bind λds=>.lim ds.length (.ok (.nd .lst ds)):=rf_
theorem zmQ_ (f:Str):X.ev G env (.fld a f)=(a.ev G env).bind (fldD G.cs f):=rf_
theorem zgu_ (f:Fn)(n:Str):X.ev G env (.call f n as)=(X.evs G env as).bind λds=>f.val (ds.map .vw):=rf_
theorem xv_bf (o:Bf):X.ev G env (.bf o as)=(X.evs G env as).bind o.f:=rf_
theorem zjS_ (f:Fn)(n:Str):X.ev G env (.make f n as)=(X.evs G env as).bind (makeD f n):=rf_
theorem ziW_ (o:Sm):X.ev G env (.sm o a as)=(a.ev G env).bind λd=>(strOf d).bind λl=>(X.evs G env as).bind λc=>o.f l c:=rf_
theorem zme_ (ns tb:List (String×Bool))(h:(ns,tb)∈G.ix):X.ev G env (.isx a ns tb)=(a.ev G env).bind (isxD tb):=if_pos h
theorem zoD_ (n:String):X.ev G env (.isa a n)=(a.ev G env).bind (isaD n):=rf_
theorem znl_:X.ev G env .dct0=.ok (.nd (.dct []) []):=rf_
theorem xs_0:X.evs G env []=.ok []:=rf_
theorem xs_c:X.evs G env (a::as)=(a.ev G env).bind λd=>(X.evs G env as).bind λds=>.ok (d::ds):=rf_
theorem xo_0:X.evO G env rQ=.ok rQ:=rf_
theorem xo_s:X.evO G env (rP a)=(a.ev G env).bind λd=>(intD d).bind λi=>.ok (rP i):=rf_
theorem xt_0:X.evT G env rQ=.ok rR:=rf_
theorem xt_s:X.evT G env (rP a)=(a.ev G env).bind blD:=rf_
end
def En (r:Mr Env Fl)(Q:Fl->Env->Prop):Prop:=∃o e,r=.ok o e/\Q o e
theorem zoy_ {l:List β}{enc:β->List D}{is:List Nat}{body k:Env->Mr Env Fl}{Q:Fl->Env->Prop}(P:List β->Env->Prop)(h0:P [] env)
  (hs:∀d x r e,l=d++x::r->P d e->∃e',setG pn e is (enc x)=rP e'/\En (body e') λo bE=>((o=.nx\/o=.ct)/\P (d++[x]) bE)\/((∃v,o=.rt v)/\Q o bE))
  (hk:∀e,P l e->En (k e) Q):En (seqM (forM (λe x=>match setG pn e is x with |some e'=>body e' |none=>.no) (l.map enc) env) k) Q:=by
 suffices main:∀(r d:List β) (e:Env),l=d++r->P d e->En (forM (λe x=>match setG pn e is x with |some e'=>body e' |none=>.no) (r.map enc) e) (λo e=>(o=.nx/\P l e)\/((∃v,o=.rt v)/\Q o e)) by
  obtain⟨o,e,h,q⟩:=main l [] env rfl h0;rw[h];rcases q with⟨rfl,q⟩|⟨⟨v,rfl⟩,q⟩
  ·rw[zi0_];exact hk e q
  ·rw[zoo_];exact⟨_,_,rfl,q⟩
 intro r;induction r with
 |nil=>intro d e hl hp;rw[ko]at hl;subst hl;exact⟨.nx,e,rfl,.inl ⟨rfl,hp⟩⟩
 |cons x r ih=>
  intro d e hl hp;obtain⟨e',h1,o,bE,h2,q⟩:=hs d x r e hl hp;rw[ju];unfold forM;simp only[h1,h2];rcases q with⟨h |h,q⟩|⟨⟨v,h⟩,q⟩
  ·subst h;exact ih (d++[x]) bE (by rw[hl,mx];rfl) q
  ·subst h;exact ih (d++[x]) bE (by rw[hl,mx];rfl) q
  ·subst h;exact⟨_,_,rfl,.inr ⟨⟨v,rfl⟩,q⟩⟩
theorem zcW_ {l:List β}{enc:β->List D}{ik:Ik}{x:X}{tg:Tg}{b ss:List S}{Q:Fl->Env->Prop}{e1:Env}{items:List D}(P:List β->Env->Prop)(hg:keep (x.ev G env) env x.uses=.ok d e1)(hi:ik.f [d]=.ok items)(ht:tgsD tg items=rP (l.map enc))(h0:P [] e1)
  (hs:∀d x r e,l=d++x::r->P d e->∃e',setG pn e tg.is (enc x)=rP e'/\En (S.runs G pn b e') λo bE=>((o=.nx\/o=.ct)/\P (d++[x]) bE)\/((∃v,o=.rt v)/\Q o bE))
  (hk:∀e,P l e->En (S.runs G pn ss e) Q):En (S.runs G pn (.for_ ik [x] tg b::ss) env) Q:=by
 have e0:evG G env ([x].map .x)=.ok [.d d] e1:=by
  show((stX G env x).bind λd e=>(evG G e []).bind λgs e'=>.ok (.d d::gs) e')=_
  rw[zcv_,hg];rfl
 rw[S.runs,S.run,e0];have e1:forS pn ik tg (.ok [.d d] e1) (λe=>S.runs G pn b e)=forM (λe x=>match setG pn e tg.is x with |some e'=>S.runs G pn b e' |none=>.no) (l.map enc) e1:=by
  unfold forS;show(match ik.f [d]with |.ok items=>_ |_=>_)=_
  rw[hi];show(match tgsD tg items with |some xs=>_ |none=>_)=_
  rw[ht]<;>rfl
 rw[e1];exact zoy_ P h0 hs hk
theorem zaw_ {y:Y}{i:Nat}{ss:List S}(h:y.ev G env=.ok d env)(hp:pn i=rS)(hi:Nat.ble (i+1) env.length=rR:=by rfl):S.runs G pn (.asg i y::ss) env=S.runs G pn ss (env.set i (rP d)):=zom_ h hp (oZ hi)
theorem zev_ {l:List β}{enc:β->List D}{ik:Ik}{x:X}{tg:Tg}{b ss:List S}{Q:Fl->Env->Prop}{items:List D}(P:List β->Env->Prop)(hg:keep (x.ev G env) env x.uses=.ok d env)(hi:ik.f [d]=.ok items)(ht:tgsD tg items=rP (l.map enc))(h0:P [] env)
  (hs:∀d x r e,l=d++x::r->P d e->∃e',setG pn e tg.is (enc x)=rP e'/\En (S.runs G pn b e') λo bE=>((o=.nx\/o=.ct)/\P (d++[x]) bE)\/((∃v,o=.rt v)/\Q o bE))
  (hk:∀e,P l e->En (S.runs G pn ss e) Q):En (S.runs G pn (.for_ ik [x] tg b::ss) env) Q:=zcW_ P hg hi ht h0 hs hk
def atS (env:Env)(i:Nat):Option D:=match env[i]? with |some o=>o |none=>rQ
theorem ziz_ (i:Nat):atE env (i,[])=atS env i:=by
 unfold atE atS
 match env[i]? with
 |some (rP d)=>show d.at []=_;rw[D.at]
 |some rQ=>rfl|none=>rfl
theorem zhP_ {i:Nat}{c c':D}(h:atS env i=rP c):putE env (i,[]) c'=env.set i (rP c'):=by
 unfold putE;unfold atS at h
 match e:env[i]?,h with
 |some (rP d),_=>show env.set i (rP (d.put [] c'))=_;rw[D.put]
def call1 (f:Fn)(i:Nat)(ds:List D)(e:Env):Mr Env D:=match atS e i with
 |some c=>(match f (c::ds)with
  |.ok r (c'::_)=>.ok r (e.set i (rP c'))|.ok r []=>.ok r e|.ex x (c'::_)=>.ex x (e.set i (rP c'))|.ex x []=>.ex x e|.no=>.no)
 |none=>.no
theorem zae_ {f:Fn}{i:Nat}{ds ds':List D}{c c' r:D}(h:atS e i=rP c)(hf:f (c::ds)=.ok r (c'::ds')):call1 f i ds e=.ok r (e.set i (rP c')):=by
 unfold call1;rw[h];simp only[hf]
def agD (ds:List D):List Ag:=ds.map .d
theorem zhe_:∀(ds:List D),resolve e (agD ds)=rP ds
 |[]=>rfl|d::ds=>by show(resolve e (agD ds)).map _=_;rw[zhe_ ds];rfl
theorem zhq_ (q:Pl):∀(ds:List D),apartOf q (agD ds)=rR
 |[]=>rfl|d::ds=>zhq_ q ds
theorem zhc_:∀(ds:List D),apartAll (agD ds)=rR
 |[]=>rfl|d::ds=>zhc_ ds
theorem zgp_:∀(ds ds':List D),restE e (agD ds) ds'=e
 |[],ds'=>by cases ds'<;>rfl
 |d::ds,[]=>rfl
 |d::ds,_::ds'=>zgp_ ds ds'
theorem zcX_ {f:Fn}{i:Nat}{ds:List D}:callG f (.l (i,[])::agD ds) e=call1 f i ds e:=by
 unfold callG;show(match(atE e (i,[])).bind λc=>(resolve e (agD ds)).map λds=>c::ds with |some ds'=>_ |none=>_)=_
 rw[ziz_,zhe_];unfold call1;cases h:atS e i with
 |none=>rfl|some c=>
  show(if(apartOf (i,[]) (agD ds) && apartAll (agD ds))=rR then _ else _)=_
  rw[zhq_,zhc_,if_pos (show(rR && rR)=rR from rfl)]
  dsimp only;cases f (c::ds)with
  |no=>rfl|ok r ds'=>
   cases ds' with
   |nil=>rfl|cons c' ds'=>show Mr.ok r (putE (restE e (agD ds) ds') (i,[]) c')=_;rw[zgp_,zhP_ h]
  |ex x ds'=>
   cases ds' with
   |nil=>rfl|cons c' ds'=>show Mr.ex x (putE (restE e (agD ds) ds') (i,[]) c')=_;rw[zgp_,zhP_ h]
def onS (T:String)(env:Env)(i:Nat)(m:Mr Env D):Mr Env D:=match atS env i with |some c=>if isK T c=rR then m else .no |none=>.no
theorem znp_ {T:String}{i:Nat}{m:Mr Env D}{c:D}(h:atS env i=rP c)(hk:isK T c=rR):onS T env i m=m:=by unfold onS;rw[h];exact if_pos hk
theorem zmF_ (i:Nat)(as:List A)(T:String)(k:Pl->List Ag->Env->Mr Env D):lentG G env (.v i) as (isK T) k=onS T env i ((evG G env as).bind (k (i,[]))):=by
 unfold lentG onS;have e:Pt.ev G env (.v i)=if(atS env i).isSome then Mo.ok (i,[])else Mo.no:=by rw[Pt.ev,ziz_]
 rw[e];cases h:atS env i with
 |none=>rfl|some c=>
  have e2:=ziz_ (env:=env) i;rw[h]at e2;simp only[pM,if_true,e2]
theorem bm_v (o:Bm)(i:Nat)(x:X):Y.ev G (.bm o (.v i) [.x x]) env=onS o.ty env i ((keep (x.ev G env) env x.uses).bind λd e=>call1 o.f i [d] e):=by
 rw[Y.ev,zmF_];congr 1;show((stX G env x).bind λd e=>(evG G e []).bind λgs e'=>.ok (.d d::gs) e').bind _=_
 rw[zcv_];cases keep (x.ev G env) env x.uses with
 |ok d e=>exact zcX_ (ds:=[d])|ex c e=>rfl|no=>rfl
theorem zeH_ (x:X):Y.ev G (.pu x) env=keep (x.ev G env) env x.uses:=by rw[Y.ev,zcv_]
theorem ye_mv (i:Nat):Y.ev G (.mv i) env=mvM env i:=by rw[Y.ev]
theorem zhJ_ (y:Y):Y.ev G (.not y) env=(y.ev G env).bind λd e=>moTo ((blD d).bind λb=>.ok (.bl (!b))) e:=by rw[Y.ev]
theorem ziq_ (o:Bo)(y z:Y):Y.ev G (.bin o y z) env=(y.ev G env).bind λd e=>(z.ev G e).bind λd2 e2=>moTo (o.f d d2) e2:=by rw[Y.ev]
theorem znj_ {i:Nat}{x:X}{d:D}{n C:Str}{ns:List Str}{xs:List D}(hx:x.ev G env=.ok d)(hd:d.new=rR)(hc:atS env i=rP (.nd (.obj C ns) xs))(hC:C∈G.cs)(hl:ns.length<1000)(hn:n∉ns):setFM G n (.v i) (.x x) env=.ok .nx (env.set i (rP (.nd (.obj C (ns++[n])) (xs++[d])))):=by
 unfold setFM;have e:Pt.ev G env (.v i)=Mo.ok (i,[]):=by rw[Pt.ev,ziz_,hc];rfl
 have e1:evG G env [.x x,.l (.v i)]=.ok [.d d,.l (i,[])] env:=by
  unfold evG;rw[zcv_,hx,zab_ _ hd,zaW_];unfold evG;rw[e];rfl
 rw[e1,zaW_];have e3:clsAt env (i,[])=rP C:=by unfold clsAt;rw[ziz_,hc]
 simp only[e3,if_pos hC];unfold callG;have e2:resolve env [.d d,.l (i,[])]=rP [d,.nd (.obj C ns) xs]:=by
  show((atE env (i,[])).bind λc=>rP [c]).map (λds=>d::ds)=_
  rw[ziz_,hc];rfl
 rw[e2];have hf:setFF n [d,.nd (.obj C ns) xs]=.ok .non [.gone,.nd (.obj C (ns++[n])) (xs++[d])]:=by
  unfold setFF;simp only[if_pos hl,if_neg hn]
 show dropM (if _ then(match setFF n [d,.nd (.obj C ns) xs]with |.ok r ds'=>Mr.ok r (restE env [.d d,.l (i,[])] ds')|.ex x ds'=>_ |.no=>_)else _)=_
 rw[hf,if_pos (show apartAll _=rR from rfl)]
 show Mr.ok Fl.nx (putE env (i,[]) _)=_
 rw[zhP_ hc]
theorem fn_en {ds:List D}{n m:Nat}{body:List S}(hl:ds.length=n)(hc:D.colds ds=rR)(h:∀pn,(∀i,pn i=rS)->En (S.runs G pn body (ds.map rP++i8 m rQ)) λo _=>o=.rt d\/(o=.nx/\d=.non)):fnOf G n m body ds=.ok d ds:=by
 obtain⟨o,e,h,q⟩:=h _ (zbJ_ hc);unfold fnOf;rw[if_pos hl,h];rcases q with rfl |⟨rfl,rfl⟩
 ·show Mr.ok d (outs ds e)=_;rw[zaK_ hc]
 ·show Mr.ok D.non (outs ds e)=_;rw[zaK_ hc]
theorem zbX_ {ds:List D}{n m:Nat}{body:List S}(hl:ds.length=n)(hc:D.colds ds=rR)(h:∀pn,(∀i,pn i=rS)->En (S.runs G pn body (ds.map rP++i8 m rQ)) λo _=>o=.rt d\/(o=.nx/\d=.non)):(fnOf G n m body).val ds=.ok d:=zhK_ (fn_en hl hc h)
theorem znU_ {ds:List D}{n m:Nat}{body:List S}(hl:ds.length=n)(h:S.runs G (pins ds) body (ds.map rP++i8 m rQ)=.ok .nx e):fnOf G n m body ds=.ok .non (outs ds e):=by
 unfold fnOf;rw[if_pos hl,h]
end
class Im {α:Type}(g:α->D):Prop where
 im:∀x,(g x).imm=rR
section
variable {α:Type}{g:α->D}[Im g]{l:List α}{x:α}
theorem znx_ (x:α):(g x).vw=g x:=by unfold D.vw;rw[if_pos (Im.im x)]
theorem ziV_ (l:List α):D.imms (l.map g)=rR:=by
 induction l with
 |nil=>rw[mn,D.imms]|cons x l ih=>rw[ju,D.imms,Im.im x,ih];rfl
theorem zdB_ (l:List α):(l.map g).map D.vw=l.map g:=by
 rw[km];exact la λx _=>znx_ x
mutual
theorem zgN_:∀(d:D),d.imm=rR->d.new=rR
 |.non,_=>by rw[D.new]<;>simp
 |.bl _,_=>by rw[D.new]<;>simp
 |.int _,_=>by rw[D.new]<;>simp
 |.str _,_=>by rw[D.new]<;>simp
 |.nd .tup ds,h=>by rw[D.imm]at h;rw[D.new];exact zbQ_ ds h
 |.nd .ktup ds,h=>by rw[D.imm]at h;rw[D.new];exact zbQ_ ds h
 |.nd .lst _,h=>by simp[D.imm]at h
 |.nd .scr _,h=>by simp[D.imm]at h
 |.nd (.exc _) _,h=>by simp[D.imm]at h
 |.nd (.dct _) _,h=>by simp[D.imm]at h
 |.nd (.obj _ _) _,h=>by simp[D.imm]at h
 |.fz d,h=>by rw[D.imm]at h;rw[D.new];exact h
 |.pin _,h=>by simp[D.imm]at h
 |.gone,h=>by simp[D.imm]at h
theorem zbQ_:∀(ds:List D),D.imms ds=rR->D.news ds=rR
 |[],_=>by rw[D.news]
 |d::ds,h=>by rw[D.imms,iP]at h;rw[D.news,zgN_ d h.1,zbQ_ ds h.2];rfl
end
theorem znb_ (x:α):(g x).new=rR:=zgN_ _ (Im.im x)
instance:Im D.int:=⟨λ_=>rfl⟩
instance:Im D.str:=⟨λ_=>rfl⟩
instance:Im D.bl:=⟨λ_=>rfl⟩
noncomputable def LS (g:α->D)(l:List α):D:=.nd .lst (l.map g)
theorem ls_vw:(LS g l).vw=.fz (LS g l):=rfl
theorem zQ_:(D.fz (LS g l)).vw=.fz (LS g l):=fz_vw rfl
theorem zcS_:(LS g l).new=rR:=by unfold LS;rw[D.new];exact zbQ_ _ (ziV_ l)
theorem z7_:(D.fz (LS g l)).new=rS:=by rw[D.new];rfl
theorem zoL_:lenA [LS g l]=.ok (.int l.length):=by
 show Mo.ok (D.int ((l.map g).length:Nat))=_;rw[i7]
theorem ls_ix:ixA (LS g l) (.int i)=.opt ((atI l i).map g):=by
 show Mo.opt ((atI (l.map g) i).map D.vw)=_
 unfold atI;rw[i7];cases ixN l.length i with
 |none=>rfl|some k=>
  show Mo.opt (((l.map g)[k]?).map D.vw)=_
  rw[jB,Option.map_map];show _=Mo.opt ((l[k]?).map g)
  congr 2;funext x;exact znx_ x
theorem zgC_ (lo hi:Option Int)(l:List α)(g:α->β):cutG (l.map g) lo hi=(cutG l lo hi).map g:=by
 unfold cutG;rw[i7,<- List.map_drop,<- List.map_take]
theorem ls_sl (lo hi:Option Int):slA (LS g l) lo hi=.ok (LS g (cutG l lo hi)):=by
 show Mo.ok (D.nd .lst ((cutG (l.map g) lo hi).map .vw))=_
 rw[zgC_,zdB_];rfl
theorem zgf_ (h:a.length+b.length<=100000):addA (LS g a) (LS g b)=.ok (LS g (a++b)):=by
 show Mo.lim ((a.map g).length+(b.map g).length) (Mo.ok (D.nd .lst ((a.map g++b.map g).map .vw)))=_
 rw[Mo.lim_ok (by rw[i7,i7];exact h),<- kr,zdB_,LS]
theorem zlM_:listA [LS g l]=.ok (LS g l):=by
 show Mo.ok (D.nd .lst ((l.map g).map .vw))=_;rw[zdB_];rfl
theorem zjh_:walkA [LS g l]=.ok (l.map g):=of_eq_true (eq_self _)
theorem zl7_:isK "list" (LS g l)=rR:=rfl
theorem zkS_ (h:l.length<100000):appendF [LS g l,g x]=.ok .non [LS g (l++[x]),.gone]:=by
 have h2:l.length<jj:=by have:=zW_ (n:=l.length+1) (by lia);lia
 show(if(l.map g).length<jj then _ else _)=_
 rw[i7,if_pos h2];unfold LS;rw[kr];rfl
theorem zfQ_:∀(l:List Int),flats (l.map .int)=rP (l.map .int)
 |[]=>rfl|i::l=>by rw[ju,flats,zfQ_ l];rfl
theorem zkQ_ (i:Int):∀(l:List Int),inV (.int i) (l.map .int)=decide (i∈l)
 |[]=>rfl|j::l=>by
  have:=zkQ_ i l;unfold inV at this ⊢;rw[ju,mJ,this];by_cases h:i=j
  ·subst h;simp[eqV]
  ·simp[eqV,h,mO h]
end
section
variable {β γ:Type}{G:Gi}{env:Env}{lv:List Str}{fr:List (Str×Nat)}{ik:Ik}{src:List X}{tg:Tg}{p:β->Bool}{f:β->γ}{o:γ->D}
theorem zfg_ {F:List D->Mo (Option D)}{T:β->List D}:∀{l:List β}{acc:List D},(∀b∈l,F (T b)=.ok (if p b=rR then rP (o (f b))else rQ))->acc.length+l.length<=100000->compM F (l.map T) acc=.ok (acc++((l.filter p).map f).map o)
 |[],acc,_,_=>by rw[mn];unfold compM;simp
 |b::l,acc,h,hl=>by
  rw[jg]at hl;rw[ju];unfold compM;rw[h b je,zbp_,nh];cases e:p b with
  |false=>
   rw[if_neg (by decide),if_neg (by decide)]
   exact zfg_ (λy hy=>h y (ji _ hy)) (by lia)
  |true=>
   rw[if_pos rfl,if_pos rfl];show Mo.lim _ _=_
   rw[Mo.lim_ok (by lia),zfg_ (λy hy=>h y (ji _ hy)) (by rw[jC,oX];lia)]
   simp
theorem xcomp {c:Option X}{e:X}{items:List D}{T:β->List D}(l:List β)(hi:tg.is.all (·<lv.length)=rR)(hs:(X.evs G env src).bind ik.f=.ok items)(ht:tgsD tg items=rP (l.map T))(hc:∀b∈l,X.evT G (setE (cE lv fr env) tg.is (T b)) c=.ok (p b))(he:∀b∈l,p b=rR->X.ev G (setE (cE lv fr env) tg.is (T b)) e=.ok (o (f b)))(hl:l.length<=100000):X.ev G env (.comp lv fr ik src tg c e)=.ok (LS o ((l.filter p).map f)):=by
 show(if tg.is.all (·<lv.length)then(((X.evs G env src).bind ik.f).bind λl=>.opt (tgsD tg l)).bind λxs=>(compM (λx=>cond1 (X.evT G (setE (cE lv fr env) tg.is x) c) (e.ev G (setE (cE lv fr env) tg.is x))) xs []).bind λys=>Mo.ok (D.nd .lst ys)else .no)=_
 rw[if_pos hi,hs,zbp_,ht,zk0_,zbp_,zfg_ (p:=p) (f:=f) (o:=o) (λb hb=>?_) (by rw[oU,Nat.zero_add];exact hl),zbp_]
 ·rfl
 ·unfold cond1
  rw[hc b hb,zbp_];cases dJ:p b with
  |false=>rfl|true=>rw[if_pos rfl,if_pos rfl,he b hb dJ];rfl
theorem xcompN {e:X}{items:List D}{T:β->List D}(l:List β)(hi:tg.is.all (·<lv.length)=rR)(hs:(X.evs G env src).bind ik.f=.ok items)(ht:tgsD tg items=rP (l.map T))(he:∀b∈l,X.ev G (setE (cE lv fr env) tg.is (T b)) e=.ok (o (f b)))(hl:l.length<=100000):X.ev G env (.comp lv fr ik src tg rQ e)=.ok (LS o (l.map f)):=by
 rw[xcomp (p:=λ_=>rR) l hi hs ht (λ_ _=>xt_0) (λb hb _=>he b hb) hl]
 rw[pz.mpr λ_ _=>rfl]
theorem tgs_1 (ds:List D)(i:Nat):tgsD ⟨rS,[i]⟩ ds=rP (ds.map λd=>[d]):=by
 induction ds with
 |nil=>rw[tgsD];rfl|cons d ds ih=>rw[tgsD,ih];rfl
theorem zaH_ {g:β->D}(l:List β)(i:Nat):tgsD ⟨rS,[i]⟩ (l.map g)=rP (l.map λd=>[g d]):=by rw[tgs_1,km];rfl
theorem zkc_ {g h:β->D}(l:List β)(i j:Nat):tgsD ⟨rR,[i,j]⟩ (l.map λb=>.nd .tup [g b,h b])=rP (l.map λb=>[g b,h b]):=by
 induction l with
 |nil=>rw[mn,tgsD];rfl|cons d ds ih=>rw[ju,tgsD,ih];rfl
end
section
variable {α:Type}{g:α->D}[Im g]{i:Int}{neg:Bool}
theorem key_i (i:Int):keyD (.int i)=rP (.inl i):=rfl
theorem zhH_ {n:Nat}(h:n<100000):n<jj:=by have:=zW_ (n:=n+1) (by lia);lia
theorem znF_ (n:Nat)(i j:Int):eqT n (.int i) (.int j)=rP (decide (i=j)):=by
 cases n with
 |zero=>show rP (eqV (.int i) (.int j))=_;rfl|succ n=>show rP (eqV (.int i) (.int j))=_;rfl
theorem zle_ (n:Nat)(a b:List Nat):eqT n (.str a) (.str b)=rP (decide (a=b)):=by
 have:eqV (tx a) (tx b)=decide (a=b):=by
  by_cases h:a=b
  ·subst h;simp[tx,eqV]
  ·rw[decide_eq_false h]
   show(_ == _)=rS
   refine beq_eq_false_iff_ne.mpr λz=>h ?_
   injection z with z;exact List.toArray_inj z
 cases n with
 |zero=>show rP (eqV (tx a) (tx b))=_;rw[this]|succ n=>show rP (eqV (tx a) (tx b))=_;rw[this]
theorem zd7_ {f:D->D->Option Bool}[DecidableEq α]{g:α->D}(h:∀x y,f (g x) (g y)=rP (decide (x=y))):∀(a b:List α),a.length=b.length->allT f (a.map g) (b.map g)=rP (decide (a=b))
 |[],[],_=>by simp[allT]
 |x::a,y::b,hl=>by
  rw[ju,ju,allT,h,zd7_ h a b (by simpa using hl)]
  simp
theorem eq_ls [DecidableEq α]{g:α->D}{n:Nat}(h:∀x y,eqT n (g x) (g y)=rP (decide (x=y)))(a b:List α):eqT (n+1) (LS g a) (LS g b)=rP (decide (a=b)):=by
 show(if(a.map g).length=(b.map g).length then allT (eqT n) (a.map g) (b.map g)else rP rS)=_
 rw[i7,i7];by_cases hl:a.length=b.length
 ·rw[if_pos hl,zd7_ h a b hl]
 ·rw[if_neg hl,decide_eq_false (λz=>hl (by rw[z]))]
theorem zhQ_ {a b:D}{c:Bool}(h:eqT 12 a b=rP c):eqD neg a b=.ok (.bl (if neg=rR then !c else c)):=by
 unfold eqD;rw[h];rfl
theorem zlu_ (a b:Int):eqD neg (.int a) (.int b)=.ok (.bl (if neg=rR then !decide (a=b)else decide (a=b))):=zhQ_ (znF_ 12 a b)
theorem zgK_ (a b:List Nat):eqD neg (.str a) (.str b)=.ok (.bl (if neg=rR then !decide (a=b)else decide (a=b))):=zhQ_ (zle_ 12 a b)
end
end VI
namespace K75
open PySem PySem.Spec PyProof.Rows L2 VI
open Mo renaming bind→Mb,ok→Mq
open Sl renaming fz→Zf,dead→Zd,ow→Zo
noncomputable abbrev Jx:=List Nat
abbrev Jy:=List Jx
noncomputable abbrev Qm0:List Nat:=[32,48,49,50,51,52,53,54,55,56,57,65,66,67,68,69,70,71,72,73,74,75,76,77,78,79,80,81,82,83,84,85,86,87,88,89,90]
noncomputable abbrev Qm1:List Nat:=[97,98,99,100,101,102,103,104,105,106,107,108,109,110,111,112,113,114,115,116,117,118,119,120,121,122]
noncomputable abbrev Qm2:List Nat:=[110,111,32,116,114,97,121,32,115,116,97,110,100,115,32,98,121,32,116,104,101,32,110,97,109,101,32]
noncomputable def gi:Gi:={cs:=["Desk"],kt:=[],ex:=["Meet", "NoAsking", "NoBoard", "NoCard", "NoField", "NoOrder", "NoPlan", "NoRow", "NoTray", "ShopError"],ix:=[([("NoCard",rR)],[("NoTray",rS)]),([("NoField",rR)],[("NoTray",rS)]),([("NoOrder",rR)],[("NoTray",rS)]),([("NoBoard",rR)],[("NoTray",rS)]),([("Meet",rR)],[("NoTray",rS)]),([("NoAsking",rR)],[("NoTray",rS)]),([("NoPlan",rR)],[("NoTray",rS)]),([("NoRow",rR)],[("NoTray",rS)]),([("ShopError",rR)],[("NoTray",rR)]),([("ValueError",rS)],[("NoTray",rR)])],ct:=[("NoTray",[("NoTray",rR)])]}
noncomputable def za1_:List (List Nat×List V):=[([100,101,99,107],[(.int 2),.non]),([115,104,111,119],[(.int 2),(.int 2)]),([100,114,111,112],[(.int 2),(.int 2)]),([99,111,112,121],[(.int 3),.non]),([112,111,117,114],[(.int 6),(.int 6)]),([97,115,107],[(.int 2),.non]),([114,101,97,100],[(.int 2),.non]),([112,108,97,110],[(.int 2),.non])]
def zP_:List S:=[.asg 2 (.pu (.k (.str Qm1))),.asg 3 (.pu (.comp ["_law_k"] [("_law_cell",0)] .r1 [(.bin .add (.n 1) (.bin .mod (.v 0) (.n 8)))] ⟨rS,[0]⟩ rQ (.bin .mod (.bin .add (.bin .div (.v 1) (.bin .add (.v 0) (.n 1))) (.bin .mul (.v 0) (.v 0))) (.n 26)))),.asg 4 (.pu (.bin .mod (.v 1) (.bf .len [(.v 3)]))),.asg 5 (.pu (.lst [])),.for_ .r1 [(.n 4)] ⟨rS,[6]⟩ [.asg 7 (.pu (.bin .mod (.bin .add (.bin .ix (.v 3) (.v 4)) (.bin .mul (.v 6) (.bin .add (.n 1) (.bin .mod (.bin .div (.v 1) (.n 8)) (.n 5))))) (.n 26))),.asg 8 (.pu (.bin .add (.bin .add (.sl (.v 3) rQ (rP (.v 4))) (.lst [(.v 7)])) (.sl (.v 3) (rP (.bin .add (.v 4) (.n 1))) rQ))),.ex (.bm .append (.v 5) [(.x (.sm .join (.k (.str [])) [(.comp ["_law_number"] [("_law_letters",2)] .any [(.v 8)] ⟨rS,[0]⟩ rQ (.bin .ix (.v 1) (.v 0)))]))])],.ret (.mv 5)]
def z5_:Fn:=fnOf gi 2 7 zP_
def z8_:List S:=[.if_ (.bin .lt (.v 1) (.bf .len [(.v 0)])) [.ret (.pu (.bin .ix (.v 0) (.v 1)))] [],.ret (.pu (.n 0))]
def zM_:Fn:=fnOf gi 2 0 z8_
noncomputable def zt_:List S:=[.setF (.v 0) "trays" .dct0]
def zo_:Fn:=fnOf gi 1 0 zt_
def zbZ_:List S:=[.asg 1 (.pu (.sm .split (.v 0) [(.k (.str [32]))])),.if_ (.or (.bin .inn (.k (.str [])) (.v 1)) (.tu (.kin "ROWS" za1_) (.i (.v 1) 0))) [.never] [],.asg 2 (.pu (.tu (.kix "ROWS" za1_) (.i (.v 1) 0))),.if_ (.or (.bin .lt (.bf .len [(.v 1)]) (.i (.v 2) 0)) (.and (.bin .isn (.i (.v 2) 1) (.k .non)) (.bin .gt (.bf .len [(.v 1)]) (.i (.v 2) 1)))) [.never] [],.if_ (.and (.bin .eq (.i (.v 1) 0) (.k (.str [112,111,117,114]))) (.bin .eq (.i (.v 1) 2) (.i (.v 1) 4))) [.never] [],.ret (.mv 1)]
def zO_:Fn:=fnOf gi 1 2 zbZ_
def zdb_:List S:=[.ret (.pu (.and (.ch .le .le (.n 1) (.bf .len [(.v 0)]) (.g "LONGEST_NAME" (.int 8))) (.bf .all [(.comp ["letter"] [] .any [(.v 0)] ⟨rS,[0]⟩ rQ (.bin .inn (.v 0) (.g "SMALL_LETTERS" (.str Qm1))))])))]
def zbR_:Fn:=fnOf gi 1 0 zdb_
def zag_:List S:=[.if_ (.not (.call zbR_ "is_name" [(.v 0)])) [.raise "NoTray" [(.fs [(.rep (.v 0)),(.k (.str [32,105,115,32,110,111,32,110,97,109,101]))])]] []]
def zS_:Fn:=fnOf gi 1 0 zag_
def zby_:List S:=[.ret (.pu (.bf .all [(.comp ["sign"] [] .any [(.v 0)] ⟨rS,[0]⟩ rQ (.bin .inn (.v 0) (.g "SIGNS" (.str Qm0))))]))]
def zaV_:Fn:=fnOf gi 1 0 zby_
def zdp_:List S:=[.if_ (.or (.bin .gt (.bf .len [(.v 0)]) (.g "CARD_WIDTH" (.int 40))) (.not (.call zaV_ "are_signs" [(.v 0)]))) [.never] [],.ret (.pu (.sm .ljust (.v 0) [(.g "CARD_WIDTH" (.int 40))]))]
def zbI_:Fn:=fnOf gi 1 0 zdp_
noncomputable def zaZ_:List S:=[.ret (.pu (.tu (.repl 95 32) (.v 0)))]
def zaf_:Fn:=fnOf gi 1 0 zaZ_
def zbz_:List S:=[.ret (.pu (.call zbI_ "card_of" [(.call zaf_ "read_blanks" [(.v 0)])]))]
def zak_:Fn:=fnOf gi 1 0 zbz_
def zr_:List S:=[.ex (.pu (.call zS_ "check_new_name" [(.i (.v 1) 1)])),.setI (.f (.v 0) "trays") (.i (.v 1) 1) (.comp ["word"] [] .any [(.sl (.v 1) (rP (.n 2)) rQ)] ⟨rS,[0]⟩ rQ (.call zak_ "read_card" [(.v 0)])),.ret (.pu (.lst []))]
def zB_:Fn:=fnOf gi 2 0 zr_
def zi_:List S:=[.if_ (.bin .nin (.v 1) (.fld (.v 0) "trays")) [.raise "NoTray" [(.fs [(.k (.str Qm2)),(.rep (.v 1))])]] []]
def zb_:Fn:=fnOf gi 2 0 zi_
def zx_:List S:=[.ex (.pu (.meth [("Desk",zb_)] (.v 0) "check_stands" [(.v 1)])),.ret (.pu (.bf .list [(.bin .ix (.fld (.v 0) "trays") (.v 1))]))]
def zq_:Fn:=fnOf gi 2 0 zx_
def zh_:List S:=[.ex (.pu (.meth [("Desk",zb_)] (.v 0) "check_stands" [(.i (.v 1) 1)])),.ex (.bm .popK (.f (.v 0) "trays") [(.x (.i (.v 1) 1))]),.ret (.pu (.lst []))]
def zm_:Fn:=fnOf gi 2 0 zh_
def zl_:List S:=[.asg 2 (.pu (.call zO_ "words_of" [(.v 1)])),.asg 3 (.pu (.i (.v 2) 0)),.if_ (.bin .eq (.v 3) (.k (.str [100,101,99,107]))) [.ret (.meth [("Desk",zB_)] (.v 0) "lay_deck" [(.x (.v 2))])] [],.if_ (.bin .eq (.v 3) (.k (.str [115,104,111,119]))) [.ret (.pu (.meth [("Desk",zq_)] (.v 0) "deck_by" [(.i (.v 2) 1)]))] [],.if_ (.bin .eq (.v 3) (.k (.str [100,114,111,112]))) [.ret (.meth [("Desk",zm_)] (.v 0) "drop_tray" [(.x (.v 2))])] [],.if_ (.bin .eq (.v 3) (.k (.str [99,111,112,121]))) [.never] [],.if_ (.bin .eq (.v 3) (.k (.str [112,111,117,114]))) [.never] [],.if_ (.bin .eq (.v 3) (.k (.str [97,115,107]))) [.never] [],.if_ (.bin .eq (.v 3) (.k (.str [114,101,97,100]))) [.never] [],.never]
def zf_:Fn:=fnOf gi 2 2 zl_
noncomputable def zba_:List S:=[.asg 1 (.pu (.lst [(.isx (.v 0) [("NoCard",rR)] [("NoTray",rS)]),(.isx (.v 0) [("NoField",rR)] [("NoTray",rS)]),(.isx (.v 0) [("NoOrder",rR)] [("NoTray",rS)]),(.isx (.v 0) [("NoBoard",rR)] [("NoTray",rS)])])),.asg 1 (.pu (.bin .add (.v 1) (.lst [(.isx (.v 0) [("Meet",rR)] [("NoTray",rS)]),(.isx (.v 0) [("NoAsking",rR)] [("NoTray",rS)]),(.isx (.v 0) [("NoPlan",rR)] [("NoTray",rS)]),(.isx (.v 0) [("NoRow",rR)] [("NoTray",rS)])]))),.ret (.pu (.and (.isx (.v 0) [("ShopError",rR)] [("NoTray",rR)]) (.and (.isx (.v 0) [("ValueError",rS)] [("NoTray",rR)]) (.bin .nin (.k (.bl rR)) (.v 1)))))]
def zI_:Fn:=fnOf gi 1 1 zba_
def zL_:List S:=[.asg 2 (.pu (.k (.bl rS))),.tryM "Desk" zf_ (.v 0) "say" [(.x (.v 1))] "NoTray" [("NoTray",rR)] 3 [(2,(.call zI_ "_law_kinds" [(.v 3)]))],.ret (.mv 2)]
def zE_:Fn:=fnOf gi 2 2 zL_
def zC_:List S:=[.if_ (.bin .nin (.v 2) (.v 1)) [.ret (.call zE_ "_law_no_tray" [(.l (.v 0)),(.x (.bin .add (.k (.str [115,104,111,119,32])) (.v 2)))])] [],.asg 4 (.meth [("Desk",zf_)] (.v 0) "say" [(.x (.bin .add (.k (.str [115,104,111,119,32])) (.v 2)))]),.if_ (.or (.not (.isa (.v 4) "list")) (.bin .ne (.v 4) (.bin .ix (.v 1) (.v 2)))) [.ret (.pu (.k (.bl rS)))] [],.view [5] (.for_ .any [(.v 4)] ⟨rS,[5]⟩ [.if_ (.not (.isa (.v 5) "str")) [.ret (.pu (.k (.bl rS)))] []]),.ex (.bm .append (.v 4) [(.x (.bin .mul (.k (.str [55])) (.n 40)))]),.ex (.bm .append (.v 3) [(.x (.tup [(.v 4),(.bf .list [(.v 4)])]))]),.ret (.pu (.k (.bl rR)))]
def zn_:Fn:=fnOf gi 4 2 zC_
def zaj_:List S:=[.asg 1 (.pu (.k (.str Qm0))),.asg 2 (.pu (.k (.str []))),.for_ .r1 [(.n 40)] ⟨rS,[3]⟩ [.asg 2 (.pu (.bin .add (.v 2) (.bin .ix (.v 1) (.bin .mod (.v 0) (.n 37))))),.asg 0 (.pu (.bin .div (.v 0) (.n 37)))],.ret (.mv 2)]
def zam_:Fn:=fnOf gi 1 3 zaj_
def zaR_:List S:=[.if_ (.bin .eq (.bin .mod (.v 0) (.n 2)) (.n 0)) [.ret (.pu (.call zam_ "_law_text" [(.bin .mod (.bin .mul (.bin .div (.v 0) (.n 2)) (.bin .add (.bin .add (.bin .add (.n 1) (.bin .mul (.n 5) (.bin .pow (.n 37) (.n 13)))) (.bin .mul (.n 11) (.bin .pow (.n 37) (.n 29)))) (.bin .mul (.n 3) (.bin .pow (.n 37) (.n 36))))) (.bin .pow (.n 37) (.n 40)))]))] [],.asg 1 (.pu (.bf .str [(.bin .mod (.bin .mul (.bin .div (.v 0) (.n 2)) (.bin .add (.bin .add (.n 7) (.bin .mul (.n 3) (.bin .pow (.n 10) (.n 17)))) (.bin .pow (.n 10) (.n 31)))) (.bin .pow (.n 10) (.n 40)))])),.ret (.pu (.sl (.bin .add (.bin .add (.bin .mul (.k (.str [32])) (.bin .mod (.bin .div (.v 0) (.n 2)) (.n 5))) (.v 1)) (.bin .mul (.k (.str [48])) (.n 40))) rQ (rP (.n 40))))]
def z3_:Fn:=fnOf gi 1 1 zaR_
noncomputable def zao_:List S:=[.if_ (.not (.v 1)) [.asg 0 (.pu (.tu .rst (.v 0))),.if_ (.bin .eq (.v 0) (.k (.str []))) [.asg 0 (.pu (.k (.str [32])))] []] [],.ret (.pu (.sm .join (.k (.str [95])) [(.sm .split (.v 0) [(.k (.str [32]))])]))]
def zY_:Fn:=fnOf gi 2 0 zao_
def zs_:List S:=[.asg 5 (.pu (.bin .ix (.v 2) (.bin .mod (.bin .div (.v 3) (.n 4)) (.n 4)))),.if_ (.bin .eq (.bin .mod (.v 3) (.n 4)) (.n 2)) [.ret (.call zn_ "_law_shown" [(.l (.v 0)),(.l (.v 1)),(.x (.v 5)),(.l (.v 4))])] [],.if_ (.and (.bin .eq (.bin .mod (.v 3) (.n 4)) (.n 3)) (.bin .nin (.v 5) (.v 1))) [.ret (.call zE_ "_law_no_tray" [(.l (.v 0)),(.x (.bin .add (.k (.str [100,114,111,112,32])) (.v 5)))])] [],.if_ (.bin .eq (.bin .mod (.v 3) (.n 4)) (.n 3)) [.ex (.bm .popK (.v 1) [(.x (.v 5))]),.ret (.bin .eq (.meth [("Desk",zf_)] (.v 0) "say" [(.x (.bin .add (.k (.str [100,114,111,112,32])) (.v 5)))]) (.pu (.lst [])))] [],.asg 6 (.pu (.bin .mod (.bin .div (.v 3) (.n 16)) (.n 4))),.asg 7 (.pu (.comp ["_law_k"] [("_law_cell",3)] .r1 [(.v 6)] ⟨rS,[0]⟩ rQ (.call z3_ "_law_card" [(.bin .add (.bin .div (.v 1) (.n 64)) (.bin .mul (.v 0) (.bin .add (.v 0) (.n 977))))]))),.asg 8 (.pu (.comp ["_law_text_here"] [("_law_cell",3)] .any [(.v 7)] ⟨rS,[0]⟩ rQ (.call zY_ "_law_word" [(.v 0),(.bin .eq (.bin .mod (.bin .add (.bin .div (.v 1) (.n 64)) (.bf .len [(.tu .rst (.v 0))])) (.n 2)) (.n 0))]))),.setI (.v 1) (.v 5) (.v 7),.ret (.bin .eq (.meth [("Desk",zf_)] (.v 0) "say" [(.x (.sm .join (.k (.str [32])) [(.bin .add (.lst [(.k (.str [100,101,99,107])),(.v 5)]) (.v 8))]))]) (.pu (.lst [])))]
def z1_:Fn:=fnOf gi 5 4 zs_
def znM_:List S:=[.asg 1 (.pu (.call z5_ "_law_names" [(.call zM_ "_law_cell_at" [(.v 0),(.n 0)]),(.call zM_ "_law_cell_at" [(.v 0),(.n 1)])])),.asg 1 (.pu (.bin .add (.sl (.v 1) rQ (rP (.n 1))) (.comp ["_law_name"] [("_law_names_here",1)] .any [(.sl (.v 1) (rP (.n 1)) rQ)] ⟨rS,[0]⟩ (rP (.bin .ne (.v 0) (.i (.v 1) 0))) (.v 0)))),.asg 1 (.pu (.sl (.bin .mul (.v 1) (.n 4)) rQ (rP (.n 4)))),.asg 2 (.pu (.lst [(.make zo_ "Desk" []),(.make zo_ "Desk" [])])),.asg 3 (.pu (.lst [.dct0,.dct0])),.asg 4 (.pu (.lst [])),.for_ .any [(.sl (.v 0) (rP (.n 2)) (rP (.n 63)))] ⟨rS,[5]⟩ [.asg 6 (.pu (.bin .div (.bin .mod (.bin .mod (.bin .mul (.bin .mod (.v 5) (.n 2147483647)) (.n 48271)) (.n 2147483629)) (.n 3)) (.n 2))),.ifY (.not (.call z1_ "_law_said" [(.l (.s (.v 2) (.v 6))),(.l (.s (.v 3) (.v 6))),(.x (.v 1)),(.x (.v 5)),(.l (.v 4))])) [.ret (.pu (.k (.bl rS)))] []],.for_ .r1 [(.n 16)] ⟨rS,[7]⟩ [.ifY (.not (.call zn_ "_law_shown" [(.l (.s (.v 2) (.bin .mod (.v 7) (.n 2)))),(.l (.s (.v 3) (.bin .mod (.v 7) (.n 2)))),(.x (.bin .ix (.v 1) (.bin .mod (.bin .div (.v 7) (.n 2)) (.n 4)))),(.l (.v 4))])) [.ret (.pu (.k (.bl rS)))] []],.for_ .any [(.v 4)] ⟨rR,[8,9]⟩ [.if_ (.bin .ne (.v 8) (.v 9)) [.ret (.pu (.k (.bl rS)))] []],.ret (.pu (.k (.bl rR)))]
def f_law:Fn:=fnOf gi 1 9 znM_
local macro_rules|`(tactic|exists $ts,*)=>do
 let f (t:String)(g:Lean.Ident->Lean.MacroM (Lean.TSyntax `Lean.Parser.Tactic.simpLemma)):=(t.splitOn " ").toArray.mapM fun s=>g (Lean.mkIdent s.toName)
 let a<-f "S.runs S.run trD zeH_ ye_mv zhJ_ ziq_ bm_v onS call1 Bm.ty Bm.f zl7_ zi0_ zoo_ zaW_ zbp_ zk0_ ifM_t ifM_f and_f or_b and_b vd_mod zgI_ zfD_ zhd_ nw_nd nw_c nw_0 Bool.and_true Mo.lim_ok zkK_ zjY_ zmu_ get_0 get_s mv_0 mv_s zcv_ zab_ zaq_ z7_ frzE List.foldl_cons List.foldl_nil X.uses X.usesL X.usesO zaH_ zkc_ xv_v zhm_ xv_ch zn3_ xv_or zmk_ zni_ xv_sl zn5_ zlq_ zmQ_ zgu_ xv_bf zjS_ zoD_ znl_ xs_0 xs_c xo_0 xo_s xt_0 xt_s znR_ zjs_ xk_bl zl5_ znq_ zmG_ fz_ix fz_in zon_ zjz_ zlr_ fz_sl znv_ zkP_ zlQ_ zm1_ fz_eq zov_ Bo.f Bf.f Ik.f forS evG List.map_cons List.map_nil List.length_cons List.length_nil List.set_cons_zero List.set_cons_succ List.replicate_succ List.replicate_zero List.cons_append List.nil_append zk6_ zgn_ bl_vw zny_ znx_ znb_ ls_vw zQ_ zcS_ zoL_ ls_ix ls_sl zlM_ zjh_ zlu_ zgK_ vd_lt vd_le vd_gt zor_ vd_bl vd_int vd_str Bool.not_true Bool.not_false if_true if_false Bool.false_eq_true Bool.true_eq_false Option.map_some Option.map_none Nat.reduceAdd Nat.reduceLT Nat.reduceLeDiff Int.reduceLT Int.reduceLE Int.reduceNeg Int.reduceAdd Int.reduceSub Nat.lt_add_one Nat.zero_lt_succ Nat.zero_add setE cE List.getElem?_cons_succ List.getElem?_cons_zero Option.join_some setG true_and Int.toNat_natCast zhI_" fun i=>`(Lean.Parser.Tactic.simpLemma|$i:term)
 let b<-f "zi0_ zoo_ zaW_ zbp_" fun i=>`(Lean.Parser.Tactic.simpLemma|↓$i:term)
 `(tactic|first |simp only[$[$a:simpLemma],*,$[$b:simpLemma],*,$[$ts:term],*]|skip)
set_option hygiene false in
local macro_rules | `(tactic|fail "q") => `(tactic|first |exact⟨_, _, rfl, .inl rfl⟩|exact⟨_, _, rfl, .inr ⟨rfl, rfl⟩⟩|exact⟨_, _, rfl, .inr ⟨rfl, trivial⟩⟩)
def SG:List Nat:=Qm0
theorem lnS_ {l:List Nat}(h:l.length<=100000):lenA [.str l]=.ok (.int l.length):=by
 show Mo.lim _ _=_
 rw[Mo.lim_ok h]
abbrev Cds:=Jy
def kN_t (n:Jx):Key:=.inr ⟨n.toArray⟩
theorem zgi_ {a b:List Nat}:kN_t a=kN_t b↔a=b:=by
 constructor
 ·intro h;injection h with h;injection h with h;simpa using congrArg nA h
 ·rintro rfl;rfl
def TG {α:Type}(g:α->D)(m:List (List Nat×α)):D:=.nd (.dct (m.map λq=>kN_t q.1)) (m.map λq=>g q.2)
abbrev TD (m:List (List Nat×Cds)):D:=TG (LS .str) m
section
variable {α:Type}{g:α->D}
theorem TD_fvw (m:List (List Nat×α)):(D.fz (TG g m)).vw=.fz (TG g m):=rfl
theorem TD_vw (m:List (List Nat×α)):(TG g m).vw=.fz (TG g m):=rfl
theorem zdX_:∀(m:List (List Nat×α)) (n:Jx),valD (m.map λq=>kN_t q.1) (m.map λq=>g q.2) (kN_t n)=((m.find? λq=>decide (q.1=n)).map λq=>g q.2)
 |[],n=>rfl|q::m,n=>by
  have ih:=zdX_ m n;unfold valD at ih ⊢;rw[ju,ju,jR,kX,kX];by_cases e:q.1=n
  ·rw[decide_eq_true (zgi_.mpr e),decide_eq_true e];rfl
  ·rw[decide_eq_false (λz=>e (zgi_.mp z)),decide_eq_false e];exact ih
theorem td_ix {m:List (List Nat×Cds)}{n:List Nat}{cs:Cds}(h:(m.find? λq=>decide (q.1=n))=rP (n,cs)):ixA (TD m) (.str n)=.ok (.fz (LS .str cs)):=by
 show Mo.opt ((valD _ _ (kN_t n)).map D.vw)=_
 rw[zdX_,h];rfl
theorem ziY_ (neg:Bool)(m:List (List Nat×α))(n:Jx):inA neg (.str n) (TG g m)=.ok (.bl (if neg then !decide (n∈m.map (·.1))else decide (n∈m.map (·.1)))):=by
 have e:(valD (m.map λq=>kN_t q.1) (m.map λq=>g q.2) (kN_t n)).isSome=decide (n∈m.map (·.1)):=by
  rw[zdX_,mW,p9,List.find?_isSome,decide_eq_true_eq,j4];exact⟨λ⟨q,h,e⟩=>⟨q,h,by simpa using e⟩,λ⟨q,h,e⟩=>⟨q,h,by simpa using e⟩⟩
 show Mq (D.bl (if neg=rR then !(valD _ _ (kN_t n)).isSome else(valD _ _ (kN_t n)).isSome))=_
 rw[e]
end
def rk (c:Nat):Int:=(SG.idxOf c:Nat)
def CD (c:Jx):Prop:=c.length=40/\∀i,i<36->c.getD i 0∈SG
theorem sg_in {c:Nat}(h:c∈SG):inA rS (.str [c]) (.str SG)=.ok (.bl rR):=by
 show Mq (D.bl (decide (c∈SG)))=_
 rw[decide_eq_true h]
theorem sgf (c:Nat):c∈SG->findS SG [c]=rk c/\rk c ≠ -1:=by rw[zh2_];revert c;decide
theorem rk_mono:∀a∈SG,∀b∈SG,(rk a<rk b↔a<b)/\(rk a=rk b↔a=b):=by decide
theorem rg1 {j:Int}(h0:0<=j)(h:j<=100000):rng1D [D.int j]=Mq ((jV j.toNat).map λi:Nat=>D.int (0+(i:Int))):=by
 unfold rng1D;dsimp only;rw[VI.vd_int,zbp_,Mo.grd_ok ⟨by lia,by lia⟩]
 unfold rngI;rw[km];rfl
theorem sg_ix {i:Int}(h0:0<=i)(h1:i<37):∃s,s∈SG/\ixA (.str SG) (.int i)=.ok (.str [s]):=by
 obtain⟨s,e,hs⟩:=zbe_ (xs:=SG) h0 (show i<(SG.length:Int)from h1)
 refine⟨s,hs,?_⟩;show Mo.lim SG.length (Mo.opt ((atI SG i).map λc=>D.str [c]))=_
 rw[Mo.lim_ok (by decide),e];rfl
theorem zi3_ {n m:Nat}{body:List S}{ds:List D}{d:D}{e:VI.Env}(hl:ds.length=n)(hc:D.colds ds=rR)(h:S.runs gi (pins ds) body (ds.map rP++i8 m rQ)=.ok (.rt d) e):fnOf gi n m body ds=.ok d ds:=by
 unfold fnOf;rw[if_pos hl,h];show Mr.ok d (outs ds e)=_
 rw[zaK_ hc]
section
variable {env e1:VI.Env}{q q':Pl}{p p':Pt}{c c' d a r d' a':D}{ds ds':List D}{x k:X}{as:List A}{n:Str}
theorem ag1 (hx:keep (x.ev gi env) env x.uses=.ok d env):evG gi env [.x x]=.ok (agD [d]) env:=by
 show((stX gi env x).bind λd e=>(evG gi e []).bind λgs e'=>.ok (.d d::gs) e')=_
 rw[zcv_,hx];rfl
theorem ag2 {y:X}(hx:keep (x.ev gi env) env x.uses=.ok d env)(hy:keep (y.ev gi env) env y.uses=.ok a env):evG gi env [.x x,.x y]=.ok (agD [d,a]) env:=by
 have e:=ag1 hy;show((stX gi env x).bind λd e=>(evG gi e [.x y]).bind λgs e'=>.ok (.d d::gs) e')=_
 rw[zcv_,hx,zaW_,e];rfl
theorem zhb_ {ok:D->Bool}{F:Pl->Fn}(hp:Pt.ev gi env p=.ok q)(hc:atE env q=rP c)(hk:ok c=rR)(ha:evG gi env as=.ok (agD ds) env)(hf:F q (c::ds)=.ok r (c'::ds')):lentG gi env p as ok (λq gs e=>callG (F q) (.l q::gs) e)=.ok r (putE env q c'):=by
 unfold lentG;rw[hp];show(match atE env q with |some c=>if ok c=rR then(evG gi env as).bind λgs e=>callG (F q) (.l q::gs) e else .no |none=>.no)=_
 rw[hc];show(if ok c=rR then(evG gi env as).bind λgs e=>callG (F q) (.l q::gs) e else .no)=_
 rw[if_pos hk,ha,zaW_];unfold callG;have e2:resolve env (.l q::agD ds)=rP (c::ds):=by
  show(atE env q).bind (λc=>(resolve env (agD ds)).map λds=>c::ds)=_
  rw[hc,zhe_];rfl
 rw[e2];show(if(apartOf q (agD ds) && apartAll (agD ds))=rR then(match F q (c::ds)with |.ok r ds'=>Mr.ok r (restE env (.l q::agD ds) ds')|.ex x ds'=>.ex x (restE env (.l q::agD ds) ds')|.no=>.no)else _)=_
 rw[zhq_,zhc_,if_pos (show(rR && rR)=rR from rfl),hf]
 show Mr.ok r (putE (restE env (agD ds) ds') q c')=_
 rw[zgp_]
theorem zlW_ {o:Bm}(hp:Pt.ev gi env p=.ok q)(hc:atE env q=rP c)(hk:isK o.ty c=rR)(ha:evG gi env as=.ok (agD ds) env)(hf:o.f (c::ds)=.ok r (c'::ds')):Y.ev gi (.bm o p as) env=.ok r (putE env q c'):=by
 rw[Y.ev];exact zhb_ (F:=λ_=>o.f) hp hc hk ha hf
theorem me_at {ms:List (Str×Fn)}{C:Str}{ns:List Str}{xs:List D}{f:Str×Fn}(hp:Pt.ev gi env p=.ok q)(hc:atE env q=rP (.nd (.obj C ns) xs))(hm:ms.find? (λq=>q.1 == C)=rP f)(hn:n∉ns)(ha:evG gi env as=.ok (agD ds) env)(hf:f.2 (.nd (.obj C ns) xs::ds)=.ok r (c'::ds')):Y.ev gi (.meth ms p n as) env=.ok r (putE env q c'):=by
 rw[Y.ev];unfold methG;have h0:ms.isEmpty=rS:=by cases ms with |nil=>cases hm |cons=>rfl
 rw[h0];show lentG gi env p as (VI.isObj ms n) (λq gs e=>callG (fnAt ms env q) (.l q::gs) e)=_
 refine zhb_ (ds':=ds') (ok:=VI.isObj ms n) (F:=λq=>fnAt ms env q) hp hc ?_ ha ?_
 ·unfold VI.isObj;simp only[hm,decide_eq_false hn];rfl
 ·unfold fnAt;simp only[hc,hm];exact hf
theorem xmeth {ms:List (Str×Fn)}{y:X}{C:Str}{ns:List Str}{xs:List D}{f:Str×Fn}{ys:List X}(hx:y.ev gi env=.ok d)(hu:d.un=.nd (.obj C ns) xs)(hm:ms.find? (λq=>q.1 == C)=rP f)(hn:n∉ns)(ha:X.evs gi env ys=.ok ds)(hf:f.2.val (d.vw::ds.map .vw)=.ok r):X.ev gi env (.meth ms y n ys)=.ok r:=by
 have e:X.ev gi env (.meth ms y n ys)=(y.ev gi env).bind λd=>methD ms n d (X.evs gi env ys):=by cases ms with |nil=>cases hm |cons=>rfl
 rw[e,hx,zbp_];unfold methD;rw[hu];simp only[hm,if_neg hn,ha];exact hf
theorem sf_at (hx:keep (x.ev gi env) env x.uses=.ok d env)(hp:Pt.ev gi env p=.ok q){C:Str}{ns:List Str}{xs:List D}(hc:atE env q=rP (.nd (.obj C ns) xs))(hC:C∈gi.cs)(hf:setFF n [d,.nd (.obj C ns) xs]=.ok r [d',c']):setFM gi n p (.x x) env=.ok .nx (putE env q c'):=by
 unfold setFM;have e1:evG gi env [.x x,.l p]=.ok [.d d,.l q] env:=by
  unfold evG;rw[zcv_,hx,zaW_];unfold evG;rw[hp];rfl
 rw[e1,zaW_];have e3:clsAt env q=rP C:=by unfold clsAt;rw[hc]
 simp only[e3,if_pos hC];unfold callG;have e2:resolve env [.d d,.l q]=rP [d,.nd (.obj C ns) xs]:=by
  show((atE env q).bind λc=>rP [c]).map (λds=>d::ds)=_
  rw[hc];rfl
 rw[e2];show dropM (if _ then(match setFF n [d,.nd (.obj C ns) xs]with |.ok r ds'=>Mr.ok r (restE env [.d d,.l q] ds')|.ex x ds'=>_ |.no=>_)else _)=_
 rw[hf,if_pos (show apartAll _=rR from rfl)]
 rfl
theorem sm_at (fu:Pt.ev gi env p'=.ok q')(hd:atE env q'=rP d)(he:putE env q' .gone=e1)(hp:Pt.ev gi e1 p=.ok q){C:Str}{ns:List Str}{xs:List D}(hc:atE e1 q=rP (.nd (.obj C ns) xs))(hC:C∈gi.cs)(hf:setFF n [d,.nd (.obj C ns) xs]=.ok r [d',c']):setFM gi n p (.m p') env=.ok .nx (putE e1 q c'):=by
 unfold setFM;have e0:mpM gi env p'=.ok d e1:=by unfold mpM;rw[fu];simp only[hd,he]
 have fS:evG gi env [.m p',.l p]=.ok [.d d,.l q] e1:=by
  unfold evG;rw[e0,zaW_];unfold evG;rw[hp];rfl
 rw[fS,zaW_];have e3:clsAt e1 q=rP C:=by unfold clsAt;rw[hc]
 simp only[e3,if_pos hC];unfold callG;have e2:resolve e1 [.d d,.l q]=rP [d,.nd (.obj C ns) xs]:=by
  show((atE e1 q).bind λc=>rP [c]).map (λds=>d::ds)=_
  rw[hc];rfl
 rw[e2];show dropM (if _ then(match setFF n [d,.nd (.obj C ns) xs]with |.ok r ds'=>Mr.ok r (restE e1 [.d d,.l q] ds')|.ex x ds'=>_ |.no=>_)else _)=_
 rw[hf,if_pos (show apartAll _=rR from rfl)]
 rfl
theorem si_at (hx:keep (x.ev gi env) env x.uses=.ok d env)(hp:Pt.ev gi env p=.ok q)(hk:keep (k.ev gi env) env k.uses=.ok a env)(hc:atE env q=rP c)(hf:setIF [d,c,a]=.ok r [d',c',a']):setIM gi p k x env=.ok .nx (putE env q c'):=by
 unfold setIM;have e1:evG gi env [.x x,.l p,.x k]=.ok [.d d,.l q,.d a] env:=by
  unfold evG;rw[zcv_,hx,zaW_];unfold evG;rw[hp];show(Mr.bind (Mr.bind (evG gi env [.x k]) _) _)=_
  rw[ag1 hk];rfl
 rw[e1,zaW_];unfold callG;have e2:resolve env [.d d,.l q,.d a]=rP [d,c,a]:=by
  show((atE env q).bind λc=>rP [c,a]).map (λds=>d::ds)=_
  rw[hc];rfl
 rw[e2];show dropM (if _ then(match setIF [d,c,a]with |.ok r ds'=>Mr.ok r (restE env [.d d,.l q,.d a] ds')|.ex x ds'=>_ |.no=>_)else _)=_
 rw[hf,if_pos (show apartAll _=rR from rfl)]
 rfl
theorem pt_s {j:Nat}(hp:Pt.ev gi env p=.ok q)(hx:x.ev gi env=.ok d)(hc:atE env q=rP c)(hs:stepS c d=rP j):Pt.ev gi env (.s p x)=.ok (q.1,q.2++[j]):=by
 rw[Pt.ev,hp,zbp_,hx,zbp_,hc];show Mo.opt ((stepS c d).map _)=_
 rw[hs];rfl
theorem rn_s {pn:Nat->Bool}{s:S}{ss:List S}(h:S.run gi pn s env=.ok .nx e1):S.runs gi pn (s::ss) env=S.runs gi pn ss e1:=by rw[S.runs,h,zi0_]
theorem rn_e {pn:Nat->Bool}{y:Y}{ss:List S}(h:Y.ev gi y env=.ok d e1):S.runs gi pn (.ex y::ss) env=S.runs gi pn ss e1:=by rw[S.runs,S.run,h,zjY_,zi0_]
end
abbrev TT:=List (List Nat×Cds)
def ix (n:Jx)(m:TT):Nat:=(m.map (·.1)).idxOf n
def gt (n:Jx)(m:TT):Cds:=((m.map (·.2))[ix n m]?).getD []
def up (n:Jx)(d:Cds)(m:TT):TT:=if n∈m.map (·.1)then m.set (ix n m) (n,d)else m++[(n,d)]
section
variable {n k:List Nat}{d:Cds}{m:TT}
theorem kix:∀(m:TT),kIx (m.map λq=>kN_t q.1) (kN_t n)=ix n m
 |[]=>rfl|q::m=>by
  have ih:=kix m;unfold ix at ih ⊢;rw[ju,ju,kIx,oV,ih];by_cases e:q.1=n
  ·rw[if_pos (zgi_.mpr e),e,BEq.rfl];rfl
  ·rw[if_neg (λz=>e (zgi_.mp z)),beq_false_of_ne e];rfl
theorem zdz_:ix n m<m.length↔n∈m.map (·.1):=by
 unfold ix;have:=mM (l:=m.map (·.1)) (a:=n);rw[i7]at this;exact this
theorem zjP_ (h:n∈m.map (·.1)):m[ix n m]?=rP (n,gt n m):=by
 have hl:=zdz_.mpr h;rw[jf hl];have e1:(m.map (·.1))[ix n m]'(by rw[i7];exact hl)=n:=List.getElem_idxOf (mM.mpr h)
 rw[ni]at e1;have e2:gt n m=(m[ix n m]).2:=by
  unfold gt;rw[jB,jf hl];rfl
 rw[e2];exact congrArg rP (Prod.ext e1 rfl)
theorem zfl_ (h:n∈m.map (·.1)):up n d m=m.set (ix n m) (n,d):=if_pos h
theorem zbk_ (h:n∈m.map (·.1)):(up n d m).map (·.1)=m.map (·.1):=by
 rw[zfl_ h,pR];show(m.map (·.1)).set (ix n m) n=_
 apply nU;intro i;rw[lb];by_cases e:ix n m=i
 ·subst e
  have hl:=zdz_.mpr h;rw[if_pos rfl,i7,if_pos hl,jB,zjP_ h];rfl
 ·rw[if_neg e]
theorem up_mem:n∈(up n d m).map (·.1):=by
 by_cases h:n∈m.map (·.1)
 ·rw[zbk_ h];exact h
 ·unfold up;rw[if_neg h];simp
theorem zlL_ (h:k∈m.map (·.1)):k∈(up n d m).map (·.1):=by
 by_cases e:n∈m.map (·.1)
 ·rw[zbk_ e];exact h
 ·unfold up;rw[if_neg e,kr];exact kj _ h
theorem up_nd (h:(m.map (·.1)).Nodup):((up n d m).map (·.1)).Nodup:=by
 by_cases e:n∈m.map (·.1)
 ·rw[zbk_ e];exact h
 ·unfold up;rw[if_neg e,kr,nV]
  exact⟨h,by simp,λa ha b hb z=>by simp at hb;subst hb z;exact e ha⟩
theorem zgz_ {m':TT}(h:m'.map (·.1)=m.map (·.1)):ix n m'=ix n m:=by unfold ix;rw[h]
theorem gt_up (h:n∈m.map (·.1)):gt n (up n d m)=d:=by
 have hl:=zdz_.mpr h;unfold gt;rw[zgz_ (zbk_ h),zfl_ h,jB,lb,if_pos rfl,if_pos hl];rfl
theorem up_up {d':Cds}(h:n∈m.map (·.1)):up n d (up n d' m)=up n d m:=by
 rw[zfl_ (zlL_ h),zgz_ (zbk_ h),zfl_ h,zfl_ h,mC]
theorem up_self (h:n∈m.map (·.1)):up n (gt n m) m=m:=by
 rw[zfl_ h];apply nU;intro i;rw[lb];by_cases e:ix n m=i
 ·subst e;rw[if_pos rfl,if_pos (zdz_.mpr h),zjP_ h]
 ·rw[if_neg e]
theorem zkb_ (h:n∈m.map (·.1)):(n,gt n m)∈m:=l6 (zjP_ h)
theorem zks_ (h:n∈m.map (·.1)):ixA (TD m) (.str n)=.ok (.fz (LS .str (gt n m))):=by
 refine td_ix ?_;have hl:=zdz_.mpr h;have e:=zjP_ h;rw[List.find?_eq_some_iff_getElem];refine⟨by simp,ix n m,hl,?_,λj hj=>?_⟩
 ·rw[jf hl]at e;exact j8 e
 ·have:(m.map (·.1))[j]'(by rw[i7];lia)≠n:=λz=>by
   have:=List.not_of_lt_findIdx (p:=(· == n)) (xs:=m.map (·.1)) (i:=j) (by unfold ix at hj;exact hj)
   rw[z]at this;simp at this
  rw[ni]at this
  simpa using this
theorem td_step (h:n∈m.map (·.1)):stepS (TD m) (.str n)=rP (ix n m):=by
 show(if kIx (m.map λq=>kN_t q.1) (kN_t n)<(m.map λq=>kN_t q.1).length/\(m.map λq=>kN_t q.1).length=(m.map λq=>LS D.str q.2).length then rP (kIx (m.map λq=>kN_t q.1) (kN_t n))else rQ)=_
 rw[kix,i7,i7,if_pos ⟨zdz_.mpr h,rfl⟩]
theorem td_up (h:n∈m.map (·.1)):D.nd (.dct (m.map λq=>kN_t q.1)) ((m.map λq=>LS D.str q.2).set (ix n m) (LS .str d))=TD (up n d m):=by
 have e:(up n d m).map (λq=>kN_t q.1)=m.map λq=>kN_t q.1:=by
  have:=congrArg (rG kN_t) (zbk_ (d:=d) h);rw[km,km]at this;exact this
 show _=D.nd (.dct ((up n d m).map λq=>kN_t q.1)) ((up n d m).map λq=>LS D.str q.2)
 rw[e,zfl_ h,pR]
theorem td_set (hm:m.length<1000):setIF [LS .str d,TD m,.str n]=.ok .non [.gone,TD (up n d m),.str n]:=by
 have hs:m.length<jj:=by have:=zW_ (n:=m.length+1) (by lia);lia
 show(if kIx (m.map λq=>kN_t q.1) (kN_t n)<(m.map λq=>kN_t q.1).length/\(m.map λq=>LS D.str q.2).length<jj then Mr.ok D.non [.gone,D.nd (.dct (m.map λq=>kN_t q.1)) ((m.map λq=>LS D.str q.2).set (kIx (m.map λq=>kN_t q.1) (kN_t n)) (LS .str d)),.str n]else if(m.map λq=>LS D.str q.2).length<jj/\¬kIx (m.map λq=>kN_t q.1) (kN_t n)<(m.map λq=>kN_t q.1).length then Mr.ok D.non [.gone,D.nd (.dct ((m.map λq=>kN_t q.1)++[kN_t n])) ((m.map λq=>LS D.str q.2)++[LS .str d]),.str n]else .no)=_
 rw[kix,i7,i7];by_cases h:n∈m.map (·.1)
 ·rw[if_pos ⟨zdz_.mpr h,hs⟩,td_up h]
 ·rw[if_neg (λz=>h (zdz_.mp z.1)),if_pos ⟨hs,λz=>h (zdz_.mp z)⟩]
  unfold up;rw[if_neg h];show _=Mr.ok D.non [.gone,D.nd (.dct ((m++[(n,d)]).map λq=>kN_t q.1)) ((m++[(n,d)]).map λq=>LS D.str q.2),.str n]
  rw[kr,kr];rfl
theorem td_new (m:TT):(TD m).new=rR:=by
 show(D.nd _ _).new=rR
 rw[D.new];induction m with
 |nil=>rw[mn,D.news]|cons q m ih=>rw[ju,D.news,ih,zcS_];rfl
end
def sz (m:TT):Nat:=(m.map λq=>q.2.length).sum
theorem zn0_:∀{m:TT}{q:List Nat×Cds},q∈m->q.2.length<=sz m
 |q'::m,q,h=>by
  have e:sz (q'::m)=q'.2.length+sz m:=by unfold sz;rw[ju,pE]
  rcases jK.mp h with rfl |h
  ·lia
  ·have:=zn0_ h;lia
theorem zkw_:∀{m:TT}{i:Nat}{q q':List Nat×Cds},m[i]?=rP q->sz (m.set i q')+q.2.length=sz m+q'.2.length
 |a::m,0,q,q',h=>by
  have e:∀(b:List Nat×Cds),sz (b::m)=b.2.length+sz m:=λb=>by unfold sz;rw[ju,pE]
  rw[lV,e,e];rw[List.getElem?_cons_zero]at h;cases h;lia
 |a::m,i+1,q,q',h=>by
  have e:∀(m:TT),sz (a::m)=a.2.length+sz m:=λb=>by unfold sz;rw[ju,pE]
  rw[mj]at h;have:=zkw_ (q':=q') h;rw[lG,e,e];lia
theorem sz_up {n:List Nat}{d:Cds}{m:TT}(h:n∈m.map (·.1)):sz (up n d m)+(gt n m).length=sz m+d.length:=by
 rw[zfl_ h];exact zkw_ (zjP_ h)
theorem cd_up {n:List Nat}{d:Cds}{m:TT}(h:n∈m.map (·.1))(hm:∀q∈m,∀c∈q.2,CD c)(hd:∀c∈d,CD c):∀q∈up n d m,∀c∈q.2,CD c:=by
 rw[zfl_ h];intro q hq;rcases nQ hq with z |z
 ·exact hm q z
 ·subst z;exact hd
def DK (m:TT):D:=.nd (.obj "Desk" ["trays"]) [TD m]
abbrev TF (m:TT):D:=TG (λc=>.fz (LS .str c)) m
theorem ziL_ {env:VI.Env}(o:Tu)(a:X):X.ev gi env (.tu o a)=(a.ev gi env).bind λd=>(strOf d).bind o.f:=rf_
theorem xv_fs {env:VI.Env}(ps:List X):X.ev gi env (.fs ps)=(X.evJ gi env ps []).bind λl=>.lim l.length (.ok (.str l)):=rf_
theorem znH_ {env:VI.Env}(a:X):X.ev gi env (.rep a)=(a.ev gi env).bind repD:=rf_
theorem xj_0 {env:VI.Env}(acc:Jx):X.evJ gi env [] acc=.ok acc:=by rw[X.evJ]
theorem xj_c {env:VI.Env}(a:X)(as:List X)(acc:Jx):X.evJ gi env (a::as) acc=(a.ev gi env).bind λd=>(strOf d).bind λl=>.lim (acc.length+l.length) (X.evJ gi env as (acc++l)):=by rw[X.evJ]
theorem za3_ {ds:List D}{n m:Nat}{body:List S}{d:D}{e:VI.Env}(hl:ds.length=n)(h:S.runs gi (pins ds) body (ds.map rP++i8 m rQ)=.ok (.rt d) e):fnOf gi n m body ds=.ok d (outs ds e):=by
 unfold fnOf;rw[if_pos hl,h]
theorem zd1_ {ds:List D}{n m:Nat}{body:List S}{x:Xc}{e:VI.Env}(hl:ds.length=n)(h:S.runs gi (pins ds) body (ds.map rP++i8 m rQ)=.ex x e):fnOf gi n m body ds=.ex x (outs ds e):=by
 unfold fnOf;rw[if_pos hl,h]
theorem zku_ {f:Fn}{ds ds':List D}{x:Xc}(h:f ds=.ex x ds'):f.val ds=.ex x:=by unfold Fn.val;rw[h]
theorem zcl_ {env:VI.Env}{d:D}{n:Str}{ds:List D}{ms:List (Str×Fn)}{y:X}{C:Str}{ns:List Str}{xs:List D}{f:Str×Fn}{ys:List X}{r:Mo D}(hx:y.ev gi env=.ok d)(hu:d.un=.nd (.obj C ns) xs)(hm:ms.find? (λq=>q.1 == C)=rP f)(hn:n∉ns)(ha:X.evs gi env ys=.ok ds)(hf:f.2.val (d.vw::ds.map .vw)=r):X.ev gi env (.meth ms y n ys)=r:=by
 have e:X.ev gi env (.meth ms y n ys)=(y.ev gi env).bind λd=>methD ms n d (X.evs gi env ys):=by cases ms with |nil=>cases hm |cons=>rfl
 rw[e,hx,zbp_];unfold methD;rw[hu];simp only[hm,if_neg hn,ha];exact hf
def NM (n:Jx):Prop:=1<=n.length/\n.length<=8/\∀c∈n,97<=c/\c<=122
def KD (t:Jx):Prop:=t.length=40/\∀c∈t,c∈SG
theorem ziG_ (l m:Nat):∀t:List Nat,joinC m (splitC l t)=t.map λc=>if c=l then m else c
 |[]=>rfl|d::r=>by
  have ih:=ziG_ l m r;rw[splitC,ju,<- ih];have ne:=zbE_ l r;by_cases e:d=l
  ·rw[if_pos e,if_pos e]
   cases z:splitC l r with
   |nil=>exact absurd z ne|cons p ps=>rfl
  ·rw[if_neg e,if_neg e]
   cases z:splitC l r with
   |nil=>exact absurd z ne|cons p ps=>cases ps<;>rfl
theorem zcj_ (c:Nat):∀(l p:Jx),p∈splitC c l->p.length<=l.length
 |[],p,h=>by rw[jS.mp h];exact jt _
 |d::r,p,h=>by
  have ih:=zcj_ c r;rw[splitC]at h;rw[jg];by_cases e:d=c
  ·rw[if_pos e]at h
   rcases jK.mp h with rfl |h
   ·simp
   ·have:=ih p h;lia
  ·rw[if_neg e]at h
   cases z:splitC c r with
   |nil=>exact absurd z (zbE_ c r)|cons q qs=>
    rw[z]at h ih;rcases jK.mp h with rfl |h
    ·have:=ih q (by simp);rw[jg];lia
    ·have:=ih p (ji _ h);lia
theorem zcb_ (c:Nat):∀l:List Nat,(splitC c l).length<=l.length+1
 |[]=>jt _|d::r=>by
  have ih:=zcb_ c r;rw[splitC,jg];by_cases e:d=c
  ·rw[if_pos e,jg];lia
  ·rw[if_neg e]
   cases z:splitC c r with
   |nil=>exact absurd z (zbE_ c r)|cons q qs=>rw[z,jg]at ih;rw[jg];lia
theorem spG (c:Nat)(l:Jx):splitG [c] l=splitC c l:=zbx_ ⟨l.toArray⟩ c
theorem zoN_ (l m:Nat)(t:Jx):(Txt.replace ⟨t.toArray⟩ ⟨#[l]⟩ ⟨#[m]⟩).cps.toList=t.map λc=>if c=l then m else c:=by
 rw[StrLaws.replace_one,zaO_,zbx_];exact ziG_ l m t
theorem tu_rp {l m:Nat}{t:List Nat}(h:t.length<=1000):Tu.f (.repl l m) t=.ok (.str (t.map λc=>if c=l then m else c)):=by
 show Mo.grd _ (Mq (D.str _))=_
 rw[Mo.grd_ok (by lia),zoN_]
theorem zl3_ {t:List Nat}{c:Nat}(h:t.length<=1000):splitD t [.str [c]]=.ok (LS .str (splitC c t)):=by
 show Mo.grd (t.length<=100000/\[c]≠[]) (Mq (D.nd .lst (((splitG [c] t).map D.str).map .vw)))=_
 rw[Mo.grd_ok ⟨by lia,by simp⟩,zdB_,spG];rfl
theorem zhS_:∀(l:Cds),strsD (l.map D.str)=rP l
 |[]=>rfl|c::l=>by rw[ju];unfold strsD;rw[zhS_ l];rfl
theorem zlT_ (c:Nat)(ps:Cds):joinS [c] (strsL ps)=joinC c ps:=by
 unfold joinS Txt.join;rw[StrLaws.glued_eq_join,show(⟨[c].toArray⟩:Str)=⟨#[c]⟩from rfl,zaO_]
 unfold strsL;rw[km];exact congrArg _ ((la λt _=>rfl).trans (oQ ps))
theorem jok {c:Nat}{ps:Cds}(hl:ps.length<=100)(h:∀p∈ps,p.length<=100):JoinOk ⟨[c].toArray⟩ (strsL ps)=rR:=by
 have el:(strsL ps).length=ps.length:=by unfold strsL;rw[i7]
 have:=StrLaws.joinFits (sep:=⟨[c].toArray⟩) (texts:=strsL ps) (B:=100) (λz hz=>by
  unfold strsL at hz;obtain⟨t,ht,rfl⟩:=j4.mp hz;show t.toArray.size<=100
  rw[jq];exact h t ht) (by rw[el];show ps.length*100+ps.length*1<=_;lia)
 unfold JoinOk;rw[this];rfl
theorem jn_ok {c:Nat}{ps:Cds}(hl:ps.length<=100)(h:∀p∈ps,p.length<=100):joinD [c] [LS .str ps]=.ok (.str (joinC c ps)):=by
 show(Mo.opt (strsD (ps.map D.str))).bind _=_
 rw[zhS_];show Mo.grd _ (Mq (D.str (joinS [c] (strsL ps))))=_
 rw[Mo.grd_ok (jok hl h),zlT_]
theorem zjI_ (l:Jx)(ds:List D):Sm.f .join l ds=joinD l ds:=rfl
theorem zlZ_ (l:Jx)(ds:List D):Sm.f .split l ds=splitD l ds:=rfl
theorem ad_s {a b:List Nat}(h:a.length+b.length<=10000):addA (.str a) (.str b)=.ok (.str (a++b)):=by
 show Mo.lim _ _=_;rw[Mo.lim_ok (by lia)]
def LET:List Nat:=Qm1
theorem zkD_ {c:Nat}(h:97<=c/\c<=122):c∈LET:=by
 obtain⟨k,rfl⟩:∃k,c=97+k:=⟨c-97,by lia⟩
 have:∀k<26,97+k∈LET:=by decide
 exact this k (by lia)
theorem in_l {c:Nat}{S:List Nat}(h:c∈S):inA rS (.str [c]) (.str S)=.ok (.bl rR):=by
 show Mq (D.bl (decide (c∈S)))=_
 rw[decide_eq_true h]
theorem bls_l:∀bs:List Bool,blsD (bs.map D.bl)=rP bs
 |[]=>rfl|b::bs=>by rw[ju];unfold blsD;rw[bls_l bs];rfl
theorem all_l (bs:List Bool):allD [LS .bl bs]=.ok (.bl (bs.all id)):=by
 show(match blsD (bs.map D.bl)with |some bs=>Mq (D.bl (bs.all id))|none=>.no)=_
 rw[bls_l]
theorem wk_s (u:Jx):walkA [.str u]=.ok (u.map λc=>D.str [c]):=rfl
theorem zmp_ {u:List Nat}(hu:∀c∈u,c∈SG)(hl:u.length<=1000):zaV_.val [.str u]=.ok (.bl rR):=by
 refine zbX_ rfl rfl λpn hp=>?_
 unfold zby_;have e0:X.ev gi [rP (.str u)] (.comp ["sign"] [] .any [(.v 0)] ⟨rS,[0]⟩ rQ (.bin .inn (.v 0) (.g "SIGNS" (.str SG))))=.ok (LS .bl (u.map λ_=>rR)):=by
  refine xcompN (f:=λ_=>rR) (o:=D.bl) (T:=λc=>[D.str [c]]) (items:=u.map λc=>D.str [c]) u rfl (by exists wk_s) (zaH_ _ _) (λc hc=>?_) (by lia)
  exists in_l (hu c hc)
 unfold SG at e0;have e1:(u.map λ_=>rR).all id=rR:=by simp
 exists hp,e0,all_l,e1
 fail "q"
theorem zod_ {n:List Nat}(h:NM n):zbR_.val [.str n]=.ok (.bl rR):=by
 refine zbX_ rfl rfl λpn hp=>?_
 unfold zdb_;have e0:X.ev gi [rP (.str n)] (.comp ["letter"] [] .any [(.v 0)] ⟨rS,[0]⟩ rQ (.bin .inn (.v 0) (.g "SMALL_LETTERS" (.str LET))))=.ok (LS .bl (n.map λ_=>rR)):=by
  refine xcompN (f:=λ_=>rR) (o:=D.bl) (T:=λc=>[D.str [c]]) (items:=n.map λc=>D.str [c]) n rfl (by exists wk_s) (zaH_ _ _) (λc hc=>?_) (by have:=h.2.1;lia)
  exists in_l (zkD_ (h.2.2 c hc))
 unfold LET at e0;have e1:(n.map λ_=>rR).all id=rR:=by simp
 have e2:X.ev gi [rP (.str n)] (.ch .le .le (.k (.int 1)) (.bf .len [(.v 0)]) (.g "LONGEST_NAME" (.int 8)))=.ok (.bl rR):=by
  have a:(1:Int)<=n.length:=by have:=h.1;lia
  have b:(n.length:Int)<=8:=by have:=h.2.1;lia
  exists lnS_ (l:=n) (by have:=h.2.1;lia)
  unfold chD
  exists decide_eq_true a,decide_eq_true b
 exists hp,e0,all_l,e1,e2
 fail "q"
theorem zl4_ {n:List Nat}(h:NM n):zS_.val [.str n]=.ok .non:=by
 refine zbX_ rfl rfl λpn hp=>?_
 unfold zag_
 exists hp,zod_ h
 fail "q"
def wd (u:Jx):List Nat:=u.map λc=>if c=32 then 95 else c
theorem zfs_ (u:Jx):(wd u).length=u.length:=i7 ..
theorem wd_no (u:Jx):32∉wd u:=λh=>by
 obtain⟨c,_,e⟩:=j4.mp h;by_cases z:c=32
 ·rw[if_pos z]at e;cases e
 ·rw[if_neg z]at e;exact z e
theorem zkA_ {u:List Nat}(hu:∀c∈u,c∈SG):((wd u).map λc=>if c=95 then 32 else c)=u:=by
 unfold wd;rw[km];refine(la λc hc=>?_).trans (oQ u)
 have iw:c≠95:=λe=>by have:=hu c hc;rw[e]at this;revert this;decide
 show(if(if c=32 then 95 else c)=95 then 32 else if c=32 then 95 else c)=c
 by_cases z:c=32
 ·rw[if_pos z,if_pos rfl,z]
 ·rw[if_neg z,if_neg iw]
theorem lj_ok {u:List Nat}(hl:u.length<=40):Sm.f .ljust u [.int 40]=.ok (.str (u++i8 (40-u.length) 32)):=by
 show Mo.grd (PadOk 40=rR) (Mq (D.str (ljL u 40)))=_
 rw[Mo.grd_ok (show PadOk 40=rR by decide)]
 have:ljL u 40=u++i8 (40-u.length) 32:=by
  have e:(⟨u.toArray⟩:Str).length=u.length:=by show u.toArray.size=_;simp
  unfold ljL Txt.ljust;by_cases h:u.length=40
  ·rw[if_pos (by rw[e];lia),h];simp
  ·rw[if_neg (by rw[e];lia),e]
   show((#[]:Array Nat)++u.toArray++Array.replicate (40-u.length) 32).toList=_
   simp
 rw[this]
theorem rc_eq {u:List Nat}(hu:∀c∈u,c∈SG)(hl:u.length<=40):zak_.val [.str (wd u)]=.ok (.str (u++i8 (40-u.length) 32)):=by
 have e1:zaf_.val [.str (wd u)]=.ok (.str u):=by
  refine zbX_ rfl rfl λpn hp=>?_
  unfold zaZ_;have e:=tu_rp (l:=95) (m:=32) (t:=wd u) (by rw[zfs_];lia)
  rw[zkA_ hu]at e
  exists hp,ziL_,e
  fail "q"
 have e2:zbI_.val [.str u]=.ok (.str (u++i8 (40-u.length) 32)):=by
  refine zbX_ rfl rfl λpn hp=>?_
  unfold zdp_;have a:¬((40:Int)<u.length):=by lia
  exists hp,lnS_ (l:=u) (by lia),decide_eq_false a,zmp_ hu (by lia),ziW_,lj_ok hl,nF
  fail "q"
 refine zbX_ rfl rfl λpn hp=>?_
 unfold zbz_
 exists hp,e1,e2
 fail "q"
theorem zc1_:∀(l:Cds),flats (l.map .str)=rP (l.map tx)
 |[]=>rfl|i::l=>by rw[ju];unfold flats;rw[zc1_ l];rfl
theorem zns_ {a b:List Nat}:tx a=tx b↔a=b:=⟨λh=>by unfold tx at h;injection h with h;injection h with h;simpa using congrArg nA h,λh=>by rw[h]⟩
theorem in_T {x:List Nat}{l:Cds}(h:x∉l):inA rS (.str x) (LS .str l)=.ok (.bl rS):=by
 show(Mo.opt ((rP (tx x)).bind λx=>(flats (l.map D.str)).map λzs=>inV x zs)).bind _=_
 rw[zc1_];have:inV (tx x) (l.map tx)=rS:=by
  induction l with
  |nil=>rfl|cons y l ih=>
   rw[jK,not_or]at h;rw[ju];have ih:=ih h.2;have e:eqV (tx y) (tx x)=rS:=by
    show decide ((⟨y.toArray⟩:Str)=⟨x.toArray⟩)=rS
    exact decide_eq_false λz=>h.1 (zns_.mp (congrArg V.str z)).symm
   show(eqV (tx y) (tx x)||inV (tx x) (l.map tx))=rS
   rw[e,ih];rfl
 show(Mo.opt (rP (inV (tx x) (l.map tx)))).bind _=_
 rw[this];rfl
theorem zmB_ {α:Type}(a:α)(l:List α):atI (a::l) 0=rP a:=VI.atI_nn (by lia) rfl
theorem zlY_ {α:Type}(a b:α)(l:List α):atI (a::b::l) 1=rP b:=VI.atI_nn (by lia) rfl
section
variable {w0 row:List Nat}{r:Cds}{b:D}
theorem zji_ (hs:splitC 32 row=w0::r)(hl:row.length<=1000)(h0:[]∉w0::r)(hr:(w0::r).length<=1000)(h2:1<=r.length)(k1:Tu.f (.kin "ROWS" za1_) w0=.ok (.bl rS))(k2:Tu.f (.kix "ROWS" za1_) w0=.ok (.nd .ktup [.int 2,b]))(hb:b=.non\/(b=.int 2/\r.length=1))(hp:w0≠[112,111,117,114]):zO_.val [.str row]=.ok (LS .str (w0::r)):=by
 have g1:¬(((r.length+1:Nat):Int)<2):=by lia
 have e1:splitD row [.str [32]]=.ok (LS .str (w0::r)):=by rw[zl3_ hl,hs]
 have i0:atI (w0::r) 0=rP w0:=zmB_ ..;refine zbX_ rfl rfl λpn bZ=>?_
 unfold zbZ_;show En (S.runs gi pn _ [rP (.str row),rQ,rQ]) _
 rw[zaw_ (d:=LS .str (w0::r)) (by exists bZ,ziW_,zlZ_,e1) (bZ _)]
 show En (S.runs gi pn _ [rP (.str row),rP (LS .str (w0::r)),rQ]) _
 rw[zT_ (by exists in_T h0,ziL_,i0,k1,nF)]
 show En (S.runs gi pn (S.asg _ _::_) _) _
 have z1:∀d,(D.nd .ktup [.int 2,d]).vw=(if(D.nd .ktup [.int 2,d]).imm then .nd .ktup [.int 2,d]else .fz (.nd .ktup [.int 2,d])):=λ_=>rfl
 rcases hb with rfl |⟨rfl,h3⟩
 ·have v:(D.nd .ktup [.int 2,.non]).vw=.nd .ktup [.int 2,.non]:=rfl
  have x0:ixA (.nd .ktup [.int 2,.non]) (.int 0)=.ok (.int 2):=rfl;have x1:ixA (.nd .ktup [.int 2,.non]) (.int 1)=.ok .non:=rfl;have x2:isD rR .non .non=.ok (.bl rS):=rfl;rw[zaw_ (d:=.nd .ktup [.int 2,.non]) (by exists bZ,ziL_,i0,k2) (bZ _)]
  show En (S.runs gi pn _ [rP (.str row),rP (LS .str (w0::r)),rP (.nd .ktup [.int 2,.non])]) _
  rw[zT_ (by exists v,x0,x1,x2,decide_eq_false g1,nF)]
  show En (S.runs gi pn (S.if_ _ _ _::_) _) _
  rw[zT_ (by exists i0,decide_eq_false hp)]
  show En (S.runs gi pn (S.ret _::_) _) _
  exists bZ
  fail "q"
 ·have v:(D.nd .ktup [.int 2,.int 2]).vw=.nd .ktup [.int 2,.int 2]:=rfl
  have x0:ixA (.nd .ktup [.int 2,.int 2]) (.int 0)=.ok (.int 2):=rfl;have x1:ixA (.nd .ktup [.int 2,.int 2]) (.int 1)=.ok (.int 2):=rfl;have x2:isD rR (.int 2) .non=.ok (.bl rR):=rfl;have g2:¬((2:Int)<((r.length+1:Nat):Int)):=by lia
  rw[zaw_ (d:=.nd .ktup [.int 2,.int 2]) (by exists bZ,ziL_,i0,k2) (bZ _)]
  show En (S.runs gi pn _ [rP (.str row),rP (LS .str (w0::r)),rP (.nd .ktup [.int 2,.int 2])]) _
  rw[zT_ (by exists v,x0,x1,x2,decide_eq_false g1,decide_eq_false g2,nF,qm)]
  show En (S.runs gi pn (S.if_ _ _ _::_) _) _
  rw[zT_ (by exists i0,decide_eq_false hp)]
  show En (S.runs gi pn (S.ret _::_) _) _
  exists bZ
  fail "q"
end
section
variable {env e1:VI.Env}{n:List Nat}{m:TT}{d:Cds}
theorem me_v {ms:List (Str×Fn)}{C nm:Str}{ns:List Str}{xs ds:List D}{f:Str×Fn}{i:Nat}{as:List A}{r:Mr VI.Env D}(hc:atS env i=rP (.nd (.obj C ns) xs))(hm:ms.find? (λq=>q.1 == C)=rP f)(hn:nm∉ns)(ha:evG gi env as=.ok (agD ds) e1)(hf:call1 f.2 i ds e1=r):Y.ev gi (.meth ms (.v i) nm as) env=r:=by
 rw[Y.ev];unfold methG;have h0:ms.isEmpty=rS:=by cases ms with |nil=>cases hm |cons=>rfl
 have bj:atE env (i,[])=rP (.nd (.obj C ns) xs):=by rw[ziz_,hc]
 rw[h0];show lentG gi env (.v i) as (VI.isObj ms nm) (λq gs e=>callG (fnAt ms env q) (.l q::gs) e)=_
 unfold lentG;have hp:Pt.ev gi env (.v i)=.ok (i,[]):=by rw[Pt.ev,bj];rfl
 have hk:VI.isObj ms nm (.nd (.obj C ns) xs)=rR:=by unfold VI.isObj;simp only[hm,decide_eq_false hn];rfl
 have hF:fnAt ms env (i,[])=f.2:=by unfold fnAt;simp only[bj,hm]
 simp only[hp,bj,hk,if_true,ha,zaW_,hF,zcX_,hf]
theorem zeV_ {e:VI.Env}{f:Fn}{i:Nat}{ds ds':List D}{c c':D}{x:Xc}(h:atS e i=rP c)(hf:f (c::ds)=.ex x (c'::ds')):call1 f i ds e=.ex x (e.set i (rP c')):=by
 unfold call1;rw[h];simp only[hf]
theorem zh4_:fldD gi.cs "trays" (DK m)=.ok (.fz (TD m)):=rfl
theorem dk_vw:(DK m).vw=.fz (DK m):=rfl
theorem zhL_:(D.fz (DK m)).vw=.fz (DK m):=rfl
theorem zhX_ {α β:Type}(f:α->β):∀(l:List α) (i:Nat),(l.map f).eraseIdx i=(l.eraseIdx i).map f
 |[],_=>rfl|_::_,0=>rfl|a::l,i+1=>by rw[ju,kE,kE,ju,zhX_ f l i]
def er (n:Jx)(m:TT):TT:=m.eraseIdx (ix n m)
theorem zj3_ {g:Cds->D}(h:n∈m.map (·.1)):popKF [TG g m,.str n]=.ok .gone [TG g (er n m),.str n]:=by
 show(if kIx (m.map λq=>kN_t q.1) (kN_t n)<(m.map λq=>kN_t q.1).length then Mr.ok D.gone [D.nd (.dct ((m.map λq=>kN_t q.1).eraseIdx (kIx (m.map λq=>kN_t q.1) (kN_t n)))) ((m.map λq=>g q.2).eraseIdx (kIx (m.map λq=>kN_t q.1) (kN_t n))),D.str n]else Mr.no)=_
 rw[kix,i7,if_pos (zdz_.mpr h),zhX_,zhX_];rfl
theorem zgP_ {g:Cds->D}(hm:m.length<1000):setIF [g d,TG g m,.str n]=.ok .non [.gone,TG g (up n d m),.str n]:=by
 have hs:m.length<jj:=by have:=zW_ (n:=m.length+1) (by lia);lia
 have e0:setIF [g d,TG g m,.str n]=(if kIx (m.map λq=>kN_t q.1) (kN_t n)<(m.map λq=>kN_t q.1).length/\(m.map λq=>g q.2).length<jj then Mr.ok D.non [.gone,D.nd (.dct (m.map λq=>kN_t q.1)) ((m.map λq=>g q.2).set (kIx (m.map λq=>kN_t q.1) (kN_t n)) (g d)),.str n]else if(m.map λq=>g q.2).length<jj/\¬kIx (m.map λq=>kN_t q.1) (kN_t n)<(m.map λq=>kN_t q.1).length then Mr.ok D.non [.gone,D.nd (.dct ((m.map λq=>kN_t q.1)++[kN_t n])) ((m.map λq=>g q.2)++[g d]),.str n]else .no):=rfl
 rw[e0,kix,i7,i7];by_cases h:n∈m.map (·.1)
 ·have e:(up n d m).map (λq=>kN_t q.1)=m.map λq=>kN_t q.1:=by
   have:=congrArg (rG kN_t) (zbk_ (d:=d) h);rw[km,km]at this;exact this
  rw[if_pos ⟨zdz_.mpr h,hs⟩];show _=Mr.ok D.non [.gone,D.nd (.dct ((up n d m).map λq=>kN_t q.1)) ((up n d m).map λq=>g q.2),.str n]
  rw[e,zfl_ h,pR]
 ·rw[if_neg (λz=>h (zdz_.mp z.1)),if_pos ⟨hs,λz=>h (zdz_.mp z)⟩]
  unfold up;rw[if_neg h];show _=Mr.ok D.non [.gone,D.nd (.dct ((m++[(n,d)]).map λq=>kN_t q.1)) ((m++[(n,d)]).map λq=>g q.2),.str n]
  rw[kr,kr];rfl
theorem znd_ (h:NM n):(reprText ⟨n.toArray⟩).length<=10002:=zd6_ (by have:=h.2.1;lia) λc hc=>by have:=h.2.2 c hc;lia
theorem znS_ {a:List Nat}{i:Nat}(h:NM n)(ha:a.length<=100)(hg:getE env i=.ok (.str n)):∃l,X.ev gi env (.fs [.k (.str a),.rep (.v i)])=.ok (.str l):=by
 have h1:=znd_ h;have e1:repD (.str n)=.ok (.str (reprText ⟨n.toArray⟩).cps.toList):=by
  show Mo.lim _ _=_;rw[Mo.lim_ok (by lia)]
 have h2:(reprText ⟨n.toArray⟩).cps.toList.length<=10002:=by rw[lM];exact h1
 refine⟨a++(reprText ⟨n.toArray⟩).cps.toList,?_⟩;rw[xv_fs,xj_c,zjs_,zbp_,VI.vd_str,zbp_,oU,Mo.lim_ok (by lia),xj_c,znH_,xv_v,hg,zbp_,e1,zbp_,VI.vd_str,zbp_,lY,Mo.lim_ok (by lia),xj_0,zbp_,Mo.lim_ok (by rw[jC];lia)]
theorem zi7_ (h:n∈m.map (·.1)):zb_.val [.fz (DK m),.str n]=.ok .non:=by
 refine zbX_ rfl rfl λpn hp=>?_
 unfold zi_
 exists hp,zhL_,zh4_,ziY_,decide_eq_true h
 fail "q"
theorem zg0_ (hn:NM n)(h:n∉m.map (·.1)):zb_.val [.fz (DK m),.str n]=.ex (.pl "NoTray"):=by
 have hf:zb_=fnOf gi 2 0 zi_:=rfl;rw[hf];refine zku_ (zd1_ rfl (e:=[rP (.fz (DK m)),rP (.str n)]) ?_);show S.runs gi _ zi_ [rP (.fz (DK m)),rP (.str n)]=_
 unfold zi_;obtain⟨l,e⟩:=znS_ (env:=[rP (.fz (DK m)),rP (.str n)]) (i:=1) (a:=Qm2) hn (by decide) rfl
 rw[za9_ (by exists zhL_,zh4_,ziY_,decide_eq_false h)]
 show S.runs gi _ (S.raise _ _::_) _=_
 rw[S.runs,S.run];show seqM (raiseM _ (evG gi _ [.x (.fs _)])) _=_
 rw[ag1 (d:=.str l) (by rw[e];exact zab_ _ (zfD_ _))]
 rfl
theorem by_in (h:n∈m.map (·.1)):zq_.val [.fz (DK m),.str n]=.ok (LS .str (gt n m)):=by
 refine zbX_ rfl rfl λpn hp=>?_
 unfold zx_;show En (S.runs gi pn _ [rP (.fz (DK m)),rP (.str n)]) _
 have e1:X.ev gi [rP (.fz (DK m)),rP (.str n)] (.meth [("Desk",zb_)] (.v 0) "check_stands" [(.v 1)])=.ok .non:=xmeth (d:=.fz (DK m)) (ds:=[.str n]) rfl rfl rfl (by decide) rfl (zi7_ h)
 rw[znc_ (d:=.non) (e:=[rP (.fz (DK m)),rP (.str n)]) (by rw[zeH_,e1];exact zab_ _ zhd_)]
 exists hp,zhL_,zh4_,zks_ h
 fail "q"
theorem zoi_ (hn:NM n)(h:n∉m.map (·.1)):zq_.val [.fz (DK m),.str n]=.ex (.pl "NoTray"):=by
 have hf:zq_=fnOf gi 2 0 zx_:=rfl;rw[hf];refine zku_ (zd1_ rfl (e:=[rP (.fz (DK m)),rP (.str n)]) ?_);show S.runs gi _ zx_ [rP (.fz (DK m)),rP (.str n)]=_
 unfold zx_;have e1:X.ev gi [rP (.fz (DK m)),rP (.str n)] (.meth [("Desk",zb_)] (.v 0) "check_stands" [(.v 1)])=.ex (.pl "NoTray"):=zcl_ (d:=.fz (DK m)) (ds:=[.str n]) rfl rfl rfl (by decide) rfl (zg0_ hn h)
 rw[S.runs,S.run,zeH_,e1];rfl
end
noncomputable def sDECK:List Nat:=[100,101,99,107]
def sSHOW:List Nat:=[115,104,111,119]
def sDROP:List Nat:=[100,114,111,112]
section
variable {n w0:List Nat}{m:TT}{d:Cds}
theorem zmO_ {u:Jy}(hn:NM n)(hm:m.length<1000)(hu:∀x∈u,(∀c∈x,c∈SG)/\x.length<=40)(hl:u.length<=1000):zB_ [DK m,.fz (LS .str (w0::n::u.map wd))]=.ok (LS .str []) [DK (up n (u.map λx=>x++i8 (40-x.length) 32) m),.fz (LS .str (w0::n::u.map wd))]:=by
 have hf:zB_=fnOf gi 2 0 zr_:=rfl;rw[hf]
 generalize hd:(u.map λx=>x++i8 (40-x.length) 32)=dk
 generalize hw:w0::n::u.map wd=ws
 have i1:atI ws 1=rP n:=by rw[<- hw];exact zlY_ ..
 have c2:cutG ws (rP 2) rQ=u.map wd:=by
  rw[<- hw];unfold cutG;have a:HT.sIx (w0::n::u.map wd).length 0 (rP 2)=2:=by unfold HT.sIx;simp
  have b:HT.sIx (w0::n::u.map wd).length (w0::n::u.map wd).length rQ=(w0::n::u.map wd).length:=rfl;rw[a,b];simp;exact mU (by rw[i7];exact jt _)
 show fnOf gi 2 0 zr_ [DK m,.fz (LS .str ws)]=_
 have xc:X.ev gi [rP (DK m),rP (.fz (LS .str ws))] (.comp ["word"] [] .any [(.sl (.v 1) (rP (.n 2)) rQ)] ⟨rS,[0]⟩ rQ (.call zak_ "read_card" [(.v 0)]))=.ok (LS .str dk):=by
  rw[<- hd];refine xcompN (f:=λx:List Nat=>x++i8 (40-x.length) 32) (o:=D.str) (T:=λx:List Nat=>[D.str (wd x)]) (items:=u.map λx=>D.str (wd x)) u rfl (by exists zQ_,c2;rw[km];rfl) (zaH_ _ _) (λx hx=>?_) (by lia)
  exists rc_eq (hu x hx).1 (hu x hx).2
 refine(za3_ rfl (d:=LS .str []) (e:=[rP (DK (up n dk m)),rP (.fz (LS .str ws))]) ?_).trans rfl;show S.runs gi _ zr_ [rP (DK m),rP (.fz (LS .str ws))]=_
 unfold zr_;rw[znc_ (d:=.non) (e:=[rP (DK m),rP (.fz (LS .str ws))]) (by exists zQ_,i1,zl4_ hn)]
 rw[rn_s (e1:=[rP (DK (up n dk m)),rP (.fz (LS .str ws))]) (by
  rw[S.run];exact si_at (q:=(0,[0])) (d:=LS .str dk) (a:=.str n) (c:=TD m) (by rw[xc];exact zab_ _ zcS_) rfl (by exists zQ_,i1) rfl (zgP_ (g:=LS .str) hm))]
 rw[za4_ (d:=LS .str []) (e:=[rP (DK (up n dk m)),rP (.fz (LS .str ws))]) rfl]
theorem znW_ (h:n∈m.map (·.1)):zm_ [DK m,.fz (LS .str [w0,n])]=.ok (LS .str []) [DK (er n m),.fz (LS .str [w0,n])]:=by
 have hf:zm_=fnOf gi 2 0 zh_:=rfl;rw[hf];have i1:atI [w0,n] 1=rP n:=zlY_ ..;refine(za3_ rfl (d:=LS .str []) (e:=[rP (DK (er n m)),rP (.fz (LS .str [w0,n]))]) ?_).trans rfl;show S.runs gi _ zh_ [rP (DK m),rP (.fz (LS .str [w0,n]))]=_
 unfold zh_;have e1:X.ev gi [rP (DK m),rP (.fz (LS .str [w0,n]))] (.meth [("Desk",zb_)] (.v 0) "check_stands" [(.bin .ix (.v 1) (.k (.int 1)))])=.ok .non:=xmeth (d:=.fz (DK m)) (ds:=[.str n]) rfl rfl rfl (by decide) (by exists zQ_,i1) (zi7_ h)
 rw[znc_ (d:=.non) (e:=[rP (DK m),rP (.fz (LS .str [w0,n]))]) (by rw[zeH_,e1];exact zab_ _ zhd_)]
 rw[rn_e (zlW_ (o:=.popK) (q:=(0,[0])) (c:=TD m) (ds:=[.str n]) (ds':=[.str n]) (c':=TD (er n m)) (r:=.gone) rfl rfl rfl (ag1 (by exists zQ_,i1)) (zj3_ h))]
 show S.runs gi _ _ [rP (DK (er n m)),rP (.fz (LS .str [w0,n]))]=_
 rw[za4_ (d:=LS .str []) (e:=[rP (DK (er n m)),rP (.fz (LS .str [w0,n]))]) rfl]
theorem zjr_ (hn:NM n)(h:n∉m.map (·.1)):zm_ [DK m,.fz (LS .str [w0,n])]=.ex (.pl "NoTray") [DK m,.fz (LS .str [w0,n])]:=by
 have hf:zm_=fnOf gi 2 0 zh_:=rfl;rw[hf];have i1:atI [w0,n] 1=rP n:=zlY_ ..;refine(zd1_ rfl (e:=[rP (DK m),rP (.fz (LS .str [w0,n]))]) ?_).trans rfl;show S.runs gi _ zh_ [rP (DK m),rP (.fz (LS .str [w0,n]))]=_
 unfold zh_;have e1:X.ev gi [rP (DK m),rP (.fz (LS .str [w0,n]))] (.meth [("Desk",zb_)] (.v 0) "check_stands" [(.bin .ix (.v 1) (.k (.int 1)))])=.ex (.pl "NoTray"):=zcl_ (d:=.fz (DK m)) (ds:=[.str n]) rfl rfl rfl (by decide) (by exists zQ_,i1) (zg0_ hn h)
 rw[S.runs,S.run,zeH_,e1];rfl
end
section
variable {n row:List Nat}{m:TT}{u:Jy}
def R2w (w0 n:Jx):List Nat:=w0++32::n
def RD (n:Jx)(u:Jy):List Nat:=joinC 32 (sDECK::n::u.map wd)
theorem no32 (hn:NM n):32∉n:=λh=>by have:=hn.2.2 32 h;lia
theorem spl2 {w0:List Nat}(h0:32∉w0)(hn:NM n):splitC 32 (R2w w0 n)=[w0,n]:=by
 have:=zap_ 32 [w0,n] (by simp) λp hp=>by
  rcases jK.mp hp with rfl |hp
  ·exact h0
  ·rw[jS.mp hp];exact no32 hn
 exact this
theorem nm_ne (hn:NM n):n≠[]:=λh=>by have:=hn.1;rw[h]at this;simp at this
theorem wds2 {w0:List Nat}{b:D}(h0:32∉w0)(hw:w0≠[])(hl:w0.length<=10)(hn:NM n)(k1:Tu.f (.kin "ROWS" za1_) w0=.ok (.bl rS))(k2:Tu.f (.kix "ROWS" za1_) w0=.ok (.nd .ktup [.int 2,.int 2]))(hp:w0≠[112,111,117,114]):zO_.val [.str (R2w w0 n)]=.ok (LS .str [w0,n]):=
 zji_ (spl2 h0 hn) (by unfold R2w;rw[jC,jg];have:=hn.2.1;lia) (by
  intro h;rcases jK.mp h with h |h
  ·exact hw h.symm
  ·exact nm_ne hn (jS.mp h).symm) (by simp) (by simp) k1 k2 (.inr ⟨rfl,rfl⟩) hp
theorem zcZ_ (c:Nat):∀(ps:Jy) (B:Nat),(∀p∈ps,p.length<=B)->(joinC c ps).length<=ps.length*(B+1)
 |[],B,_=>lZ _|[p],B,h=>by show p.length<=1*(B+1);have:=h p (by simp);lia
 |p::q::r,B,h=>by
  show(p++c::joinC c (q::r)).length<=_
  have h1:=h p (by simp)
  have h2:=zcZ_ c (q::r) B λx hx=>h x (ji _ hx)
  rw[jC,jg,jg,rA];lia
structure UW (x:Jx):Prop where
 sg:∀c∈x,c∈SG
 le:x.length<=40
 ne:x≠[]
theorem zoK_ (hn:NM n)(hu:∀x∈u,UW x)(hl:u.length<=10):(RD n u).length<=1000:=by
 have:=zcZ_ 32 (sDECK::n::u.map wd) 40 λp hp=>by
  rcases jK.mp hp with rfl |hp
  ·decide
  rcases jK.mp hp with rfl |hp
  ·have:=hn.2.1;lia
  obtain⟨x,hx,rfl⟩:=j4.mp hp;rw[zfs_];exact(hu x hx).le
 rw[jg,jg,i7]at this;exact ki this (by lia)
theorem wdsD (hn:NM n)(hu:∀x∈u,UW x)(hl:u.length<=10):zO_.val [.str (RD n u)]=.ok (LS .str (sDECK::n::u.map wd)):=by
 refine zji_ (b:=.non) (zap_ 32 _ (by simp) λp hp=>?_) (zoK_ hn hu hl) (λh=>?_) (by simp;lia) (by simp) rfl rfl (.inl rfl) (by decide)
 ·rcases jK.mp hp with rfl |hp
  ·decide
  rcases jK.mp hp with rfl |hp
  ·exact no32 hn
  obtain⟨x,hx,rfl⟩:=j4.mp hp;exact wd_no x
 ·rcases jK.mp h with h |h
  ·cases h
  rcases jK.mp h with h |h
  ·exact nm_ne hn h.symm
  obtain⟨x,hx,e⟩:=j4.mp h;have:=zfs_ x;rw[e]at this;exact(hu x hx).ne (lp.mp this.symm)
def dkO (u:Jy):Cds:=u.map λx=>x++i8 (40-x.length) 32
theorem ag1F {env e1:VI.Env}{x:X}{d:D}(hx:keep (x.ev gi env) env x.uses=.ok d e1):evG gi env [.x x]=.ok (agD [d]) e1:=by
 show((stX gi env x).bind λd e=>(evG gi e []).bind λgs e'=>.ok (.d d::gs) e')=_
 rw[zcv_,hx];rfl
theorem zb9_ {w0:List Nat}{r:Cds}{ss:List S}{row:List Nat}{pn:Nat->Bool}(ew:zO_.val [.str row]=.ok (LS .str (w0::r)))(h2:pn 2=rS)(h3:pn 3=rS):S.runs gi pn (.asg 2 (.pu (.call zO_ "words_of" [(.v 1)]))::.asg 3 (.pu (.bin .ix (.v 2) (.k (.int 0))))::ss) [rP (DK m),rP (.str row),rQ,rQ]=S.runs gi pn ss [rP (DK m),rP (.str row),rP (LS .str (w0::r)),rP (.str w0)]:=by
 have i0:atI (w0::r) 0=rP w0:=zmB_ ..;rw[zaw_ (d:=LS .str (w0::r)) (by exists ew) h2]
 show S.runs gi pn _ [rP (DK m),rP (.str row),rP (LS .str (w0::r)),rQ]=_
 rw[zaw_ (d:=.str w0) (by exists i0) h3]
 rfl
theorem dkx {a b:List Nat}(h:a≠b):eqD rS (.str a) (.str b)=.ok (.bl rS):=by rw[zgK_,decide_eq_false h];rfl
theorem zh5_ (hn:NM n)(hm:m.length<1000)(hu:∀x∈u,UW x)(hl:u.length<=10):zf_ [DK m,.str (RD n u)]=.ok (LS .str []) [DK (up n (dkO u) m),.str (RD n u)]:=by
 have hf:zf_=fnOf gi 2 2 zl_:=rfl;have ew:=wdsD hn hu hl;have el:=zmO_ (w0:=sDECK) hn hm (λx hx=>⟨(hu x hx).sg,(hu x hx).le⟩) (by lia)
 generalize n::u.map wd=ws at ew el
 generalize RD n u=row at ew
 have el:zB_ [DK m,.fz (LS .str (sDECK::ws))]=.ok (LS .str []) [DK (up n (dkO u) m),.fz (LS .str (sDECK::ws))]:=el
 generalize DK (up n (dkO u) m)=D1 at el
 rw[hf];refine(za3_ rfl (d:=LS .str []) (e:=[rP D1,rP (.str row),rP (.fz (LS .str (sDECK::ws))),rP (.str sDECK)]) ?_).trans rfl;show S.runs gi _ zl_ [rP (DK m),rP (.str row),rQ,rQ]=_
 unfold zl_;refine(zb9_ ew rfl rfl).trans ?_;rw[za9_ (by exists decide_eq_true (show sDECK=[100,101,99,107]from rfl))]
 show S.runs gi _ (S.ret _::_) _=_
 exact za4_ (me_v (ds:=[.fz (LS .str (sDECK::ws))]) (e1:=[rP (DK m),rP (.str row),rP (.fz (LS .str (sDECK::ws))),rP (.str sDECK)]) rfl rfl (by decide) (ag1F (zaq_ _ z7_)) (zae_ rfl el))
theorem zmx_:Tu.f (.kin "ROWS" za1_) sSHOW=.ok (.bl rS):=rfl
theorem zeJ_ (hn:NM n):(n∈m.map (·.1)->zf_ [DK m,.str (R2w sSHOW n)]=.ok (LS .str (gt n m)) [DK m,.str (R2w sSHOW n)])/\(n∉m.map (·.1)->zf_ [DK m,.str (R2w sSHOW n)]=.ex (.pl "NoTray") [DK m,.str (R2w sSHOW n)]):=by
 have hf:zf_=fnOf gi 2 2 zl_:=rfl;have ew:=wds2 (w0:=sSHOW) (b:=.non) (by decide) (by decide) (by decide) hn rfl rfl (by decide)
 generalize R2w sSHOW n=row at ew
 have i1:atI [sSHOW,n] 1=rP n:=zlY_ ..;have key:∀(r:Mo D),zq_.val [.fz (DK m),.str n]=r->X.ev gi [rP (DK m),rP (.str row),rP (LS .str [sSHOW,n]),rP (.str sSHOW)] (.meth [("Desk",zq_)] (.v 0) "deck_by" [(.bin .ix (.v 2) (.k (.int 1)))])=r:=λr hr=>zcl_ (d:=.fz (DK m)) (ds:=[.str n]) rfl rfl rfl (by decide) (by exists zQ_,i1) hr
 rw[hf];refine⟨λh=>(za3_ rfl (d:=LS .str (gt n m)) (e:=[rP (DK m),rP (.str row),rP (LS .str [sSHOW,n]),rP (.str sSHOW)]) ?_).trans rfl,λh=>(zd1_ rfl (e:=[rP (DK m),rP (.str row),rP (LS .str [sSHOW,n]),rP (.str sSHOW)]) ?_).trans rfl⟩
 ·show S.runs gi _ zl_ [rP (DK m),rP (.str row),rQ,rQ]=_
  unfold zl_;refine(zb9_ ew rfl rfl).trans ?_;rw[zT_ (by exists dkx (show sSHOW≠[100,101,99,107] by decide))]
  show S.runs gi _ (S.if_ _ _ _::_) _=_
  rw[za9_ (by exists decide_eq_true (show sSHOW=[115,104,111,119]from rfl))]
  show S.runs gi _ (S.ret _::_) _=_
  exact za4_ (by rw[zeH_,key _ (by_in h)];exact zab_ _ zcS_)
 ·show S.runs gi _ zl_ [rP (DK m),rP (.str row),rQ,rQ]=_
  unfold zl_;refine(zb9_ ew rfl rfl).trans ?_;rw[zT_ (by exists dkx (show sSHOW≠[100,101,99,107] by decide))]
  show S.runs gi _ (S.if_ _ _ _::_) _=_
  rw[za9_ (by exists decide_eq_true (show sSHOW=[115,104,111,119]from rfl))]
  show S.runs gi _ (S.ret _::_) _=_
  rw[S.runs,S.run,zeH_,key _ (zoi_ hn h)];rfl
theorem zeX_ (hn:NM n):(n∈m.map (·.1)->zf_ [DK m,.str (R2w sDROP n)]=.ok (LS .str []) [DK (er n m),.str (R2w sDROP n)])/\(n∉m.map (·.1)->zf_ [DK m,.str (R2w sDROP n)]=.ex (.pl "NoTray") [DK m,.str (R2w sDROP n)]):=by
 have hf:zf_=fnOf gi 2 2 zl_:=rfl;have ew:=wds2 (w0:=sDROP) (b:=.non) (by decide) (by decide) (by decide) hn rfl rfl (by decide)
 generalize R2w sDROP n=row at ew
 rw[hf];refine⟨λh=>(za3_ rfl (d:=LS .str []) (e:=[rP (DK (er n m)),rP (.str row),rP (.fz (LS .str [sDROP,n])),rP (.str sDROP)]) ?_).trans rfl,λh=>(zd1_ rfl (e:=[rP (DK m),rP (.str row),rP (.fz (LS .str [sDROP,n])),rP (.str sDROP)]) ?_).trans rfl⟩
 ·show S.runs gi _ zl_ [rP (DK m),rP (.str row),rQ,rQ]=_
  unfold zl_;refine(zb9_ ew rfl rfl).trans ?_;rw[zT_ (by exists dkx (show sDROP≠[100,101,99,107] by decide))]
  show S.runs gi _ (S.if_ _ _ _::_) _=_
  rw[zT_ (by exists dkx (show sDROP≠[115,104,111,119] by decide))]
  show S.runs gi _ (S.if_ _ _ _::_) _=_
  rw[za9_ (by exists decide_eq_true (show sDROP=[100,114,111,112]from rfl))]
  show S.runs gi _ (S.ret _::_) _=_
  exact za4_ (me_v (ds:=[.fz (LS .str [sDROP,n])]) (e1:=[rP (DK m),rP (.str row),rP (.fz (LS .str [sDROP,n])),rP (.str sDROP)]) rfl rfl (by decide) (ag1F (zaq_ _ z7_)) (zae_ rfl (znW_ h)))
 ·show S.runs gi _ zl_ [rP (DK m),rP (.str row),rQ,rQ]=_
  unfold zl_;refine(zb9_ ew rfl rfl).trans ?_;rw[zT_ (by exists dkx (show sDROP≠[100,101,99,107] by decide))]
  show S.runs gi _ (S.if_ _ _ _::_) _=_
  rw[zT_ (by exists dkx (show sDROP≠[115,104,111,119] by decide))]
  show S.runs gi _ (S.if_ _ _ _::_) _=_
  rw[za9_ (by exists decide_eq_true (show sDROP=[100,114,111,112]from rfl))]
  show S.runs gi _ (S.ret _::_) _=_
  have y:Y.ev gi (.meth [("Desk",zm_)] (.v 0) "drop_tray" [(.x (.v 2))]) [rP (DK m),rP (.str row),rP (LS .str [sDROP,n]),rP (.str sDROP)]=.ex (.pl "NoTray") [rP (DK m),rP (.str row),rP (.fz (LS .str [sDROP,n])),rP (.str sDROP)]:=me_v (ds:=[.fz (LS .str [sDROP,n])]) (e1:=[rP (DK m),rP (.str row),rP (.fz (LS .str [sDROP,n])),rP (.str sDROP)]) rfl rfl (by decide) (ag1F (zaq_ _ z7_)) (zeV_ rfl (zjr_ hn h))
  rw[S.runs,S.run,y];rfl
end
def HE (f:Cds):D:=.nd .tup [.fz (LS .str f),LS .str f]
def HL (h:List Cds):D:=.nd .lst (h.map HE)
section
variable {row:List Nat}{m:TT}
theorem zig_:zI_.val [.fz (.nd (.exc "NoTray") [])]=.ok (.bl rR):=by
 have v:(D.fz (.nd (.exc "NoTray") [])).vw=.fz (.nd (.exc "NoTray") []):=rfl;have is (tb:List (String×Bool)) (b:Bool) (h:tb.lookup "NoTray"=rP b):isxD tb (.fz (.nd (.exc "NoTray") []))=.ok (.bl b):=by
  show Mo.opt ((tb.lookup "NoTray").map D.bl)=_
  rw[h];rfl
 have f0:=is [("NoTray",rS)] rS rfl;have f1:=is [("NoTray",rR)] rR rfl;refine zbX_ rfl rfl λpn hp=>?_
 unfold zba_;have x (e:VI.Env) (ns tb:List (String×Bool)) (b:Bool) (hm:(ns,tb)∈gi.ix) (hb:isxD tb (.fz (.nd (.exc "NoTray") []))=.ok (.bl b)) (hg:getE e 0=.ok (.fz (.nd (.exc "NoTray") []))):X.ev gi e (.isx (.v 0) ns tb)=.ok (.bl b):=by
  rw[zme_ (G:=gi) (a:=.v 0) (env:=e) ns tb hm,xv_v,hg,zbp_,hb]
 show En (S.runs gi pn _ [rP (.fz (.nd (.exc "NoTray") [])),rQ]) _
 rw[zaw_ (d:=.nd .lst [.bl rS,.bl rS,.bl rS,.bl rS]) (by
  have g:getE [rP (.fz (.nd (.exc "NoTray") [])),rQ] 0=.ok (.fz (.nd (.exc "NoTray") [])):=rfl
  exists x _ [("NoCard",rR)] [("NoTray",rS)] rS (by decide) f0 g,x _ [("NoField",rR)] [("NoTray",rS)] rS (by decide) f0 g,x _ [("NoOrder",rR)] [("NoTray",rS)] rS (by decide) f0 g,x _ [("NoBoard",rR)] [("NoTray",rS)] rS (by decide) f0 g) (hp _)]
 show En (S.runs gi pn _ [rP (.fz (.nd (.exc "NoTray") [])),rP (.nd .lst [.bl rS,.bl rS,.bl rS,.bl rS])]) _
 have a1:addA (.fz (.nd .lst [.bl rS,.bl rS,.bl rS,.bl rS])) (.nd .lst [.bl rS,.bl rS,.bl rS,.bl rS])=.ok (.nd .lst [.bl rS,.bl rS,.bl rS,.bl rS,.bl rS,.bl rS,.bl rS,.bl rS]):=rfl;have v1:(D.nd .lst [.bl rS,.bl rS,.bl rS,.bl rS]).vw=.fz (.nd .lst [.bl rS,.bl rS,.bl rS,.bl rS]):=rfl;rw[zaw_ (d:=.nd .lst [.bl rS,.bl rS,.bl rS,.bl rS,.bl rS,.bl rS,.bl rS,.bl rS]) (by
  have g:getE [rP (.fz (.nd (.exc "NoTray") [])),rP (.nd .lst [.bl rS,.bl rS,.bl rS,.bl rS])] 0=.ok (.fz (.nd (.exc "NoTray") [])):=rfl;rw[zeH_,zhm_,xv_v,show getE [rP (.fz (.nd (.exc "NoTray") [])),rP (.nd .lst [.bl rS,.bl rS,.bl rS,.bl rS])] 1=.ok (.fz (.nd .lst [.bl rS,.bl rS,.bl rS,.bl rS]))from rfl,zbp_,zlq_]
  exists x _ [("Meet",rR)] [("NoTray",rS)] rS (by decide) f0 g,x _ [("NoAsking",rR)] [("NoTray",rS)] rS (by decide) f0 g,x _ [("NoPlan",rR)] [("NoTray",rS)] rS (by decide) f0 g,x _ [("NoRow",rR)] [("NoTray",rS)] rS (by decide) f0 g
  rfl) (hp _)]
 show En (S.runs gi pn _ [rP (.fz (.nd (.exc "NoTray") [])),rP (.nd .lst [.bl rS,.bl rS,.bl rS,.bl rS,.bl rS,.bl rS,.bl rS,.bl rS])]) _
 have g:getE [rP (.fz (.nd (.exc "NoTray") [])),rP (.nd .lst [.bl rS,.bl rS,.bl rS,.bl rS,.bl rS,.bl rS,.bl rS,.bl rS])] 0=.ok (.fz (.nd (.exc "NoTray") [])):=rfl;have z:X.ev gi [rP (.fz (.nd (.exc "NoTray") [])),rP (.nd .lst [.bl rS,.bl rS,.bl rS,.bl rS,.bl rS,.bl rS,.bl rS,.bl rS])] (.bin .nin (.k (.bl rR)) (.v 1))=.ok (.bl rR):=rfl;rw[za4_ (d:=.bl rR) (e:=[rP (.fz (.nd (.exc "NoTray") [])),rP (.nd .lst [.bl rS,.bl rS,.bl rS,.bl rS,.bl rS,.bl rS,.bl rS,.bl rS])]) (by
  exists x _ [("ShopError",rR)] [("NoTray",rR)] rR (by decide) f1 g,x _ [("ValueError",rS)] [("NoTray",rR)] rR (by decide) f1 g,z)]
 fail "q"
theorem zk1_ (hs:zf_ [DK m,.str row]=.ex (.pl "NoTray") [DK m,.str row]):zE_ [DK m,.str row]=.ok (.bl rR) [DK m,.str row]:=by
 have hf:zE_=fnOf gi 2 2 zL_:=rfl;rw[hf];refine(za3_ rfl (d:=.bl rR) (e:=[rP (DK m),rP (.str row),rQ,rQ]) ?_).trans rfl;show S.runs gi _ zL_ [rP (DK m),rP (.str row),rQ,rQ]=_
 unfold zL_;rw[zaw_ (d:=.bl rS) rfl rfl];show S.runs gi _ _ [rP (DK m),rP (.str row),rP (.bl rS),rQ]=_
 rw[rn_s (e1:=[rP (DK m),rP (.str row),rP (.bl rR),rQ]) (by
  rw[S.run,if_pos (show("NoTray",[("NoTray",rR)])∈gi.ct from by decide)]
  unfold tryMM;have c1:callG zf_ (.l (0,[])::agD [.str row]) [rP (DK m),rP (.str row),rP (.bl rS),rQ]=.ex (.pl "NoTray") [rP (DK m),rP (.str row),rP (.bl rS),rQ]:=by
   rw[zcX_];exact zeV_ rfl hs
  have e1:evG gi [rP (DK m),rP (.str row),rP (.bl rS),rQ] [.x (.v 1)]=.ok (agD [.str row]) [rP (DK m),rP (.str row),rP (.bl rS),rQ]:=ag1 (by exists zgn_)
  have p1:Pt.ev gi [rP (DK m),rP (.str row),rP (.bl rS),rQ] (.v 0)=.ok (0,[]):=rfl;have a1:atE [rP (DK m),rP (.str row),rP (.bl rS),rQ] (0,[])=rP (DK m):=rfl;have o1:VI.isObj [("Desk",zf_)] "say" (DK m)=rR:=rfl;simp only[p1,a1,o1,e1,c1,if_true,landM];rw[if_pos ⟨rfl,rfl,show 3<4 by decide⟩]
  show goneM 3 (hRun gi _ [(2,.call zI_ "_law_kinds" [.v 3])] [rP (DK m),rP (.str row),rP (.bl rS),rP (.fz (.nd (.exc "NoTray") []))])=_
  have k1:stX gi [rP (DK m),rP (.str row),rP (.bl rS),rP (.fz (.nd (.exc "NoTray") []))] (.call zI_ "_law_kinds" [.v 3])=.ok (.bl rR) [rP (DK m),rP (.str row),rP (.bl rS),rP (.fz (.nd (.exc "NoTray") []))]:=by
   rw[zcv_,zgu_];show keep (zI_.val [.fz (.nd (.exc "NoTray") [])]) _ _=_
   rw[zig_];rfl
  unfold hRun;rw[k1];rfl)]
 rw[za4_ (d:=.bl rR) (e:=[rP (DK m),rP (.str row),rQ,rQ]) rfl]
variable {n:List Nat}{h:List Cds}
theorem zgL_ {f:Fn}{nm:Str}{env:VI.Env}{x:X}{i:Nat}{d:D}(hx:keep (x.ev gi env) env x.uses=.ok d env)(hi:(atE env (i,[])).isSome=rR):Y.ev gi (.call f nm [(.l (.v i)),(.x x)]) env=call1 f i [d] env:=by
 rw[Y.ev];have e:evG gi env [.l (.v i),.x x]=.ok (.l (i,[])::agD [d]) env:=by
  unfold evG;rw[Pt.ev,if_pos hi];show(Mr.bind (evG gi env [.x x]) _)=_
  rw[ag1 hx];rfl
 rw[e,zaW_,zcX_]
theorem zm2_ (hn:n∈m.map (·.1)):ixA (TF m) (.str n)=.ok (.fz (LS .str (gt n m))):=by
 have e:=zks_ hn;have e1:ixA (TD m) (.str n)=Mo.opt ((valD (m.map λq=>kN_t q.1) (m.map λq=>LS D.str q.2) (kN_t n)).map D.vw):=rfl
 have e2:ixA (TF m) (.str n)=Mo.opt ((valD (m.map λq=>kN_t q.1) (m.map λq=>D.fz (LS D.str q.2)) (kN_t n)).map D.vw):=rfl
 rw[e1,zdX_]at e;rw[e2,zdX_ (g:=λc=>D.fz (LS D.str c))]
 cases z:m.find? λq=>decide (q.1=n)with
 |none=>rw[z]at e;cases e|some q=>rw[z]at e;exact e
theorem eq_T (f:Cds):eqD rR (LS .str f) (LS .str f)=.ok (.bl rS):=by
 rw[zhQ_ (eq_ls (n:=11) (zle_ 11) f f),decide_eq_true rfl];rfl
theorem hl_new (h:List Cds):True:=trivial
theorem zmg_ {f:Cds}(hl:h.length<10000):appendF [HL h,HE f]=.ok .non [HL (h++[f]),.gone]:=by
 show(if(h.map HE).length<jj then Mr.ok D.non [D.nd .lst (h.map HE++[HE f]),D.gone]else Mr.no)=_
 rw[if_pos (zhH_ (by rw[i7];lia))]
 unfold HL;rw[kr];rfl
def SV:List Nat:=i8 40 55
theorem m7:mulD (.str [55]) (.int 40)=.ok (.str SV):=by
 show Mo.grd (CRep 1 40) _=_
 rw[Mo.grd_ok (by decide)];rfl
theorem zjx_:(TF m).vw=.fz (TF m):=rfl
theorem vw_hl:(HL h).vw=.fz (HL h):=rfl
theorem zkn_ (hn:NM n)(ho:n∉m.map (·.1)):zn_ [DK m,TF m,.str n,HL h]=.ok (.bl rR) [DK m,TF m,.str n,HL h]:=by
 have hf:zn_=fnOf gi 4 2 zC_:=rfl;have e1:=zk1_ ((zeJ_ hn).2 ho);rw[hf];refine(za3_ rfl (d:=.bl rR) (e:=[rP (DK m),rP (TF m),rP (.str n),rP (HL h),rQ,rQ]) ?_).trans rfl;show S.runs gi _ zC_ [rP (DK m),rP (TF m),rP (.str n),rP (HL h),rQ,rQ]=_
 unfold zC_;rw[za9_ (by exists zjx_,ziY_,decide_eq_false ho)]
 show S.runs gi _ (S.ret _::_) _=_
 have a1:addA (.str [115,104,111,119,32]) (.str n)=.ok (.str (R2w sSHOW n)):=ad_s (by have:=hn.2.1;simp;lia)
 exact za4_ ((zgL_ (d:=.str (R2w sSHOW n)) (by exists a1) rfl).trans (zae_ rfl e1))
theorem sh_in (hn:NM n)(ho:n∈m.map (·.1))(hg:(gt n m).length<=100)(hl:h.length<10000):zn_ [DK m,TF m,.str n,HL h]=.ok (.bl rR) [DK m,TF m,.str n,HL (h++[gt n m++[SV]])]:=by
 have hf:zn_=fnOf gi 4 2 zC_:=rfl;have e1:=(zeJ_ hn).1 ho;rw[hf];have ti:=zm2_ ho
 generalize gt n m=f at e1 ti hg
 refine(za3_ rfl (d:=.bl rR) (e:=[rP (DK m),rP (TF m),rP (.str n),rP (HL (h++[f++[SV]])),rP (.fz (LS .str (f++[SV]))),rQ]) ?_).trans rfl;show S.runs gi _ zC_ [rP (DK m),rP (TF m),rP (.str n),rP (HL h),rQ,rQ]=_
 unfold zC_;rw[zT_ (by exists zjx_,ziY_,decide_eq_true ho)]
 show S.runs gi _ (S.asg _ _::_) _=_
 have a1:addA (.str [115,104,111,119,32]) (.str n)=.ok (.str (R2w sSHOW n)):=ad_s (by have:=hn.2.1;simp;lia)
 have y1:Y.ev gi (.meth [("Desk",zf_)] (.v 0) "say" [(.x (.bin .add (.k (.str [115,104,111,119,32])) (.v 2)))]) [rP (DK m),rP (TF m),rP (.str n),rP (HL h),rQ,rQ]=.ok (LS .str f) [rP (DK m),rP (TF m),rP (.str n),rP (HL h),rQ,rQ]:=me_v (ds:=[.str (R2w sSHOW n)]) (e1:=[rP (DK m),rP (TF m),rP (.str n),rP (HL h),rQ,rQ]) rfl rfl (by decide) (ag1F (by exists a1)) (zae_ rfl e1)
 rw[zaw_ y1 rfl];show S.runs gi _ _ [rP (DK m),rP (TF m),rP (.str n),rP (HL h),rP (LS .str f),rQ]=_
 have is:isaD "list" (LS .str f)=.ok (.bl rR):=rfl;rw[zT_ (by exists is,zjx_,ti,eq_T,nF)]
 show S.runs gi _ (S.view _ _::_) _=_
 rw[rn_s (e1:=[rP (DK m),rP (TF m),rP (.str n),rP (HL h),rP (LS .str f),rQ]) (by
  rw[S.run];have hv:vwE [rP (DK m),rP (TF m),rP (.str n),rP (HL h),rP (LS .str f),rQ]=[rP (.fz (DK m)),rP (.fz (TF m)),rP (.str n),rP (.fz (HL h)),rP (.fz (LS .str f)),rQ]:=rfl;rw[hv];have hw:∃x,S.run gi (pnV [5]) (.for_ .any [(.v 4)] ⟨rS,[5]⟩ [.if_ (.not (.isa (.v 5) "str")) [.ret (.pu (.k (.bl rS)))] []]) [rP (.fz (DK m)),rP (.fz (TF m)),rP (.str n),rP (.fz (HL h)),rP (.fz (LS .str f)),rQ]=.ok .nx [rP (.fz (DK m)),rP (.fz (TF m)),rP (.str n),rP (.fz (HL h)),rP (.fz (LS .str f)),x]:=by
   have:En (S.runs gi (pnV [5]) [.for_ .any [(.v 4)] ⟨rS,[5]⟩ [.if_ (.not (.isa (.v 5) "str")) [.ret (.pu (.k (.bl rS)))] []]] [rP (.fz (DK m)),rP (.fz (TF m)),rP (.str n),rP (.fz (HL h)),rP (.fz (LS .str f)),rQ]) λo e=>o=.nx/\∃x,e=[rP (.fz (DK m)),rP (.fz (TF m)),rP (.str n),rP (.fz (HL h)),rP (.fz (LS .str f)),x]:=by
    refine zcW_ (l:=f) (enc:=λt=>[D.str t]) (d:=.fz (LS .str f)) (e1:=[rP (.fz (DK m)),rP (.fz (TF m)),rP (.str n),rP (.fz (HL h)),rP (.fz (LS .str f)),rQ]) (λ_ e=>∃x,e=[rP (.fz (DK m)),rP (.fz (TF m)),rP (.str n),rP (.fz (HL h)),rP (.fz (LS .str f)),x]) (by
     show keep (.ok (.fz (LS .str f))) _ _=_
     rw[zaq_ _ z7_];rfl) rfl (zaH_ _ _) ⟨rQ,rfl⟩ (λd t r e hl he=>?_) λe he=>?_
    ·obtain⟨x,rfl⟩:=he
     have i2:isaD "str" (.str t)=.ok (.bl rR):=rfl;refine⟨[rP (.fz (DK m)),rP (.fz (TF m)),rP (.str n),rP (.fz (HL h)),rP (.fz (LS .str f)),rP (.str t)],rfl,?_⟩;rw[zT_ (by exists i2)]
     exact⟨_,_,rfl,.inl ⟨.inl rfl,_,rfl⟩⟩
    ·obtain⟨x,rfl⟩:=he
     exact⟨_,_,rfl,rfl,x,rfl⟩
   obtain⟨o,e,h1,rfl,x,rfl⟩:=this;refine⟨x,?_⟩;rw[S.runs]at h1;cases z:S.run gi (pnV [5]) (.for_ .any [(.v 4)] ⟨rS,[5]⟩ [.if_ (.not (.isa (.v 5) "str")) [.ret (.pu (.k (.bl rS)))] []]) [rP (.fz (DK m)),rP (.fz (TF m)),rP (.str n),rP (.fz (HL h)),rP (.fz (LS .str f)),rQ]with
   |no=>rw[z]at h1;cases h1|ex x e=>rw[z]at h1;cases h1|ok o e=>
    rw[z]at h1;cases o with
    |nx=>rw[zi0_,S.runs]at h1;injection h1 with _ h2;rw[h2]
    |_=>cases h1
  obtain⟨x,hx⟩:=hw;rw[hx];rfl)]
 rw[rn_e (zlW_ (o:=.append) (q:=(4,[])) (c:=LS .str f) (ds:=[.str SV]) rfl rfl rfl (ag1 (by exists m7)) (zkS_ (g:=.str) (by lia)))]
 show S.runs gi _ _ [rP (DK m),rP (TF m),rP (.str n),rP (HL h),rP (LS .str (f++[SV])),rQ]=_
 generalize f++[SV]=f'
 have x1:keep (X.ev gi [rP (DK m),rP (TF m),rP (.str n),rP (HL h),rP (LS .str f'),rQ] (.tup [(.v 4),(.bf .list [(.v 4)])])) [rP (DK m),rP (TF m),rP (.str n),rP (HL h),rP (LS .str f'),rQ] [4,4]=.ok (HE f') [rP (DK m),rP (TF m),rP (.str n),rP (HL h),rP (.fz (LS .str f')),rQ]:=by
  have:X.ev gi [rP (DK m),rP (TF m),rP (.str n),rP (HL h),rP (LS .str f'),rQ] (.tup [(.v 4),(.bf .list [(.v 4)])])=.ok (HE f'):=by
   exists zQ_;rfl
  rw[this,zaq_ _ (by unfold HE;rw[D.new,D.news,z7_];rfl)];rfl
 have y2:Y.ev gi (.bm .append (.v 3) [(.x (.tup [(.v 4),(.bf .list [(.v 4)])]))]) [rP (DK m),rP (TF m),rP (.str n),rP (HL h),rP (LS .str f'),rQ]=.ok .non [rP (DK m),rP (TF m),rP (.str n),rP (HL (h++[f'])),rP (.fz (LS .str f')),rQ]:=by
  rw[bm_v];show onS "list" _ 3 ((keep _ _ [4,4]).bind _)=_
  rw[znp_ rfl rfl,x1,zaW_];exact zae_ rfl (zmg_ hl)
 rw[rn_e y2];rfl
end
theorem zk7_ (ns:List Int){k:Int}(h0:0<=k):∃c,zM_.val [scr ns,.int k]=.ok (.int c):=by
 by_cases hk:k<(ns.length:Int)
 ·refine⟨ns.getD k.toNat 0,zbX_ rfl rfl λpn hp=>?_⟩
  unfold z8_
  exists hp,zgJ_,decide_eq_true hk,VI.vd_ix h0 hk
  fail "q"
 ·refine⟨0,zbX_ rfl rfl λpn hp=>?_⟩
  unfold z8_
  exists hp,zgJ_,decide_eq_false hk
  fail "q"
theorem sgm (x:Int):∃s,s∈SG/\ixA (.str SG) (.int (x % 37))=.ok (.str [s]):=sg_ix (ku x (show(37:Int)≠0 by lia)) (j9 x (show(0:Int)<37 by lia))
theorem znf_ (N:Int):∃t,zam_.val [.int N]=.ok (.str t)/\KD t:=by
 have key:∀pn:Nat->Bool,(∀i,pn i=rS)->En (S.runs gi pn zaj_ ([.int N].map rP++i8 3 rQ)) λo _=>∃t,o=.rt (.str t)/\KD t:=λpn hp=>by
  unfold zaj_;show En (S.runs gi pn _ [rP (.int N),rQ,rQ,rQ]) _
  rw[zaw_ (d:=.str SG) (by exists hp;rfl) (hp _)]
  show En (S.runs gi pn _ [rP (.int N),rP (.str SG),rQ,rQ]) _
  rw[zaw_ (d:=.str []) (by exists hp) (hp _)]
  refine zev_ (l:=jV 40) (enc:=λi:Nat=>[.int (0+(i:Int))]) (d:=.int 40) (λd e=>∃x t o,e=[rP (.int x),rP (.str SG),rP (.str t),o]/\t.length=d.length/\∀c∈t,c∈SG) (by exists hp) (rg1 (j:=40) (by lia) (by lia)) (zaH_ _ _) ⟨N,[],rQ,rfl,rfl,λc hc=>by cases hc⟩ (λd i r e hl he=>?_) λe he=>?_
  ·obtain⟨x,t,o,rfl,htl,hts⟩:=he
   have hd:d.length<40:=by have:=congrArg nr hl;simp at this;lia
   refine⟨[rP (.int x),rP (.str SG),rP (.str t),rP (.int (0+(i:Int)))],(by exists hp),?_⟩
   obtain⟨s,hs,e3⟩:=sgm x;rw[zaw_ (d:=.str (t++[s])) (by exists hp,e3,ad_s (a:=t) (b:=[s]) (by simp;lia)) (hp _)]
   show En (S.runs gi pn _ [rP (.int x),rP (.str SG),rP (.str (t++[s])),rP (.int (0+(i:Int)))]) _
   rw[zaw_ (d:=.int (x / 37)) (by exists hp) (hp _)]
   refine⟨_,_,rfl,.inl ⟨.inl rfl,_,_,_,rfl,by rw[jC,jC,htl];rfl,λc hc=>?_⟩⟩
   rcases kg.mp hc with hc |hc
   ·exact hts c hc
   ·rw[jS.mp hc];exact hs
  ·obtain⟨x,t,o,rfl,htl,hts⟩:=he
   rw[kl]at htl
   exists hp
   exact⟨_,_,rfl,t,rfl,htl,hts⟩
 have hf:zam_=fnOf gi 1 3 zaj_:=rfl;obtain⟨o,e,h1,t,rfl,h2⟩:=key (pins [.int N]) (zbJ_ rfl);exact⟨t,by rw[hf];exact zhK_ (zi3_ rfl rfl h1),h2⟩
def CB (c:Int):Prop:=kb c<=1048577
theorem zkL_ {c b:Int}(h:CB c)(hb:kb b<=1000):mulD (.int (c / 2)) (.int b)=.ok (.int (c / 2*b)):=VI.vd_mul (mulOk_of_bits (bits_of_natAbs_le (b:=c) (by lia) h) hb (by decide))
theorem zoH_ (m:Nat):∀c∈dg m,48<=c/\c<=57:=by
 induction m using Nat.strongRecOn with
 |_ m ih=>
  by_cases h:m<10
  ·rw[dg_lt h];intro c hc;rw[jS.mp hc];lia
  ·rw[dg_ge h];intro c hc
   rcases kg.mp hc with hc |hc
   ·exact ih (m / 10) (by lia) c hc
   ·rw[jS.mp hc];lia
theorem znZ_ {c:Nat}(h:48<=c/\c<=57):c∈SG:=by
 obtain⟨k,rfl⟩:∃k,c=48+k:=⟨c-48,by lia⟩
 have:∀k<10,48+k∈SG:=by decide
 exact this k (by lia)
theorem zoJ_ {x:Int}(h0:0<=x)(h1:x<10 ^ 40):strD [.int x]=.ok (.str (strI x))/\(strI x).length<=40/\∀c∈strI x,c∈SG:=by
 obtain⟨m,rfl⟩:∃m:Nat,x=m:=⟨x.toNat,by lia⟩
 have h4:((10:Int) ^ 40)=((10 ^ 40:Nat):Int):=by decide
 have hm:m<10 ^ 40:=by lia
 rw[zdY_];refine⟨?_,(zjf_ 39 m hm).1,λc hc=>znZ_ (zoH_ m c hc)⟩
 show Mo.grd _ (Mq (D.str (strI (m:Int))))=_
 rw[zdY_,Mo.grd_ok];show m.log2<1920
 by_cases h:m=0
 ·subst h;decide
 ·have:m.log2<140:=(Nat.log2_lt h).mpr (oN hm (by decide))
  lia
theorem rep_1 {c:Nat}{k:Int}(h0:0<=k)(h1:k<=1000):mulD (.str [c]) (.int k)=.ok (.str (i8 k.toNat c)):=by
 show Mo.grd (CRep 1 k) (Mq (D.str (repL [c] k)))=_
 rw[Mo.grd_ok ⟨h0,by lia,by lia,by lia⟩]
 have:repL [c] k=i8 k.toNat c:=by
  unfold repL
  generalize k.toNat=n
  induction n with
  |zero=>rfl|succ n ih=>rw[ka,ka,lI,ih];rfl
 rw[this]
theorem zm4_ {c:Int}(hc:CB c):∃t,z3_.val [.int c]=.ok (.str t)/\KD t:=by
 by_cases h2:c % 2=0
 ·obtain⟨t,et,ht⟩:=znf_ (c / 2*(1+5*37 ^ 13+11*37 ^ 29+3*37 ^ 36) % 37 ^ 40)
  refine⟨t,zbX_ rfl rfl λpn hp=>?_,ht⟩
  unfold zaR_;have m1:=zkL_ (b:=1+5*37 ^ 13+11*37 ^ 29+3*37 ^ 36) hc (by decide +kernel)
  have p1:powD (.int 37) (.int 13)=.ok (.int (37 ^ 13)):=rfl;have p2:powD (.int 37) (.int 29)=.ok (.int (37 ^ 29)):=rfl;have p3:powD (.int 37) (.int 36)=.ok (.int (37 ^ 36)):=rfl;have p4:powD (.int 37) (.int 40)=.ok (.int (37 ^ 40)):=rfl;have q1:mulD (.int 5) (.int (37 ^ 13))=.ok (.int (5*37 ^ 13)):=rfl;have q2:mulD (.int 11) (.int (37 ^ 29))=.ok (.int (11*37 ^ 29)):=rfl;have q3:mulD (.int 3) (.int (37 ^ 36))=.ok (.int (3*37 ^ 36)):=rfl;have md:modD (.int (c / 2*(1+5*37 ^ 13+11*37 ^ 29+3*37 ^ 36))) (.int (37 ^ 40))=.ok (.int (c / 2*(1+5*37 ^ 13+11*37 ^ 29+3*37 ^ 36) % 37 ^ 40)):=VI.vd_mod (by decide)
  rw[za9_ (by exists hp,decide_eq_true h2)]
  show En (S.runs gi pn (S.ret _::_) _) _
  exists hp,p1,p2,p3,p4,q1,q2,q3,m1,md,et
  fail "q"
 ·have m1:=zkL_ (b:=7+3*10 ^ 17+10 ^ 31) hc (by decide +kernel)
  have p1:powD (.int 10) (.int 17)=.ok (.int (10 ^ 17)):=rfl;have p2:powD (.int 10) (.int 31)=.ok (.int (10 ^ 31)):=rfl;have p4:powD (.int 10) (.int 40)=.ok (.int (10 ^ 40)):=rfl;have q1:mulD (.int 3) (.int (10 ^ 17))=.ok (.int (3*10 ^ 17)):=rfl;have md:modD (.int (c / 2*(7+3*10 ^ 17+10 ^ 31))) (.int (10 ^ 40))=.ok (.int (c / 2*(7+3*10 ^ 17+10 ^ 31) % 10 ^ 40)):=VI.vd_mod (by decide)
  obtain⟨e1,l1,s1⟩:=zoJ_ (x:=c / 2*(7+3*10 ^ 17+10 ^ 31) % 10 ^ 40) (ku _ (by decide)) (j9 _ (by decide))
  generalize c / 2*(7+3*10 ^ 17+10 ^ 31) % 10 ^ 40=x at md e1 l1 s1
  generalize hs:strI x=sx at e1 l1 s1
  have k0:=ku (c / 2) (show(5:Int)≠0 by lia)
  have k1:=j9 (c / 2) (show(0:Int)<5 by lia)
  have r1:=rep_1 (c:=32) k0 (by lia)
  have r2:=rep_1 (c:=48) (k:=40) (by lia) (by lia)
  generalize hk:c / 2 % 5=k at r1 k0 k1
  have a1:addA (.str (i8 k.toNat 32)) (.str sx)=.ok (.str (i8 k.toNat 32++sx)):=ad_s (by rw[lg];lia)
  have a2:addA (.str (i8 k.toNat 32++sx)) (.str (i8 40 48))=.ok (.str (i8 k.toNat 32++sx++i8 40 48)):=ad_s (by rw[jC,lg,lg];lia)
  have r2:mulD (.str [48]) (.int 40)=.ok (.str (i8 40 48)):=r2;have hL:(i8 k.toNat 32++sx++i8 40 48).length<=1000:=by rw[jC,jC,lg,lg];lia
  have hG:40<=(i8 k.toNat 32++sx++i8 40 48).length:=by rw[jC,lg];lia
  have hS:∀c∈i8 k.toNat 32++sx++i8 40 48,c∈SG:=λc hc=>by
   rcases kg.mp hc with hc |hc
   ·rcases kg.mp hc with hc |hc
    ·rw[n5 hc];decide
    ·exact s1 c hc
   ·rw[n5 hc];decide
  generalize hz:i8 40 (48:Nat)=Z at r2 a2 hL hG hS
  generalize i8 k.toNat 32++sx++Z=T at a2 hL hG hS
  have sl:slA (.str T) rQ (rP 40)=.ok (.str (T.take 40)):=by
   have:slA (.str T) rQ (rP 40)=Mo.lim T.length (Mq (D.str (cutG T rQ (rP 40)))):=rfl;rw[this,Mo.lim_ok (by lia)]
   have a:HT.sIx T.length 0 rQ=0:=rfl;have b:HT.sIx T.length T.length (rP 40)=40:=by unfold HT.sIx;simp;lia
   unfold cutG;rw[a,b,pd]
  refine⟨T.take 40,zbX_ rfl rfl λpn hp=>?_,by rw[j7];lia,λc hc=>hS c (l7 hc)⟩
  unfold zaR_;show En (S.runs gi pn _ [rP (.int c),rQ]) _
  rw[zT_ (by exists hp,decide_eq_false h2)]
  show En (S.runs gi pn (S.asg _ _::_) _) _
  rw[zaw_ (d:=.str sx) (by exists hp,p1,p2,p4,q1,m1,md,e1) (hp _)]
  show En (S.runs gi pn _ [rP (.int c),rP (.str sx)]) _
  exists hp,hk,r1,r2,a1,a2,sl
  fail "q"
theorem zoc_:∀c∈SG,c<128:=by decide
theorem sg_sp:∀c∈SG,spS ⟨#[c]⟩=rR->c=32:=by decide
theorem zk4_ {t:List Nat}(hk:KD t):∃p,Tu.f .rst t=.ok (.str p)/\(∀c∈p,c∈SG)/\p.length<=40/\p++i8 (40-p.length) 32=t:=by
 obtain⟨hi,h1,h2,h3,_⟩:=rstrip_cut (x:=⟨t.toArray⟩) λc hc=>zoc_ c (hk.2 c (by simpa using hc))
 have hl:(⟨t.toArray⟩:Str).length=t.length:=by show t.toArray.size=_;simp
 rw[hl]at h1 h3;have e1:(Txt.rstrip ⟨t.toArray⟩).cps.toList=t.take hi:=by
  rw[h2,StrLaws.strSub_toList];simp
 refine⟨t.take hi,?_,λc hc=>hk.2 c (l7 hc),by rw[j7,hk.1];lia,?_⟩
 ·show Mo.lim _ (Mq (D.str _))=_
  rw[Mo.lim_ok (by rw[hk.1];decide),e1]
 ·rw[j7,hk.1]
  have hm:min hi 40=hi:=by rw[hk.1]at h1;lia
  rw[hm]
  conv=>rhs;rw[<- List.take_append_drop hi t]
  congr 1
  symm
  rw[List.eq_replicate_iff];refine⟨by rw[kx,hk.1],λc hc=>?_⟩
  obtain⟨j,hj,rfl⟩:=mF hc;rw[kx]at hj;have hs:=h3 (hi+j) (by lia) (by lia)
  have hg:(t.toArray.getD (hi+j) 0)=t[hi+j]:=by simp[Array.getD,show hi+j<t.length by lia]
  rw[List.getElem_drop];rw[show(⟨t.toArray⟩:Str).cps=t.toArray from rfl,hg]at hs
  exact sg_sp _ (hk.2 t[hi+j] (m9 _)) hs
theorem zot_ {t:List Nat}(hk:KD t)(b:Bool):∃u,zY_.val [.str t,.bl b]=.ok (.str (wd u))/\UW u/\u++i8 (40-u.length) 32=t:=by
 have hw:∀u:List Nat,u.length<=40->joinD [95] [LS .str (splitC 32 u)]=.ok (.str (wd u)):=λu hl=>by
  have:=jn_ok (c:=95) (ps:=splitC 32 u) (ki (zcb_ 32 u) (by lia)) λp hp=>ki (zcj_ 32 u p hp) (by lia)
  rw[this,ziG_];rfl
 cases b with
 |true=>
  refine⟨t,zbX_ rfl rfl λpn hp=>?_,⟨hk.2,by rw[hk.1];decide,λh=>by have:=hk.1;rw[h]at this;cases this⟩,by rw[hk.1];simp⟩
  unfold zao_
  exists hp,ziW_,zlZ_,zjI_,zl3_ (t:=t) (c:=32) (by rw[hk.1];decide),hw t (by rw[hk.1];decide)
  fail "q"
 |false=>
  obtain⟨p,e1,h1,h2,h3⟩:=zk4_ hk;by_cases hz:p=[]
  ·subst hz
   refine⟨[32],zbX_ rfl rfl λpn hp=>?_,⟨by decide,by decide,by decide⟩,by rw[<- h3];rfl⟩
   unfold zao_
   exists hp,ziL_,e1,decide_true,ziW_,zlZ_,zjI_,zl3_ (t:=[32]) (c:=32) (by decide),hw [32] (by decide)
   fail "q"
  ·refine⟨p,zbX_ rfl rfl λpn hp=>?_,⟨h1,h2,hz⟩,h3⟩
   unfold zao_
   exists hp,ziL_,e1,decide_eq_false hz,ziW_,zlZ_,zjI_,zl3_ (t:=p) (c:=32) (by lia),hw p h2
   fail "q"
theorem zlJ_ {i:Int}(h0:0<=i)(h1:i<26):∃c,(97<=c/\c<=122)/\ixA (.str LET) (.int i)=.ok (.str [c]):=by
 obtain⟨s,e,hs⟩:=zbe_ (xs:=LET) h0 (show i<(LET.length:Int)from h1)
 have:∀c∈LET,97<=c/\c<=122:=by decide
 refine⟨s,this s hs,?_⟩;show Mo.lim LET.length (Mo.opt ((atI LET i).map λc=>D.str [c]))=_
 rw[Mo.lim_ok (by decide),e];rfl
theorem jn0 {ps:Cds}(hl:ps.length<=100)(h:∀p∈ps,p.length=1):joinD [] [LS .str ps]=.ok (.str ps.flatten)/\ps.flatten.length=ps.length:=by
 have e:joinS [] (strsL ps)=ps.flatten:=by
  rw[L2.zh7_];have e:((strsL ps).map λz:Str=>z.cps.toList)=ps:=by
   unfold strsL;rw[km];exact(la λt _=>rfl).trans (oQ ps)
  rw[e]
 refine⟨?_,?_⟩
 ·show(Mo.opt (strsD (ps.map D.str))).bind _=_
  rw[zhS_,<- e];show Mo.grd _ _=_
  rw[Mo.grd_ok (zcC_ (by unfold strsL;rw[i7];show ps.length*1<=_;lia) ?_)]
  intro z hz;obtain⟨t,ht,rfl⟩:=j4.mp hz;show t.toArray.size<=1
  rw[jq,h t ht];exact jt _
 ·rw[List.length_flatten,List.eq_replicate_of_mem (a:=1) (l:=ps.map nr) (λx hx=>by obtain⟨t,ht,rfl⟩:=j4.mp hx;exact h t ht),i7,List.sum_replicate_nat,Nat.mul_one]
theorem zna_ (c p:Int):∃nl:Cds,z5_.val [.int c,.int p]=.ok (LS .str nl)/\nl.length=4/\∀n∈nl,NM n:=by
 have key:∀pn:Nat->Bool,(∀i,pn i=rS)->En (S.runs gi pn zP_ ([.int c,.int p].map rP++i8 7 rQ)) λo _=>∃nl:Cds,o=.rt (LS .str nl)/\nl.length=4/\∀n∈nl,NM n:=λpn hp=>by
  unfold zP_;show En (S.runs gi pn _ [rP (.int c),rP (.int p),rQ,rQ,rQ,rQ,rQ,rQ,rQ]) _
  rw[zaw_ (d:=.str LET) (by exists hp;rfl) (hp _)]
  show En (S.runs gi pn _ [rP (.int c),rP (.int p),rP (.str LET),rQ,rQ,rQ,rQ,rQ,rQ]) _
  have c0:=ku c (show(8:Int)≠0 by lia)
  have c1:=j9 c (show(0:Int)<8 by lia)
  obtain⟨B,hB⟩:∃B:List Int,B=(jV (1+c % 8).toNat).map λk:Nat=>(c / (0+(k:Int)+1)+(0+(k:Int))*(0+(k:Int))) % 26:=⟨_,rfl⟩
  have iU:B.length=(1+c % 8).toNat:=by rw[hB,i7,kl]
  have gr:∀x∈B,0<=x/\x<26:=λx hx=>by
   rw[hB]at hx;obtain⟨k,_,rfl⟩:=j4.mp hx;exact⟨ku _ (by lia),j9 _ (by lia)⟩
  have xc:X.ev gi [rP (.int c),rP (.int p),rP (.str LET),rQ,rQ,rQ,rQ,rQ,rQ] (.comp ["_law_k"] [("_law_cell",0)] .r1 [(.bin .add (.n 1) (.bin .mod (.v 0) (.n 8)))] ⟨rS,[0]⟩ rQ (.bin .mod (.bin .add (.bin .div (.v 1) (.bin .add (.v 0) (.n 1))) (.bin .mul (.v 0) (.v 0))) (.n 26)))=.ok (LS .int B):=by
   rw[hB];refine xcompN (f:=λk:Nat=>(c / (0+(k:Int)+1)+(0+(k:Int))*(0+(k:Int))) % 26) (o:=D.int) (T:=λk:Nat=>[D.int (0+(k:Int))]) (items:=(jV (1+c % 8).toNat).map λi:Nat=>D.int (0+(i:Int))) (jV (1+c % 8).toNat) rfl (by exists rg1 (j:=1+c % 8) (by lia) (by lia)) (zaH_ _ _) (λk hk=>?_) (by rw[kl];lia)
   have hk:=kH.mp hk;have dv:divD (.int c) (.int (0+(k:Int)+1))=.ok (.int (c / (0+(k:Int)+1))):=zgI_ (by lia) (by lia)
   have ml:mulD (.int (0+(k:Int))) (.int (0+(k:Int)))=.ok (.int ((0+(k:Int))*(0+(k:Int)))):=zda_ (by lia) (by lia)
   exists dv,ml
  rw[zaw_ (d:=LS .int B) (by rw[zeH_,xc];exact zab_ _ zcS_) (hp _)]
  show En (S.runs gi pn _ [rP (.int c),rP (.int p),rP (.str LET),rP (LS .int B),rQ,rQ,rQ,rQ,rQ]) _
  have hL:(0:Int)<B.length:=by lia
  have a0:=ku p (show(B.length:Int)≠0 by lia)
  have a1:=j9 p hL;rw[zaw_ (d:=.int (p % B.length)) (by exists hp,VI.vd_mod hL) (hp _)]
  generalize p % (B.length:Int)=at_ at a0 a1
  show En (S.runs gi pn _ [rP (.int c),rP (.int p),rP (.str LET),rP (LS .int B),rP (.int at_),rQ,rQ,rQ,rQ]) _
  rw[zaw_ (d:=LS .str []) (by exists hp;rfl) (hp _)]
  show En (S.runs gi pn _ [rP (.int c),rP (.int p),rP (.str LET),rP (LS .int B),rP (.int at_),rP (LS .str []),rQ,rQ,rQ]) _
  refine zev_ (l:=jV 4) (enc:=λi:Nat=>[.int (0+(i:Int))]) (d:=.int 4) (λd e=>∃nl a b o,e=[rP (.int c),rP (.int p),rP (.str LET),rP (LS .int B),rP (.int at_),rP (LS .str nl),o,a,b]/\nl.length=d.length/\∀n∈nl,NM n) (by exists hp) (rg1 (j:=4) (by lia) (by lia)) (zaH_ _ _) ⟨[],rQ,rQ,rQ,rfl,rfl,λc hc=>by cases hc⟩ (λd i r e hl he=>?_) λe he=>?_
  ·obtain⟨nl,a,b,o,rfl,hnl,a_⟩:=he
   have hd:d.length<4:=by have:=congrArg nr hl;simp at this;lia
   have hi:i<4:=by
    have:i∈jV 4:=by rw[hl];simp
    exact kH.mp this
   refine⟨[rP (.int c),rP (.int p),rP (.str LET),rP (LS .int B),rP (.int at_),rP (LS .str nl),rP (.int (0+(i:Int))),a,b],(by exists hp),?_⟩
   obtain⟨v,ev,_⟩:=zbe_ (xs:=B) a0 a1;have q0:=ku (p / 8) (show(5:Int)≠0 by lia)
   have q1:=j9 (p / 8) (show(0:Int)<5 by lia)
   have ml:mulD (.int (0+(i:Int))) (.int (1+p / 8 % 5))=.ok (.int ((0+(i:Int))*(1+p / 8 % 5))):=zda_ (by lia) (by lia)
   have o0:=ku (v+(0+(i:Int))*(1+p / 8 % 5)) (show(26:Int)≠0 by lia)
   have o1:=j9 (v+(0+(i:Int))*(1+p / 8 % 5)) (show(0:Int)<26 by lia)
   rw[zaw_ (d:=.int ((v+(0+(i:Int))*(1+p / 8 % 5)) % 26)) (by exists hp,ev,ml) (hp _)]
   generalize (v+(0+(i:Int))*(1+p / 8 % 5)) % 26=ot at o0 o1
   show En (S.runs gi pn _ [rP (.int c),rP (.int p),rP (.str LET),rP (LS .int B),rP (.int at_),rP (LS .str nl),rP (.int (0+(i:Int))),rP (.int ot),b]) _
   have t1:cutG B rQ (rP at_)=B.take at_.toNat:=zey_ a0;have t2:cutG B (rP (at_+1)) rQ=B.drop (at_+1).toNat:=zdr_ (by lia)
   have s1:addA (LS .int (B.take at_.toNat)) (.nd .lst [.int ot])=.ok (LS .int (B.take at_.toNat++[ot])):=zgf_ (g:=D.int) (a:=B.take at_.toNat) (b:=[ot]) (by rw[j7];simp;lia)
   have s2:addA (LS .int (B.take at_.toNat++[ot])) (LS .int (B.drop (at_+1).toNat))=.ok (LS .int (B.take at_.toNat++[ot]++B.drop (at_+1).toNat)):=zgf_ (by rw[jC,j7,kx];simp;lia)
   obtain⟨M,hM,hMl,hMm⟩:∃M:List Int,M=B.take at_.toNat++[ot]++B.drop (at_+1).toNat/\M.length=B.length/\∀x∈M,0<=x/\x<26:=⟨_,rfl,by rw[jC,jC,j7,kx];simp;lia,λx hx=>by
    rcases kg.mp hx with hx |hx
    ·rcases kg.mp hx with hx |hx
     ·exact gr x (l7 hx)
     ·rw[jS.mp hx];exact⟨o0,o1⟩
    ·exact gr x (pj hx)⟩
   rw[<- hM]at s2;rw[zaw_ (d:=LS .int M) (by exists hp,t1,t2,s1,s2) (hp _)]
   show En (S.runs gi pn _ [rP (.int c),rP (.int p),rP (.str LET),rP (LS .int B),rP (.int at_),rP (LS .str nl),rP (.int (0+(i:Int))),rP (.int ot),rP (LS .int M)]) _
   have bh:∃G:Int->Nat,∀x∈M,(97<=G x/\G x<=122)/\ixA (.str LET) (.int x)=.ok (.str [G x]):=by
    refine⟨λx=>if h:0<=x/\x<26 then(zlJ_ h.1 h.2).choose else 0,λx hx=>?_⟩
    have h:=hMm x hx;dsimp only;rw[dif_pos h];exact(zlJ_ h.1 h.2).choose_spec
   obtain⟨G,hG⟩:=bh;have xn:X.ev gi [rP (.int c),rP (.int p),rP (.str LET),rP (LS .int B),rP (.int at_),rP (LS .str nl),rP (.int (0+(i:Int))),rP (.int ot),rP (LS .int M)] (.comp ["_law_number"] [("_law_letters",2)] .any [(.v 8)] ⟨rS,[0]⟩ rQ (.bin .ix (.v 1) (.v 0)))=.ok (LS .str (M.map λx=>[G x])):=by
    refine xcompN (f:=λx:Int=>[G x]) (o:=D.str) (T:=λx:Int=>[D.int x]) (items:=M.map D.int) M rfl (by exists zQ_) (zaH_ _ _) (λx hx=>?_) (by lia)
    exists(hG x hx).2
   obtain⟨j1,j2⟩:=jn0 (ps:=M.map λx=>[G x]) (by rw[i7];lia) λq hq=>by obtain⟨x,_,rfl⟩:=j4.mp hq;rfl
   have hN:NM (M.map λx=>[G x]).flatten:=⟨by rw[j2,i7];lia,by rw[j2,i7];lia,λx hx=>by
    obtain⟨q,hq,hx⟩:=List.mem_flatten.mp hx;obtain⟨y,hy,rfl⟩:=j4.mp hq;rw[jS.mp hx];exact(hG y hy).1⟩
   generalize (M.map λx=>[G x]).flatten=N at j1 hN
   rw[rn_e (zlW_ (o:=.append) (q:=(5,[])) (c:=LS .str nl) (ds:=[.str N]) rfl rfl rfl (ag1 (by exists ziW_,zjI_,xn,j1)) (zkS_ (g:=.str) (by lia)))]
   refine⟨_,_,rfl,.inl ⟨.inl rfl,_,_,_,_,rfl,by rw[jC,jC,hnl];rfl,λn hn=>?_⟩⟩
   rcases kg.mp hn with hn |hn
   ·exact a_ n hn
   ·rw[jS.mp hn];exact hN
  ·obtain⟨nl,a,b,o,rfl,hnl,a_⟩:=he
   rw[kl]at hnl
   exists hp
   exact⟨_,_,rfl,nl,rfl,hnl,a_⟩
 have hf:z5_=fnOf gi 2 7 zP_:=rfl;obtain⟨o,e,h1,t,rfl,h2⟩:=key (pins [.int c,.int p]) (zbJ_ rfl);exact⟨t,by rw[hf];exact zhK_ (zi3_ rfl rfl h1),h2⟩
section
variable {env e1:VI.Env}{f:Fn}{nm:Str}{x y k:X}{p p0 p1 p2:Pt}{q q0 q1 q2:Pl}{a b c d g a' b' c' d' g' r:D}
theorem zbK_ (h0:Pt.ev gi env p0=.ok q0)(h1:Pt.ev gi env p1=.ok q1)(hx:keep (x.ev gi env) env x.uses=.ok d env)(h2:Pt.ev gi env p2=.ok q2)(ha:atE env q0=rP a)(hb:atE env q1=rP b)(hc:atE env q2=rP c)(fN:apartAll [.l q0,.l q1,.d d,.l q2]=rR)(hf:f [a,b,d,c]=.ok r [a',b',d',c']):
  Y.ev gi (.call f nm [(.l p0),(.l p1),(.x x),(.l p2)]) env=.ok r (putE (putE (putE env q2 c') q1 b') q0 a'):=by
 rw[Y.ev];have e:evG gi env [.l p0,.l p1,.x x,.l p2]=.ok [.l q0,.l q1,.d d,.l q2] env:=by
  unfold evG;rw[h0];show(Mr.bind (evG gi env [.l p1,.x x,.l p2]) _)=_
  unfold evG;rw[h1];show(Mr.bind (Mr.bind (evG gi env [.x x,.l p2]) _) _)=_
  unfold evG;rw[zcv_,hx,zaW_];unfold evG;rw[h2];rfl
 rw[e,zaW_];unfold callG;have e2:resolve env [.l q0,.l q1,.d d,.l q2]=rP [a,b,d,c]:=by
  show((atE env q0).bind λa=>((atE env q1).bind λb=>(((atE env q2).bind λc=>rP [c]).map λds=>d::ds).map λds=>b::ds).map λds=>a::ds)=_
  rw[ha,hb,hc];rfl
 rw[e2];show(if _ then(match f [a,b,d,c]with |.ok r ds'=>Mr.ok r (restE env [.l q0,.l q1,.d d,.l q2] ds')|.ex x ds'=>_ |.no=>_)else _)=_
 rw[hf,if_pos fN];rfl
theorem zcc_ (h0:Pt.ev gi env p0=.ok q0)(h1:Pt.ev gi env p1=.ok q1)(hx:keep (x.ev gi env) env x.uses=.ok d e1)(hy:keep (y.ev gi e1) e1 y.uses=.ok g e1)(h2:Pt.ev gi e1 p2=.ok q2)(ha:atE e1 q0=rP a)(hb:atE e1 q1=rP b)(hc:atE e1 q2=rP c)(fN:apartAll [.l q0,.l q1,.d d,.d g,.l q2]=rR)(hf:f [a,b,d,g,c]=.ok r [a',b',d',g',c']):
  Y.ev gi (.call f nm [(.l p0),(.l p1),(.x x),(.x y),(.l p2)]) env=.ok r (putE (putE (putE e1 q2 c') q1 b') q0 a'):=by
 rw[Y.ev];have e:evG gi env [.l p0,.l p1,.x x,.x y,.l p2]=.ok [.l q0,.l q1,.d d,.d g,.l q2] e1:=by
  unfold evG;rw[h0];show(Mr.bind (evG gi env [.l p1,.x x,.x y,.l p2]) _)=_
  unfold evG;rw[h1];show(Mr.bind (Mr.bind (evG gi env [.x x,.x y,.l p2]) _) _)=_
  unfold evG;rw[zcv_,hx,zaW_];unfold evG;rw[zcv_,hy,zaW_];unfold evG;rw[h2];rfl
 rw[e,zaW_];unfold callG;have e2:resolve e1 [.l q0,.l q1,.d d,.d g,.l q2]=rP [a,b,d,g,c]:=by
  show((atE e1 q0).bind λa=>((atE e1 q1).bind λb=>((((atE e1 q2).bind λc=>rP [c]).map λds=>g::ds).map λds=>d::ds).map λds=>b::ds).map λds=>a::ds)=_
  rw[ha,hb,hc];rfl
 rw[e2];show(if _ then(match f [a,b,d,g,c]with |.ok r ds'=>Mr.ok r (restE e1 [.l q0,.l q1,.d d,.d g,.l q2] ds')|.ex x ds'=>_ |.no=>_)else _)=_
 rw[hf,if_pos fN];rfl
theorem zog_ (hx:keep (x.ev gi env) env x.uses=.ok d e1)(hp:Pt.ev gi e1 p=.ok q)(hk:keep (k.ev gi e1) e1 k.uses=.ok a e1)(hc:atE e1 q=rP c)(hf:setIF [d,c,a]=.ok r [d',c',a']):setIM gi p k x env=.ok .nx (putE e1 q c'):=by
 unfold setIM;have fS:evG gi env [.x x,.l p,.x k]=.ok [.d d,.l q,.d a] e1:=by
  unfold evG;rw[zcv_,hx,zaW_];unfold evG;rw[hp];show(Mr.bind (Mr.bind (evG gi e1 [.x k]) _) _)=_
  rw[ag1 hk];rfl
 rw[fS,zaW_];unfold callG;have e2:resolve e1 [.d d,.l q,.d a]=rP [d,c,a]:=by
  show((atE e1 q).bind λc=>rP [c,a]).map (λds=>d::ds)=_
  rw[hc];rfl
 rw[e2];show dropM (if _ then(match setIF [d,c,a]with |.ok r ds'=>Mr.ok r (restE e1 [.d d,.l q,.d a] ds')|.ex x ds'=>_ |.no=>_)else _)=_
 rw[hf,if_pos (show apartAll _=rR from rfl)]
 rfl
end
section
variable {m:TT}{n:List Nat}{d:Cds}{h:List Cds}{nl:Cds}
theorem zm8_:(up n d m).length<=m.length+1:=by
 unfold up;split
 ·rw[lj];lia
 ·rw[jC];simp
theorem znX_ {P:Cds->Prop}(hm:∀q∈m,P q.2)(hd:P d):∀q∈up n d m,P q.2:=by
 unfold up;split
 ·intro q hq
  rcases nQ hq with z |z
  ·exact hm q z
  ·subst z;exact hd
 ·intro q hq
  rcases kg.mp hq with z |z
  ·exact hm q z
  ·rw[jS.mp z];exact hd
theorem zmc_ {P:Cds->Prop}(hm:∀q∈m,P q.2):∀q∈er n m,P q.2:=λq hq=>hm q (List.mem_of_mem_eraseIdx hq)
theorem znw_:(er n m).length<=m.length:=by unfold er;rw[nu];split<;>lia
theorem cb_of {c:Int}{k:Nat}(hb:kb c<=1048576)(hk:k<10):CB (c / 64+(0+(k:Int))*(0+(k:Int)+977)):=by
 have h1:kb (c / 64)<=1048576:=bits_of_natAbs_le (b:=c) (by lia) hb
 have h2:kb ((0+(k:Int))*(0+(k:Int)+977))<=1048576:=bits_of_natAbs_le (b:=2 ^ 20) (by
  have a:(0+(k:Int))*(0+(k:Int)+977)<=10*1000:=Int.mul_le_mul (by lia) (by lia) (by lia) (by lia)
  have b:0<=(0+(k:Int))*(0+(k:Int)+977):=Int.mul_nonneg (by lia) (by lia)
  generalize (0+(k:Int))*(0+(k:Int)+977)=z at a b
  have:(2:Int) ^ 20=1048576:=by decide
  rw[this];lia) (by decide +kernel)
 exact bits_add h1 h2
theorem dkO_eq {u:Jy}{dk:Cds}(e:(u.map λx=>x++i8 (40-x.length) 32)=dk):dkO u=dk:=e
structure Sd (m m':TT)(h h':List Cds):Prop where
 ml:m'.length<=m.length+1
 md:∀q∈m',q.2.length<=10
 hl:h'.length<=h.length+1
theorem one_w {t:List Nat}(hk:KD t)(c:Int):∃u,X.ev gi [rP (.str t),rP (.int c)] (.call zY_ "_law_word" [(.v 0),(.bin .eq (.bin .mod (.bin .add (.bin .div (.v 1) (.n 64)) (.bf .len [(.tu .rst (.v 0))])) (.n 2)) (.n 0))])=.ok (.str (wd u))/\UW u/\u++i8 (40-u.length) 32=t:=by
 obtain⟨p,e1,_,h2,_⟩:=zk4_ hk;obtain⟨u,eu,hu,ht⟩:=zot_ hk (decide ((c / 64+(p.length:Int)) % 2=0));refine⟨u,?_,hu,ht⟩
 exists ziL_,e1,lnS_ (l:=p) (by lia),eu
theorem bx_ok {α β:Type}[Inhabited β]{l:List α}{P:α->β->Prop}(h:∀a∈l,∃b,P a b):∃F:α->β,∀a∈l,P a (F a):=by
 classical
 refine⟨λa=>if h:∃b,P a b then h.choose else default,λa ha=>?_⟩
 dsimp only;rw[dif_pos (h a ha)];exact(h a ha).choose_spec
theorem zg1_ {c:Int}(di:nl.length=4)(a_:∀n∈nl,NM n)(hm:m.length<900)(hd:∀q∈m,q.2.length<=10)(hh:h.length<9000)(hb:kb c<=1048576):
  ∃m' h',z1_ [DK m,TF m,.fz (LS .str nl),.int c,HL h]=.ok (.bl rR) [DK m',TF m',.fz (LS .str nl),.int c,HL h']/\Sd m m' h h':=by
 have hf:z1_=fnOf gi 5 4 zs_:=rfl;rw[hf];have i0:=ku (c / 4) (show(4:Int)≠0 by lia)
 have i1:=j9 (c / 4) (show(0:Int)<4 by lia)
 obtain⟨n,en,hnm⟩:=zbe_ (xs:=nl) i0 (show c / 4 % 4<(nl.length:Int) by lia)
 have hn:=a_ n hnm;have pre:∀(pn:Nat->Bool) (ss:List S),pn 5=rS->S.runs gi pn (.asg 5 (.pu (.bin .ix (.v 2) (.bin .mod (.bin .div (.v 3) (.n 4)) (.n 4))))::ss) [rP (DK m),rP (TF m),rP (.fz (LS .str nl)),rP (.int c),rP (HL h),rQ,rQ,rQ,rQ]=S.runs gi pn ss [rP (DK m),rP (TF m),rP (.fz (LS .str nl)),rP (.int c),rP (HL h),rP (.str n),rQ,rQ,rQ]:=λpn ss hp=>by
  rw[zaw_ (d:=.str n) (by exists zQ_,en) hp];rfl
 have gZ:n∈m.map (·.1)->(gt n m).length<=10:=λh=>hd _ (zkb_ h)
 by_cases h2:c % 4=2
 ·obtain⟨h',fj,eD⟩:∃h',zn_ [DK m,TF m,.str n,HL h]=.ok (.bl rR) [DK m,TF m,.str n,HL h']/\h'.length<=h.length+1:=by
   by_cases ho:n∈m.map (·.1)
   ·exact⟨_,sh_in hn ho (by have:=gZ ho;lia) (by lia),by rw[jC];simp⟩
   ·exact⟨_,zkn_ hn ho,by lia⟩
  refine⟨m,h',(za3_ rfl (d:=.bl rR) (e:=[rP (DK m),rP (TF m),rP (.fz (LS .str nl)),rP (.int c),rP (HL h'),rP (.str n),rQ,rQ,rQ]) ?_).trans rfl,by lia,hd,eD⟩
  show S.runs gi _ zs_ [rP (DK m),rP (TF m),rP (.fz (LS .str nl)),rP (.int c),rP (HL h),rQ,rQ,rQ,rQ]=_
  unfold zs_;refine(pre _ _ rfl).trans ?_;rw[za9_ (by exists decide_eq_true h2)]
  show S.runs gi _ (S.ret _::_) _=_
  exact za4_ (zbK_ (q0:=(0,[])) (q1:=(1,[])) (q2:=(4,[])) (d:=.str n) rfl rfl rfl rfl rfl rfl rfl rfl fj)
 by_cases h3:c % 4=3
 ·by_cases ho:n∈m.map (·.1)
  ·refine⟨er n m,h,(za3_ rfl (d:=.bl rR) (e:=[rP (DK (er n m)),rP (TF (er n m)),rP (.fz (LS .str nl)),rP (.int c),rP (HL h),rP (.str n),rQ,rQ,rQ]) ?_).trans rfl,by have:=znw_ (n:=n) (m:=m);lia,zmc_ (P:=λd=>d.length<=10) hd,by lia⟩
   show S.runs gi _ zs_ [rP (DK m),rP (TF m),rP (.fz (LS .str nl)),rP (.int c),rP (HL h),rQ,rQ,rQ,rQ]=_
   unfold zs_;refine(pre _ _ rfl).trans ?_;rw[zT_ (by exists decide_eq_false h2)]
   show S.runs gi _ (S.if_ _ _ _::_) _=_
   rw[zT_ (by exists decide_eq_true h3,zjx_,ziY_,decide_eq_true ho,qm)]
   show S.runs gi _ (S.if_ _ _ _::_) _=_
   rw[za9_ (by exists decide_eq_true h3)]
   show S.runs gi _ (S.ex _::_) _=_
   have y0:Y.ev gi (.bm .popK (.v 1) [(.x (.v 5))]) [rP (DK m),rP (TF m),rP (.fz (LS .str nl)),rP (.int c),rP (HL h),rP (.str n),rQ,rQ,rQ]=.ok .gone [rP (DK m),rP (TF (er n m)),rP (.fz (LS .str nl)),rP (.int c),rP (HL h),rP (.str n),rQ,rQ,rQ]:=zlW_ (o:=.popK) (q:=(1,[])) (c:=TF m) (ds:=[.str n]) (ds':=[.str n]) (c':=TF (er n m)) (r:=.gone) rfl rfl rfl (ag1 (by exists zgn_)) (zj3_ (g:=λc=>.fz (LS .str c)) ho)
   rw[rn_e y0];show S.runs gi _ (S.ret _::_) [rP (DK m),rP (TF (er n m)),rP (.fz (LS .str nl)),rP (.int c),rP (HL h),rP (.str n),rQ,rQ,rQ]=_
   have a1:addA (.str [100,114,111,112,32]) (.str n)=.ok (.str (R2w sDROP n)):=ad_s (by have:=hn.2.1;simp;lia)
   have y1:Y.ev gi (.meth [("Desk",zf_)] (.v 0) "say" [(.x (.bin .add (.k (.str [100,114,111,112,32])) (.v 5)))]) [rP (DK m),rP (TF (er n m)),rP (.fz (LS .str nl)),rP (.int c),rP (HL h),rP (.str n),rQ,rQ,rQ]=.ok (LS .str []) [rP (DK (er n m)),rP (TF (er n m)),rP (.fz (LS .str nl)),rP (.int c),rP (HL h),rP (.str n),rQ,rQ,rQ]:=me_v (ds:=[.str (R2w sDROP n)]) (e1:=[rP (DK m),rP (TF (er n m)),rP (.fz (LS .str nl)),rP (.int c),rP (HL h),rP (.str n),rQ,rQ,rQ]) rfl rfl (by decide) (ag1F (by exists a1)) (zae_ rfl ((zeX_ hn).1 ho))
   exact za4_ (by rw[ziq_,y1,zaW_];rfl)
  ·have e1:=zk1_ ((zeX_ hn).2 ho)
   refine⟨m,h,(za3_ rfl (d:=.bl rR) (e:=[rP (DK m),rP (TF m),rP (.fz (LS .str nl)),rP (.int c),rP (HL h),rP (.str n),rQ,rQ,rQ]) ?_).trans rfl,by lia,hd,by lia⟩
   show S.runs gi _ zs_ [rP (DK m),rP (TF m),rP (.fz (LS .str nl)),rP (.int c),rP (HL h),rQ,rQ,rQ,rQ]=_
   unfold zs_;refine(pre _ _ rfl).trans ?_;rw[zT_ (by exists decide_eq_false h2)]
   show S.runs gi _ (S.if_ _ _ _::_) _=_
   rw[za9_ (by exists decide_eq_true h3,zjx_,ziY_,decide_eq_false ho)]
   show S.runs gi _ (S.ret _::_) _=_
   have a1:addA (.str [100,114,111,112,32]) (.str n)=.ok (.str (R2w sDROP n)):=ad_s (by have:=hn.2.1;simp;lia)
   exact za4_ ((zgL_ (d:=.str (R2w sDROP n)) (by exists a1) rfl).trans (zae_ rfl e1))
 ·have m0:=ku (c / 16) (show(4:Int)≠0 by lia)
  have m1:=j9 (c / 16) (show(0:Int)<4 by lia)
  obtain⟨G,hG⟩:=bx_ok (l:=jV (c / 16 % 4).toNat) (P:=λk t=>z3_.val [.int (c / 64+(0+(k:Int))*(0+(k:Int)+977))]=.ok (.str t)/\KD t) λk hk=>zm4_ (cb_of hb (by have:=kH.mp hk;lia))
  obtain⟨dk,hdk,hdl,hdm⟩:∃dk:Cds,dk=(jV (c / 16 % 4).toNat).map G/\dk.length<=3/\∀t∈dk,KD t:=⟨_,rfl,by rw[i7,kl];lia,λt ht=>by obtain⟨k,hk,rfl⟩:=j4.mp ht;exact(hG k hk).2⟩
  obtain⟨U,hU⟩:=bx_ok (l:=dk) λt ht=>one_w (hdm t ht) c
  have gf:(dk.map U).length<=10:=by rw[i7];lia
  have fh:∀x∈dk.map U,UW x:=λx hx=>by obtain⟨t,ht,rfl⟩:=j4.mp hx;exact(hU t ht).2.1
  have hZ:dkO (dk.map U)=dk:=by
   unfold dkO;rw[km];exact(la λt ht=>(hU t ht).2.2).trans (oQ dk)
  have es:=zh5_ (m:=m) hn (by lia) fh gf
  rw[hZ]at es
  generalize hM:(c / 16 % 4)=M at m0 m1 hdk hG
  have x7:X.ev gi [rP (DK m),rP (TF m),rP (.fz (LS .str nl)),rP (.int c),rP (HL h),rP (.str n),rP (.int M),rQ,rQ] (.comp ["_law_k"] [("_law_cell",3)] .r1 [(.v 6)] ⟨rS,[0]⟩ rQ (.call z3_ "_law_card" [(.bin .add (.bin .div (.v 1) (.n 64)) (.bin .mul (.v 0) (.bin .add (.v 0) (.n 977))))]))=.ok (LS .str dk):=by
   rw[hdk];refine xcompN (f:=G) (o:=D.str) (T:=λk:Nat=>[D.int (0+(k:Int))]) (items:=(jV M.toNat).map λi:Nat=>D.int (0+(i:Int))) (jV M.toNat) rfl (by exists rg1 (j:=M) (by lia) (by lia)) (zaH_ _ _) (λk hk=>?_) (by rw[kl];lia)
   have bO:=kH.mp hk;have ml:mulD (.int (0+(k:Int))) (.int (0+(k:Int)+977))=.ok (.int ((0+(k:Int))*(0+(k:Int)+977))):=zda_ (by lia) (by lia)
   exists ml,(hG k hk).1
  have x8:X.ev gi [rP (DK m),rP (TF m),rP (.fz (LS .str nl)),rP (.int c),rP (HL h),rP (.str n),rP (.int M),rP (LS .str dk),rQ] (.comp ["_law_text_here"] [("_law_cell",3)] .any [(.v 7)] ⟨rS,[0]⟩ rQ (.call zY_ "_law_word" [(.v 0),(.bin .eq (.bin .mod (.bin .add (.bin .div (.v 1) (.n 64)) (.bf .len [(.tu .rst (.v 0))])) (.n 2)) (.n 0))]))=.ok (LS .str ((dk.map U).map wd)):=by
   rw[km];exact xcompN (f:=λt=>wd (U t)) (o:=D.str) (T:=λt:List Nat=>[D.str t]) (items:=dk.map D.str) dk rfl (by exists zQ_) (zaH_ _ _) (λt ht=>(hU t ht).1) (by lia)
  generalize dk.map U=us at es gf fh x8
  have jl:(sDECK::n::us.map wd).length<=100:=by rw[jg,jg,i7];lia
  have jn:joinD [32] [LS .str (sDECK::n::us.map wd)]=.ok (.str (RD n us)):=jn_ok jl λp hp=>by
   rcases jK.mp hp with rfl |hp
   ·decide
   rcases jK.mp hp with rfl |hp
   ·have:=hn.2.1;lia
   obtain⟨x,hx,rfl⟩:=j4.mp hp;rw[zfs_];have:=(fh x hx).le;lia
  have ad:addA (.nd .lst [.str [100,101,99,107],.str n]) (LS .str (us.map wd))=.ok (LS .str (sDECK::n::us.map wd)):=zgf_ (g:=D.str) (a:=[sDECK,n]) (b:=us.map wd) (by rw[i7];simp;lia)
  generalize us.map wd=ws at x8 ad jn
  refine⟨up n dk m,h,(za3_ rfl (d:=.bl rR) (e:=[rP (DK (up n dk m)),rP (TF (up n dk m)),rP (.fz (LS .str nl)),rP (.int c),rP (HL h),rP (.str n),rP (.int M),rP (.fz (LS .str dk)),rP (LS .str ws)]) ?_).trans rfl,zm8_,znX_ (P:=λd=>d.length<=10) hd (by lia),by lia⟩
  show S.runs gi _ zs_ [rP (DK m),rP (TF m),rP (.fz (LS .str nl)),rP (.int c),rP (HL h),rQ,rQ,rQ,rQ]=_
  unfold zs_;refine(pre _ _ rfl).trans ?_;rw[zT_ (by exists decide_eq_false h2)]
  show S.runs gi _ (S.if_ _ _ _::_) _=_
  rw[zT_ (by exists decide_eq_false h3)]
  show S.runs gi _ (S.if_ _ _ _::_) _=_
  rw[zT_ (by exists decide_eq_false h3)]
  show S.runs gi _ (S.asg _ _::_) _=_
  rw[zaw_ (d:=.int M) (by exists hM) rfl]
  show S.runs gi _ (S.asg _ _::_) [rP (DK m),rP (TF m),rP (.fz (LS .str nl)),rP (.int c),rP (HL h),rP (.str n),rP (.int M),rQ,rQ]=_
  rw[zaw_ (d:=LS .str dk) (by rw[zeH_,x7];exact zab_ _ zcS_) rfl]
  show S.runs gi _ (S.asg _ _::_) [rP (DK m),rP (TF m),rP (.fz (LS .str nl)),rP (.int c),rP (HL h),rP (.str n),rP (.int M),rP (LS .str dk),rQ]=_
  rw[zaw_ (d:=LS .str ws) (by rw[zeH_,x8];exact zab_ _ zcS_) rfl]
  show S.runs gi _ (S.setI _ _ _::_) [rP (DK m),rP (TF m),rP (.fz (LS .str nl)),rP (.int c),rP (HL h),rP (.str n),rP (.int M),rP (LS .str dk),rP (LS .str ws)]=_
  rw[rn_s (e1:=[rP (DK m),rP (TF (up n dk m)),rP (.fz (LS .str nl)),rP (.int c),rP (HL h),rP (.str n),rP (.int M),rP (.fz (LS .str dk)),rP (LS .str ws)]) (by
   rw[S.run];exact zog_ (q:=(1,[])) (d:=.fz (LS .str dk)) (a:=.str n) (c:=TF m) (e1:=[rP (DK m),rP (TF m),rP (.fz (LS .str nl)),rP (.int c),rP (HL h),rP (.str n),rP (.int M),rP (.fz (LS .str dk)),rP (LS .str ws)]) (zaq_ _ z7_) rfl rfl rfl (zgP_ (g:=λc=>.fz (LS .str c)) (by lia)))]
  have y1:Y.ev gi (.meth [("Desk",zf_)] (.v 0) "say" [(.x (.sm .join (.k (.str [32])) [(.bin .add (.lst [(.k (.str [100,101,99,107])),(.v 5)]) (.v 8))]))]) [rP (DK m),rP (TF (up n dk m)),rP (.fz (LS .str nl)),rP (.int c),rP (HL h),rP (.str n),rP (.int M),rP (.fz (LS .str dk)),rP (LS .str ws)]=.ok (LS .str []) [rP (DK (up n dk m)),rP (TF (up n dk m)),rP (.fz (LS .str nl)),rP (.int c),rP (HL h),rP (.str n),rP (.int M),rP (.fz (LS .str dk)),rP (LS .str ws)]:=me_v (ds:=[.str (RD n us)]) (e1:=[rP (DK m),rP (TF (up n dk m)),rP (.fz (LS .str nl)),rP (.int c),rP (HL h),rP (.str n),rP (.int M),rP (.fz (LS .str dk)),rP (LS .str ws)]) rfl rfl (by decide) (ag1F (by exists ziW_,zjI_,ad,jn)) (zae_ rfl es)
  exact za4_ (by rw[ziq_,y1,zaW_];rfl)
end
section
variable {ns:List Int}{nl:Cds}{m0 m1:TT}{h:List Cds}
def DD (m0 m1:TT):D:=.nd .lst [DK m0,DK m1]
def TTs (m0 m1:TT):D:=.nd .lst [TF m0,TF m1]
structure SI (nl:Cds)(k:Nat)(m0 m1:TT)(h:List Cds):Prop where
 l0:m0.length<=k
 l1:m1.length<=k
 d0:∀q∈m0,q.2.length<=10
 d1:∀q∈m1,q.2.length<=10
 hl:h.length<=k
theorem ini:zo_ [.nd (.obj "Desk" []) []]=.ok .non [DK []]:=by
 have hf:zo_=fnOf gi 1 0 zt_:=rfl;rw[hf];refine(znU_ (G:=gi) (n:=1) (m:=0) (body:=zt_) (ds:=[.nd (.obj "Desk" []) []]) rfl (e:=[rP (DK [])]) ?_).trans rfl;show S.runs gi _ zt_ [rP (.nd (.obj "Desk" []) [])]=_
 unfold zt_;rw[S.runs,S.run,znj_ (d:=TD []) (C:="Desk") (ns:=[]) (xs:=[]) rfl rfl rfl (by decide) (by decide) (by decide)]
 rfl
end
theorem rep4 {l:Cds}(h:l.length<=10):mulD (LS .str l) (.int 4)=.ok (LS .str (l++(l++(l++(l++[]))))):=by
 show Mo.grd (CRep (l.map D.str).length 4) (Mq (D.nd .lst ((repL (l.map D.str) 4).map .vw)))=_
 rw[Mo.grd_ok ⟨by lia,by lia,by rw[i7];lia,by rw[i7];show l.length*4<=_;lia⟩]
 show Mq (D.nd .lst ((l.map D.str++(l.map D.str++(l.map D.str++(l.map D.str++[])))).map .vw))=Mq (D.nd .lst ((l++(l++(l++(l++[])))).map D.str))
 have:l.map D.str++(l.map D.str++(l.map D.str++(l.map D.str++[])))=(l++(l++(l++(l++[])))).map D.str:=by simp
 rw[this,zdB_]
theorem zma_ (ns:List Int)(lo hi:Option Int):slA (scr ns) lo hi=.ok (LS .int (cutG ns lo hi)):=by
 show Mq (D.nd .lst ((cutG (ns.map D.int) lo hi).map .vw))=_
 rw[zgC_,zdB_];rfl
theorem who01 (z:Int):z % 3 / 2=0\/z % 3 / 2=1:=by lia
section
variable {nl:Cds}{m0 m1:TT}{h:List Cds}{a x y z u v s1:Option D}
abbrev FR (a s1:Option D)(m0 m1:TT)(h:List Cds)(x y z u v:Option D):VI.Env:=[a,s1,rP (DD m0 m1),rP (TTs m0 m1),rP (HL h),x,y,z,u,v]
theorem zk3_ {c:Int}(w:Int)(hw:w=0\/w=1)(hs:s1=rP (LS .str nl)\/s1=rP (.fz (LS .str nl)))(di:nl.length=4)(a_:∀n∈nl,NM n){k:Nat}(hk:k<200)(I:SI nl k m0 m1 h)(hb:kb c<=1048576):
  ∃cV cU h',SI nl (k+1) cV cU h'/\Y.ev gi (.call z1_ "_law_said" [(.l (.s (.v 2) (.v 6))),(.l (.s (.v 3) (.v 6))),(.x (.v 1)),(.x (.v 5)),(.l (.v 4))]) (FR a s1 m0 m1 h (rP (.int c)) (rP (.int w)) z u v)=.ok (.bl rR) (FR a (rP (.fz (LS .str nl))) cV cU h' (rP (.int c)) (rP (.int w)) z u v):=by
 have hx:keep (X.ev gi (FR a s1 m0 m1 h (rP (.int c)) (rP (.int w)) z u v) (.v 1)) (FR a s1 m0 m1 h (rP (.int c)) (rP (.int w)) z u v) (X.v 1).uses=.ok (.fz (LS .str nl)) (FR a (rP (.fz (LS .str nl))) m0 m1 h (rP (.int c)) (rP (.int w)) z u v):=by
  rcases hs with rfl |rfl
  ·exact zaq_ _ z7_
  ·exact zaq_ _ z7_
 obtain⟨l0,l1,d0,d1,hl⟩:=I;rcases hw with rfl |rfl
 ·obtain⟨m',h',e,S⟩:=zg1_ (m:=m0) (h:=h) di a_ (by lia) d0 (by lia) hb
  exact⟨m',m1,h',⟨by have:=S.ml;lia,by lia,S.md,d1,by have:=S.hl;lia⟩,zcc_ (q0:=(2,[0])) (q1:=(3,[0])) (q2:=(4,[])) rfl rfl hx rfl rfl rfl rfl rfl rfl e⟩
 ·obtain⟨m',h',e,S⟩:=zg1_ (m:=m1) (h:=h) di a_ (by lia) d1 (by lia) hb
  exact⟨m0,m',h',⟨by lia,by have:=S.ml;lia,d0,S.md,by have:=S.hl;lia⟩,zcc_ (q0:=(2,[1])) (q1:=(3,[1])) (q2:=(4,[])) rfl rfl hx rfl rfl rfl rfl rfl rfl e⟩
theorem zc4_ {m:TT}{n:List Nat}(hn:NM n)(hd:∀q∈m,q.2.length<=10)(hh:h.length<9000):∃h',zn_ [DK m,TF m,.str n,HL h]=.ok (.bl rR) [DK m,TF m,.str n,HL h']/\h'.length<=h.length+1:=by
 by_cases ho:n∈m.map (·.1)
 ·exact⟨_,sh_in hn ho (by have:=hd _ (zkb_ ho);simp only at this;lia) (by lia),by rw[jC];simp⟩
 ·exact⟨_,zkn_ hn ho,by lia⟩
end
theorem zhl_:∀ns:List Int,ns.length<=63->BitsOk ns->f_law.val [scr ns]=.ok (.bl rR):=by
 intro ns a_ h9;obtain⟨c0,ec0⟩:=zk7_ ns (k:=0) (by lia)
 obtain⟨c1,ec1⟩:=zk7_ ns (k:=1) (by lia)
 obtain⟨l0,el0,hl4,hlN⟩:=zna_ c0 c1;refine zbX_ rfl rfl λpn hp=>?_
 unfold znM_;show En (S.runs gi pn _ [rP (scr ns),rQ,rQ,rQ,rQ,rQ,rQ,rQ,rQ,rQ]) _
 rw[zaw_ (d:=LS .str l0) (by exists hp,zhI_,ec0,ec1,el0) (hp _)]
 show En (S.runs gi pn _ [rP (scr ns),rP (LS .str l0),rQ,rQ,rQ,rQ,rQ,rQ,rQ,rQ]) _
 obtain⟨n0,lr,rfl⟩:∃n lr,l0=n::lr:=by cases l0 with |nil=>cases hl4 |cons a b=>exact⟨a,b,rfl⟩
 have t1:cutG (n0::lr) rQ (rP 1)=[n0]:=zey_ (i:=1) (by lia)
 have t2:cutG (n0::lr) (rP 1) rQ=lr:=zdr_ (i:=1) (by lia)
 have i0:atI (n0::lr) 0=rP n0:=zmB_ ..;have xf:X.ev gi [rP (scr ns),rP (LS .str (n0::lr)),rQ,rQ,rQ,rQ,rQ,rQ,rQ,rQ] (.comp ["_law_name"] [("_law_names_here",1)] .any [(.sl (.v 1) (rP (.n 1)) rQ)] ⟨rS,[0]⟩ (rP (.bin .ne (.v 0) (.i (.v 1) 0))) (.v 0))=.ok (LS .str ((lr.filter λn=>!decide (n=n0)).map id)):=by
  refine xcomp (f:=id) (o:=D.str) (p:=λn=>!decide (n=n0)) (T:=λn:List Nat=>[D.str n]) (items:=lr.map D.str) lr rfl (by exists zQ_,t2) (zaH_ _ _) (λn hn=>?_) (λn hn _=>?_) (by simp at hl4;lia)
  ·exists zQ_,i0
  ·exists zgn_
   rfl
 rw[pZ]at xf;obtain⟨l1,hl1,hl1l,hl1m⟩:∃l1:Cds,l1=[n0]++lr.filter (λn=>!decide (n=n0))/\(1<=l1.length/\l1.length<=4)/\∀n∈l1,NM n:=⟨_,rfl,⟨by simp,by
  have:=oY (λn=>!decide (n=n0)) lr
  simp at hl4 ⊢;lia⟩,λn hn=>by
  rcases kg.mp hn with hn |hn
  ·rw[jS.mp hn];exact hlN n0 (by simp)
  ·exact hlN n (ji _ (oR.mp hn).1)⟩
 have ad:addA (LS .str [n0]) (LS .str (lr.filter λn=>!decide (n=n0)))=.ok (LS .str l1):=by
  rw[hl1];exact zgf_ (by rw[hl1,jC]at hl1l;lia)
 generalize (lr.filter λn=>!decide (n=n0))=lf at xf ad
 rw[zaw_ (d:=LS .str l1) (by exists hp,t1,xf,ad) (hp _)]
 show En (S.runs gi pn _ [rP (scr ns),rP (LS .str l1),rQ,rQ,rQ,rQ,rQ,rQ,rQ,rQ]) _
 have r4:mulD (.fz (LS .str l1)) (.int 4)=_:=rep4 (l:=l1) (by lia)
 obtain⟨nl,hnl,di,hns'⟩:∃nl:Cds,nl=(l1++(l1++(l1++(l1++[])))).take 4/\nl.length=4/\∀n∈nl,NM n:=⟨_,rfl,by rw[j7];simp;lia,λn hn=>by
  have:=l7 hn;simp at this;exact hl1m n this⟩
 have t4:cutG (l1++(l1++(l1++(l1++[])))) rQ (rP 4)=nl:=by rw[hnl];exact zey_ (i:=4) (by lia)
 generalize l1++(l1++(l1++(l1++[])))=l4 at r4 t4
 rw[zaw_ (d:=LS .str nl) (by exists hp,r4,t4) (hp _)]
 show En (S.runs gi pn _ [rP (scr ns),rP (LS .str nl),rQ,rQ,rQ,rQ,rQ,rQ,rQ,rQ]) _
 have mk:makeD zo_ "Desk" []=.ok (DK []):=by
  unfold makeD;show(match zo_ [.nd (.obj "Desk" []) []]with |.ok .non (o::_)=>Mq o |.ex x _=>.ex x |_=>.no)=_
  rw[ini]
 rw[zaw_ (d:=DD [] []) (by exists hp,mk;rfl) (hp _)]
 show En (S.runs gi pn _ [rP (scr ns),rP (LS .str nl),rP (DD [] []),rQ,rQ,rQ,rQ,rQ,rQ,rQ]) _
 rw[zaw_ (d:=TTs [] []) (by exists hp;rfl) (hp _)]
 show En (S.runs gi pn _ [rP (scr ns),rP (LS .str nl),rP (DD [] []),rP (TTs [] []),rQ,rQ,rQ,rQ,rQ,rQ]) _
 rw[zaw_ (d:=HL []) (by exists hp;rfl) (hp _)]
 show En (S.runs gi pn _ (FR (rP (scr ns)) (rP (LS .str nl)) [] [] [] rQ rQ rQ rQ rQ)) _
 have aY:(cutG ns (rP 2) (rP 63)).length<=63:=ki (zis_ ..) a_;refine zcW_ (l:=cutG ns (rP 2) (rP 63)) (enc:=λc=>[D.int c]) (d:=LS .int (cutG ns (rP 2) (rP 63))) (e1:=FR (rP (scr ns)) (rP (LS .str nl)) [] [] [] rQ rQ rQ rQ rQ) (λd e=>∃m0 m1 h s1 x y,e=FR (rP (scr ns)) s1 m0 m1 h x y rQ rQ rQ/\(s1=rP (LS .str nl)\/s1=rP (.fz (LS .str nl)))/\SI nl d.length m0 m1 h) (by exists zhI_,zma_) rfl (zaH_ _ _) ⟨[],[],[],_,rQ,rQ,rfl,.inl rfl,⟨jt _,jt _,(λq hq=>by cases hq),(λq hq=>by cases hq),jt _⟩⟩ (λd c r e hl he=>?_) λe he=>?_
 ·obtain⟨m0,m1,h,s1,x,y,rfl,bL,I⟩:=he
  have hd:d.length<63:=by have:=congrArg nr hl;simp at this;lia
  have fL:c∈ns:=zik_ (lo:=rP 2) (hi:=rP 63) (by rw[hl];simp)
  refine⟨FR (rP (scr ns)) s1 m0 m1 h (rP (.int c)) y rQ rQ rQ,(by exists hp),?_⟩
  have b0:=ku c (show(2147483647:Int)≠0 by lia)
  have b1:=j9 c (show(0:Int)<2147483647 by lia)
  have ml:mulD (.int (c % 2147483647)) (.int 48271)=.ok (.int (c % 2147483647*48271)):=zda_ (by lia) (by lia)
  rw[zaw_ (d:=.int (c % 2147483647*48271 % 2147483629 % 3 / 2)) (by exists hp,ml) (hp _)]
  have hw:=who01 (c % 2147483647*48271 % 2147483629)
  generalize c % 2147483647*48271 % 2147483629 % 3 / 2=w at hw
  show En (S.runs gi pn _ (FR (rP (scr ns)) s1 m0 m1 h (rP (.int c)) (rP (.int w)) rQ rQ rQ)) _
  obtain⟨cV,cU,h',I',ey⟩:=zk3_ (a:=rP (scr ns)) (z:=rQ) (u:=rQ) (v:=rQ) w hw bL di hns' (by lia) I (h9 c fL)
  rw[zk8_ (t:=rS) (e:=FR (rP (scr ns)) (rP (.fz (LS .str nl))) cV cU h' (rP (.int c)) (rP (.int w)) rQ rQ rQ) (by rw[zhJ_,ey,zaW_];rfl)]
  refine⟨_,_,rfl,.inl ⟨.inl rfl,cV,cU,h',_,_,_,rfl,.inr rfl,?_⟩⟩;rw[jC];exact I'
 obtain⟨m0,m1,h,s1,x,y,rfl,bL,I⟩:=he;obtain⟨q0,q1,d0,d1,hhl⟩:=I;have gs:getE (FR (rP (scr ns)) s1 m0 m1 h x y rQ rQ rQ) 1=.ok (.fz (LS .str nl)):=by rcases bL with rfl |rfl<;>rfl
 refine zev_ (l:=jV 16) (enc:=λi:Nat=>[D.int (0+(i:Int))]) (d:=.int 16) (λd e=>∃h z,e=FR (rP (scr ns)) s1 m0 m1 h x y z rQ rQ/\h.length<=63+d.length) (by exists hp) (rg1 (j:=16) (by lia) (by lia)) (zaH_ _ _) ⟨h,rQ,rfl,by lia⟩ (λd i r e hl he=>?_) λe he=>?_
 ·obtain⟨h,z,rfl,hh⟩:=he
  have hd:d.length<16:=by have:=congrArg nr hl;simp at this;lia
  refine⟨FR (rP (scr ns)) s1 m0 m1 h x y (rP (.int (0+(i:Int)))) rQ rQ,(by exists hp),?_⟩
  have j0:=ku ((0+(i:Int)) / 2) (show(4:Int)≠0 by lia)
  have j1:=j9 ((0+(i:Int)) / 2) (show(0:Int)<4 by lia)
  obtain⟨n,en,hnm⟩:=zbe_ (xs:=nl) j0 (show(0+(i:Int)) / 2 % 4<(nl.length:Int) by lia)
  have g1:getE (FR (rP (scr ns)) s1 m0 m1 h x y (rP (.int (0+(i:Int)))) rQ rQ) 1=.ok (.fz (LS .str nl)):=gs;have xn:X.ev gi (FR (rP (scr ns)) s1 m0 m1 h x y (rP (.int (0+(i:Int)))) rQ rQ) (.bin .ix (.v 1) (.bin .mod (.bin .div (.v 7) (.n 2)) (.n 4)))=.ok (.str n):=by
   rw[zhm_,xv_v,g1,zbp_]
   exists en
  have xw:X.ev gi (FR (rP (scr ns)) s1 m0 m1 h x y (rP (.int (0+(i:Int)))) rQ rQ) (.bin .mod (.v 7) (.n 2))=.ok (.int ((0+(i:Int)) % 2)):=by exists zk6_
  have gI:(0+(i:Int)) % 2=0\/(0+(i:Int)) % 2=1:=by lia
  generalize hI:D.int (0+(i:Int))=DI0 at xn xw g1
  obtain⟨h',eD,ey⟩:∃h',h'.length<=h.length+1/\Y.ev gi (.call zn_ "_law_shown" [(.l (.s (.v 2) (.bin .mod (.v 7) (.n 2)))),(.l (.s (.v 3) (.bin .mod (.v 7) (.n 2)))),(.x (.bin .ix (.v 1) (.bin .mod (.bin .div (.v 7) (.n 2)) (.n 4)))),(.l (.v 4))]) (FR (rP (scr ns)) s1 m0 m1 h x y (rP DI0) rQ rQ)=.ok (.bl rR) (FR (rP (scr ns)) s1 m0 m1 h' x y (rP DI0) rQ rQ):=by
   rcases gI with w0 |w0
   ·rw[w0]at xw
    obtain⟨h',e,l⟩:=zc4_ (m:=m0) (h:=h) (hns' n hnm) d0 (by lia)
    exact⟨h',l,zbK_ (q0:=(2,[0])) (q1:=(3,[0])) (q2:=(4,[])) (d:=.str n) (pt_s (q:=(2,[])) (d:=.int 0) (c:=DD m0 m1) rfl xw rfl rfl) (pt_s (q:=(3,[])) (d:=.int 0) (c:=TTs m0 m1) rfl xw rfl rfl) (by rw[xn];exact zab_ _ (zfD_ _)) rfl rfl rfl rfl rfl e⟩
   ·rw[w0]at xw
    obtain⟨h',e,l⟩:=zc4_ (m:=m1) (h:=h) (hns' n hnm) d1 (by lia)
    exact⟨h',l,zbK_ (q0:=(2,[1])) (q1:=(3,[1])) (q2:=(4,[])) (d:=.str n) (pt_s (q:=(2,[])) (d:=.int 1) (c:=DD m0 m1) rfl xw rfl rfl) (pt_s (q:=(3,[])) (d:=.int 1) (c:=TTs m0 m1) rfl xw rfl rfl) (by rw[xn];exact zab_ _ (zfD_ _)) rfl rfl rfl rfl rfl e⟩
  rw[zk8_ (t:=rS) (e:=FR (rP (scr ns)) s1 m0 m1 h' x y (rP DI0) rQ rQ) (by rw[zhJ_,ey,zaW_];rfl)]
  exact⟨_,_,rfl,.inl ⟨.inl rfl,h',_,rfl,by rw[jC];simp;lia⟩⟩
 obtain⟨h,z,rfl,hh⟩:=he;refine zcW_ (l:=h) (enc:=λf=>[D.fz (LS .str f),LS .str f]) (d:=.fz (HL h)) (e1:=[rP (scr ns),s1,rP (DD m0 m1),rP (TTs m0 m1),rP (.fz (HL h)),x,y,z,rQ,rQ]) (λd e=>∃u v,e=[rP (scr ns),s1,rP (DD m0 m1),rP (TTs m0 m1),rP (.fz (HL h)),x,y,z,u,v]) (by
  have:(D.fz (HL h)).new=rS:=by rw[D.new];rfl
  show keep (.ok (.fz (HL h))) _ _=_
  rw[zaq_ _ this];rfl) rfl (zkc_ (g:=λf=>D.fz (LS .str f)) (h:=λf=>LS .str f) h 8 9) ⟨rQ,rQ,rfl⟩ (λd f r e hl he=>?_) λe he=>?_
 ·obtain⟨u,v,rfl⟩:=he
  refine⟨[rP (scr ns),s1,rP (DD m0 m1),rP (TTs m0 m1),rP (.fz (HL h)),x,y,z,rP (.fz (LS .str f)),rP (.fz (LS .str f))],(by exists hp),?_⟩
  rw[zT_ (by exists zQ_,eq_T)]
  exact⟨_,_,rfl,.inl ⟨.inl rfl,_,_,rfl⟩⟩
 ·obtain⟨u,v,rfl⟩:=he
  exists hp
  fail "q"
def top (i:Nat):kq:=PySem.Challenge.pw_cardshop_k75_desk_trays.main.body.getD i (.Pass ⟨0,0,0,0⟩)
abbrev zar_:kq:=inClass (top 162) 0
abbrev zau_:kq:=inClass (top 162) 4
abbrev zU_:kq:=inClass (top 162) 2
abbrev zaF_:kq:=inClass (top 162) 3
abbrev zah_:kq:=inClass (top 162) 5
abbrev zcg_:kq:=inClass (top 162) 1
def ft:Ft:={bs:=["ValueError", "all", "isinstance", "len", "list", "range", "str"],at_:=["trays"],gc:=[("CARD_WIDTH",(.int 40)),("LONGEST_NAME",(.int 8)),("SIGNS",(tx Qm0)),("SMALL_LETTERS",(tx Qm1))]}
structure Ek (w:jU)(K:Fgg):Prop where
 ec:Ec ft gi K
 u0:Fg K "_law_names" (top 167)
 u1:Fg K "_law_cell_at" (top 164)
 u2:Fg K "words_of" (top 157)
 u3:Fg K "is_name" (top 69)
 u4:Fg K "check_new_name" (top 160)
 u5:Fg K "are_signs" (top 17)
 u6:Fg K "card_of" (top 19)
 u7:Fg K "read_blanks" (top 23)
 u8:Fg K "read_card" (top 159)
 u9:Fg K "_law_kinds" (top 169)
 u10:Fg K "_law_no_tray" (top 170)
 u11:Fg K "_law_shown" (top 171)
 u12:Fg K "_law_text" (top 165)
 u13:Fg K "_law_card" (top 166)
 u14:Fg K "_law_word" (top 168)
 u15:Fg K "_law_said" (top 172)
 u16:Fg K "law" (top 173)
 u17:Fm K "Desk" "check_stands" "Desk.check_stands" zU_
 u18:Fm K "Desk" "lay_deck" "Desk.lay_deck" zau_
 u19:Fm K "Desk" "deck_by" "Desk.deck_by" zaF_
 u20:Fm K "Desk" "drop_tray" "Desk.drop_tray" zah_
 u21:Fm K "Desk" "say" "Desk.say" zcg_
 u22:Fm K "Desk" "__init__" "Desk.__init__" zar_
 u24:Kd w K "ROWS" za1_
 u25:Fk K "ROWS"
 u26:Nb K
 u27:Fk K "NoTray"
 u28:Fe1 K "NoTray" λv=>excK K v=rR
 u29:Fe2 K "NoTray" "NoCard" λv w=>isaK K v (.ref w)=rP rS
 u30:Fe2 K "NoTray" "NoField" λv w=>isaK K v (.ref w)=rP rS
 u31:Fe2 K "NoTray" "NoOrder" λv w=>isaK K v (.ref w)=rP rS
 u32:Fe2 K "NoTray" "NoBoard" λv w=>isaK K v (.ref w)=rP rS
 u33:Fe2 K "NoTray" "Meet" λv w=>isaK K v (.ref w)=rP rS
 u34:Fe2 K "NoTray" "NoAsking" λv w=>isaK K v (.ref w)=rP rS
 u35:Fe2 K "NoTray" "NoPlan" λv w=>isaK K v (.ref w)=rP rS
 u36:Fe2 K "NoTray" "NoRow" λv w=>isaK K v (.ref w)=rP rS
 u37:Fe2 K "NoTray" "ShopError" λv w=>isaK K v (.ref w)=rP rR
 u38:Fe1 K "NoTray" λv=>isaK K v (.type "ValueError")=rP rR
 u39:Fe2 K "NoTray" "NoTray" λv w=>catK K v w=rR
structure En (w:jU)(K:Fgg)(mg:Str->Option iX):Prop extends Ek w K where
 m:Mgo K mg
theorem gok {w:jU}{K:Fgg}(e:Ek w K):gi.Ok K:=⟨by decide,λq h=>ftt_u (e.ec.t q h),(am_cons (am_cons ⟨e.u29.g,by decide⟩ am_nil) (am_cons (am_cons ⟨e.u30.g,by decide⟩ am_nil) (am_cons (am_cons ⟨e.u31.g,by decide⟩ am_nil) (am_cons (am_cons ⟨e.u32.g,by decide⟩ am_nil) (am_cons (am_cons ⟨e.u33.g,by decide⟩ am_nil) (am_cons (am_cons ⟨e.u34.g,by decide⟩ am_nil) (am_cons (am_cons ⟨e.u35.g,by decide⟩ am_nil) (am_cons (am_cons ⟨e.u36.g,by decide⟩ am_nil) (am_cons (am_cons ⟨e.u37.g,by decide⟩ am_nil) (am_cons (am_cons ⟨e.u38.g,by decide⟩ am_nil) am_nil)))))))))),(am_cons (am_cons e.u39.g am_nil) am_nil)⟩
theorem lawOk {P:jL}{w:jU}{K:Fgg}{mg:Str->Option iX}{base:Heap}(e:En w K mg):OkF P w K mg base (CXx P w) 9 "law" "law" (top 173) ["_law_script"] (CtG K f_law):=by
 have c:Eo P w base ft gi K mg:=⟨e.m,gok e.toEk,e.ec.ft e.m⟩;have g0:GG P w K mg base 1 "_law_names" ["_law_cell", "_law_place"] z5_:=gd_of e.m e.u0 (okV (st:=(top 167)) (N:=["_law_cell", "_law_place", "_law_letters", "_law_base", "_law_at", "_law_names_here", "_law_k", "_law_other", "_law_some"]) (body:=zP_) (n:=2) (m:=7) c.g c.t trivial (by decide +kernel) ⟨rfl,rfl,rfl,by decide +kernel,rfl,by decide +kernel,by decide +kernel,rfl⟩ (λ_ _ F=>Fun.binds2 rfl F λ_ _ _ _ _ _ _ _=>rfl) rfl rfl)
 have g1:=gdT 0 c (f:=zM_) rfl e.u1 trivial;have g2:Gk P w K mg base (CXx P w) 1 "Desk" (gA K "Desk") ["self"] (CtG K zo_):=gk_of e.m (e.ec.c _ (by decide)) e.u22 (okV (st:=zar_) (N:=["self"]) (body:=zt_) (n:=1) (m:=0) c.g c.t trivial (by decide +kernel) ⟨rfl,rfl,rfl,by decide +kernel,rfl,by decide +kernel,by decide +kernel,rfl⟩ (λ_ _ F=>Fun.binds1 rfl F λ_ _ _ _ _ _ _=>rfl) rfl rfl)
 have g3:=gdT 0 c (f:=zO_) rfl e.u2 ⟨⟨e.u24,e.m.gk e.u25⟩,⟨e.u24,e.m.gk e.u25⟩,trivial⟩;have g4:=gdT 0 c (f:=zbR_) rfl e.u3 trivial;have g5:=gdT 1 c (f:=zS_) rfl e.u4 ⟨fkc g4,⟨e.u28.g,e.m.gk e.u27⟩,trivial⟩;have g6:=gdT 0 c (f:=zaV_) rfl e.u5 trivial;have g7:=gdT 1 c (f:=zbI_) rfl e.u6 ⟨fkc g6,trivial⟩;have g8:=gdT 0 c (f:=zaf_) rfl e.u7 ⟨e.u26,trivial⟩;have g9:=gdT 2 c (f:=zak_) rfl e.u8 ⟨fkc g7,fkc g8,trivial⟩;have iF:Gm P w K mg base (CXx P w) 4 (gA K "Desk") "lay_deck" ["self", "words"] (CtG K zB_):=zkM_ (e.ec.c _ (by decide)) e.u18 (okV (st:=zau_) (N:=["self", "words"]) (body:=zr_) (n:=2) (m:=0) c.g c.t ⟨fkc g5,fkc g9,trivial⟩ (by decide +kernel) ⟨rfl,rfl,rfl,by decide +kernel,rfl,by decide +kernel,by decide +kernel,rfl⟩ (λ_ _ F=>Fun.binds2 rfl F λ_ _ _ _ _ _ _ _=>rfl) rfl rfl)
 have gC:Gm P w K mg base (CXx P w) 1 (gA K "Desk") "check_stands" ["self", "name"] (CtG K zb_):=zkM_ (e.ec.c _ (by decide)) e.u17 (okV (st:=zU_) (N:=["self", "name"]) (body:=zi_) (n:=2) (m:=0) c.g c.t ⟨⟨e.u28.g,e.m.gk e.u27⟩,trivial⟩ (by decide +kernel) ⟨rfl,rfl,rfl,by decide +kernel,rfl,by decide +kernel,by decide +kernel,rfl⟩ (λ_ _ F=>Fun.binds2 rfl F λ_ _ _ _ _ _ _ _=>rfl) rfl rfl)
 have iE:Gm P w K mg base (CXx P w) 2 (gA K "Desk") "deck_by" ["self", "name"] (CtG K zq_):=zkM_ (e.ec.c _ (by decide)) e.u19 (okV (st:=zaF_) (N:=["self", "name"]) (body:=zx_) (n:=2) (m:=0) c.g c.t ⟨fkm gC,trivial⟩ (by decide +kernel) ⟨rfl,rfl,rfl,by decide +kernel,rfl,by decide +kernel,by decide +kernel,rfl⟩ (λ_ _ F=>Fun.binds2 rfl F λ_ _ _ _ _ _ _ _=>rfl) rfl rfl)
 have iD:Gm P w K mg base (CXx P w) 2 (gA K "Desk") "drop_tray" ["self", "words"] (CtG K zm_):=zkM_ (e.ec.c _ (by decide)) e.u20 (okV (st:=zah_) (N:=["self", "words"]) (body:=zh_) (n:=2) (m:=0) c.g c.t ⟨fkm gC,trivial⟩ (by decide +kernel) ⟨rfl,rfl,rfl,by decide +kernel,rfl,by decide +kernel,by decide +kernel,rfl⟩ (λ_ _ F=>Fun.binds2 rfl F λ_ _ _ _ _ _ _ _=>rfl) rfl rfl)
 have eI:Gm P w K mg base (CXx P w) 5 (gA K "Desk") "say" ["self", "row"] (CtG K zf_):=zkM_ (e.ec.c _ (by decide)) e.u21 (okV (st:=zcg_) (N:=["self", "row", "words", "word"]) (body:=zl_) (n:=2) (m:=2) c.g c.t ⟨fkc g3,fkm iF,fkm iE,fkm iD,trivial⟩ (by decide +kernel) ⟨rfl,rfl,rfl,by decide +kernel,rfl,by decide +kernel,by decide +kernel,rfl⟩ (λ_ _ F=>Fun.binds2 rfl F λ_ _ _ _ _ _ _ _=>rfl) rfl rfl)
 have iC:=gnT (P:=P) (w:=w) (base:=base) 0 c (f:=zI_) rfl e.u9;have gB:=gdT 5 c (f:=zE_) rfl e.u10 ⟨fkm eI,fkn iC,trivial⟩;have gz:=gdT 6 c (f:=zn_) rfl e.u11 ⟨fkc gB,fkm eI,trivial⟩;have iB:=gdT 0 c (f:=zam_) rfl e.u12 trivial;have iA:=gdT 1 c (f:=z3_) rfl e.u13 ⟨fkc iB,trivial⟩;have iz:=gdT 0 c (f:=zY_) rfl e.u14 trivial;have iy:=gdT 7 c (f:=z1_) rfl e.u15 ⟨fkc gz,fkc gB,fkm eI,fkc iA,fkc iz,fkm eI,trivial⟩;exact okV (st:=(top 173)) (N:=["_law_script", "_law_names_here", "_law_desks", "_law_trays", "_law_held", "_law_cell", "_law_who", "_law_k", "_law_found", "_law_was"]) (body:=znM_) (n:=1) (m:=9) c.g c.t ⟨fkc g0,fkc g1,fkc g1,fkk g2,fkk g2,fkc iy,fkc gz,trivial⟩ (by decide +kernel) ⟨rfl,rfl,rfl,by decide +kernel,rfl,by decide +kernel,by decide +kernel,rfl⟩ (λ_ _ F=>Fun.binds1 rfl F λ_ _ _ _ _ _ _=>rfl) rfl rfl
theorem all_mk {l:qv}{w:jU}{K:Fgg}{h:Heap}{mg:Str->Option iX}{fa:i9}(X:K.In h)(G:h.Ns jJ mg)(fK:mg "law"=rP (.ref fa))(k:Ek w K):
  ∃fd:kZ,(∀(s:iY) (v:iX),BindsTo s fd ⟨[v],[]⟩ [("_law_script",v)])/\∀base:Heap,K.In base->base.Ns jJ mg->FnOk l.prog w K mg base CX0 9 fa fd ["_law_script"] (spL K):=by
 have e:En w K mg:=⟨k,_,X,G⟩;refine okLaw e.m e.u16 fK (λ_ _ _ _ _ _ _ _=>rfl) λbase f fd F=>?_
 exact okLV (lawOk (P:=l.prog) (w:=w) (base:=base) e f fd F).1 zhl_
theorem walk {l:qv}{q:jL}{loose:List Str}{XP:(Str->Option iX)->Heap->Prop}{YP:jU->Heap->Prop}{d:DefRec}{K:Params->Fgg}(hn:l.most=rP 63)(dF:d.params.defaults=[])(cj:∀p,L2.lamOk q (K p)=rR)
  (hY:∀(w:jU) (h:Heap),YP w h->(K w.params).In h)
  (F:∀(w:jU) (mg:Str->Option iX) (fa:i9) (h:Heap),(K w.params).In h->h.Ns jJ mg->mg d.name=rP (.ref fa) ->
   ∃fd:kZ,(∀(s:iY) (u:iX),BindsTo s fd ⟨[u],[]⟩ [("_law_script",u)])/\∀base:Heap,(K w.params).In base->base.Ns jJ mg->FnOk l.prog w (K w.params) mg base CX0 9 fa fd ["_law_script"] (spL (K w.params))):
  W.WalkO q loose XP YP l.row.toRowW d [] (λf vs=>ql f vs):=
 L2.ziT_ (n:=63) (k:=9) (x:="_law_script") (CX:=λ_=>CX0) (sp:=λw=>spL (K w.params)) hn (by decide) dF ⟨rfl,by decide,by decide⟩ rfl cj hY F (λ_ _ a ns hl hb _ hS=>⟨a,ns,rfl,hS,hl,hb,λ_=>rfl⟩) λ_ _ _ _ _ z=>z
end K75
open PySem PySem.W PyProof.Rows
set_option maxRecDepth 100000 in
set_option maxHeartbeats 0 in
theorem PySem.Challenge.cw_cardshop_k75_desk_trays_holds : PySem.Challenge.rw_cardshop_k75_desk_trays.Holds := by
 refine HD.h ?_
 k_fill
 refine K75.walk (l:=PySem.Challenge.rw_cardshop_k75_desk_trays) rfl rfl ?L (λw h Y=>W.km_in_of Y) ?F
 case L=>intro p;kernel_rfl!
 case F=>
  intro w mg fa h KX G dq;refine K75.all_mk KX G dq ?_;constructor
  case' ec=>constructor<;>repeat' first |exact VI.am_nil |refine VI.am_cons ?_ ?_
  all_goals first |(refine' L2.Nb.mk_ ?x0 ?x1;(case x0=>kernel_rfl);(case x1=>kernel_rfl))|(refine' L2.Kd.mk_ ?x0 ?x1 ?x2 ?x3 ?x4;(case x0=>k_is);(case x1=>k_is);(case x2=>k_keys);(case x3=>decide);(case x4=>repeat' first |exact L2.Rws.nil_ |(refine' L2.Rws.cons_ rfl rfl ?y2 ?y3 ?y4 ?_;(case y2=>k_is);(case y3=>repeat' first |exact⟨_,rfl⟩|exact rfl |exact .nil |refine .cons ?_ ?_);(case y4=>decide))))|(refine' L2.Fl.mk_ ?x0 ?x1 ?x2 ?x3 ?x4 ?x5 ?x6 ?x7 ?x8;(case x0=>k_is);(case x1=>k_is);(case x2=>rfl);(case x3=>k_is);(case x4=>rfl);(case x5=>rfl);(case x6=>rfl);(case x7=>rfl);(case x8=>rfl))|(refine' L2.FmD.mk_ ?x0 ?x1 ?x2 ?x3 ?x4 ?x5 ?x6 ?x7;(case x0=>k_is);(case x1=>k_is);(case x2=>k_is);(case x3=>k_is);(case x4=>k_is);(case x5=>k_is);(case x6=>k_is);(case x7=>(show _=_;kernel_rfl!)))|(refine' L2.Fg.mk_ ?x0 ?x1 ?x2 ?x3;(case x0=>k_is);(case x1=>k_is);(case x2=>k_is);(case x3=>k_is))|(refine' L2.Fm.mk_ ?x0 ?x1 ?x2 ?x3 ?x4 ?x5;(case x0=>k_is);(case x1=>k_is);(case x2=>k_is);(case x3=>k_is);(case x4=>k_is);(case x5=>k_is))|(refine' L2.Fs.mk_ ?x0 ?x1 ?x2 ?x3 ?x4 ?x5 ?x6;(case x0=>k_is);(case x1=>k_is);(case x2=>k_is);(case x3=>k_is);(case x4=>k_is);(case x5=>k_is);(case x6=>k_is))|(refine' L2.Fc.mk_ ?x0 ?x1 ?x2 ?x3 ?x4 ?x5 ?x6;(case x0=>k_is);(case x1=>k_is);(case x2=>k_is);(case x3=>k_is);(case x4=>k_is);(case x5=>k_is);(case x6=>k_is))|(refine' L2.Fa.mk_ ?x0 ?x1;(case x0=>k_is);(case x1=>k_is))|(delta L2.Fb;k_is)|(refine' L2.Fv.mk_ ?x0 ?x1;(case x0=>k_is);(case x1=>first |exact⟨_,rfl⟩|rfl))|(refine' L2.Fk.mk_ ?x0;(case x0=>k_is))|(refine' L2.Fe2.mk_ ?x0 ?x1 ?x2;(case x0=>k_is);(case x1=>k_is);(case x2=>(show _=_;kernel_rfl!)))|(refine' L2.Fe1.mk_ ?x0 ?x1;(case x0=>k_is);(case x1=>(show _=_;kernel_rfl!)))|(refine' L2.FtT.mk_ ?x0 ?x1 ?x2 ?x3;(case x0=>k_is);(case x1=>k_is);(case x2=>(show _=_;kernel_rfl!));(case x3=>decide))
#print axioms PySem.Challenge.cw_cardshop_k75_desk_trays_holds
