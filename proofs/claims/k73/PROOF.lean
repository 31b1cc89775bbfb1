import PyProof.Rows.All
import Wide.All
import OpenK.AllK
import Wide.FinOn
import Lean
import PyProof.EqAt
import PyProof.EqKinds
import PyProof.TupleCall
import KE.KRevIter
import KE.KRevSl
import PySem.Challenge.RW_sortlore_k73_rooms_walked
set_option compiler.extract_closed false
open List renaming length_map → A6, getElem?_eq_some_iff → E5, length_append → D9, map_append → D0, getElem?_eq_getElem → L1, mem_singleton → E7, mem_of_getElem? → G6, mem_map → C6, size_toArray → K9, length_take → G7, mem_append → G3, length_cons → L3, mem_append_right → N7, map_cons → F6, mem_cons_of_mem → O7, mem_cons_self → N2, take_length → M3, mem_append_left → Q3, mem_cons → L4, append_nil → M8, getElem?_map → U4, length_singleton → Y8, mem_flatMap → U8, append_assoc → W8, take_append_drop → j4, flatMap_append → b9, getD_eq_getElem?_getD → aG, nodup_cons → W0, mem_iff_getElem → j5, nodup_append → Y9, take_of_length_le → u9, map_map → R3, nodup_iff_pairwise_ne → bW, mem_filter → X4, length_eq_zero_iff → aH, find?_cons → X5, drop_eq_getElem_cons → bX, length_nil → Z0, replicate → X6, pairwise_iff_getElem → eC, getElem?_append_left → eD, flatMap_cons → o6, idxOf_lt_length_iff → eE, take_add_one → v4, getElem?_append_right → gG, find?_eq_none → aI, mem_range → j6, filterMap_cons → bY, zipWith → Z1, range → U9, foldl_append → aJ, filter_append → bZ, length_drop → aK, mem_take_iff_getElem → jP, cons_lt_cons_iff → gH, length → c0, mem_of_mem_take → gI, filter_cons_of_pos → jQ, filter_cons_of_neg → jR, countP_cons → eF, mem_iff_getElem? → jS, getElem_idxOf → gJ, any_cons → aL, nil_append → eG, replicate_succ → jT, map_congr_left → jU, not_mem_nil → gK, cons_append → gL, take_zero → eI, filter_eq_nil_iff → mU, drop_of_length_le → mV, drop_eq_nil_of_le → mW, mem_filterMap → jV, reverse_cons → jW, map_take → eJ, flatten_cons → jX, getElem_mem → jY, length_erase_of_mem → qN, map_drop → gM, foldl_cons → jZ, length_pos_of_mem → qO, lookup → eK
open Nat renaming le_refl → C3, zero_le → F7, ne_of_lt → M5, lt_of_lt_of_le → W1, le_trans → N8, lt_irrefl → c9, le_add_right → eL, min_eq_left → eM, lt_succ_self → kA, lt_trichotomy → mX
open Bool renaming false_ne_true → L9, and_eq_true → e8, not_eq_true → cA, eq_iff_iff → gN, false_xor → gO, not_eq_false' → mY, false_eq_true → mZ, not_eq_true' → nA
open PySem.F renaming plainAttrs_list → W2, type_list_append → j7, slot_list_append → j8, slot_dict_get → kB, entry_dict_get → qP
open PySem.W renaming nsIn → O9, findIn → R9, keepIn → W3, mg_of → V0, mg_none_of → j9, fnOf → U5, codeIn → X7, kia_one → o7, emptyDict → cB, binds_K → aM, instObj → eN, isFn → gP, plainGet → nB
open PySem.PyData renaming eqvAll → Z2, strOk → k0, eqv → X9, depthAll → cC, depth → eO, int → cD
open Array renaming length_toList → eP
open Option renaming isSome_map → eQ
open PySem.NumText renaming digitsVal → nC
open Int renaming zero_add → cE, lt_irrefl → eR, emod_lt_of_pos → nE
set_option Elab.async false
set_option linter.all false
set_option maxRecDepth 100000
set_option hygiene false
local macro_rules
|`('a')=>`((by lia))
|`('b')=>`((model X.prog X.w))
|`('c')=>`((by decide +kernel))
|`('d')=>`((by simp))
|`('e')=>`((hasW R "behind"))
|`('f')=>`((.inl rfl))
|`('g')=>`((hasW R' "behind"))
|`('h')=>`((by decide))
|`('i')=>`(("great" : Str))
|`('j')=>`((model prog w))
|`('k')=>`((q_eq (K:=K) hu))
|`('l')=>`((Addr×Obj))
|`('m')=>`((N5 X sc N' C zw zt fp pins))
|`('n')=>`((R8 ls ms X bh))
|`('o')=>`(("__debug__" : Str))
local macro_rules
|`(tactic|sleep 0)=>`(tactic|intro pins s Y H x y v u Q I rx ry h)
|`(tactic|sleep 1)=>`(tactic|intro pins s Y H Q I h)
noncomputable section
set_option genInjectivity false in
set_option genSizeOf false in
structure PySem.W.Fast where (tw802535760067874390 tw16550574421985667537 tw15710104142534396290 tw477352555838763733 tw1429577919101203449 tw16631023058262235875 tw5121705823908697629 tw12541626178230135568 tw17714948496016337065 tw10979651204141309518 tw14698582288266151229 tw13835424911367511426 tw2058083430930430584 tw3807438430369158229 tw15117537327374192680 tw4356046188996262526 tw7866303119936868117 tw8607674193685724679 tw7214707540328512655 tw12379237237453487182 tw14018044577734620364 tw14217293479177646224 tw5761142079816905737 tw17031214830059552123 tw1734650867234341899 tw17012589605754248353 tw4998527986126868544 tw15024337960807045362 tw381788291808221287 tw17677374121686804376 tw1205039161920908750 tw1123802804735587812 tw7634810418284773763 tw13933252218482516309 tw3342796435200950990 tw7973048007731713041 tw9905697133697628492 tw1988884436729783902 tw17371547824990721667
tw13021942452757024701 tw12891969046018025700 tw8954945097819348585 tw18403466316499742040 tw11120526852735868160 tw3242552025422170254 tw12406978046416771153 tw12353734241848039185 tw16996961284208504115 tw1951510582693917321 tw9851434274715860840 tw6022343854100621838 tw1942081433052164284 tw11330764164893330936 tw16604972757486547849 tw6571691595839374469 tw16285436255296984180 tw10135891534844475323 tw481890238722982129 tw4573618145356926134 tw9059137838850276247 tw18394782285243681678 tw11881385273778224549 tw2817711193500115009 tw5254305495761525344 tw15030624593550720866 tw1339267584432654049 tw16071468504308008307 tw14501559955820869030 tw4701308684656687401 tw12693618712335971609 tw11349344580933950277 tw9463771330559143746 tw860646270239054811 tw5413295234266035005 tw5563003283719505800 tw3279052070485630225 tw6858153091907940320 tw8740857841766823448 tw15701642998022911262
tw4935905568190059576 tw12429748909855901933 tw11180929449635311822 tw281857205607096232 tw7080965777880221447 tw8718404186235713427 tw2633370612013402912 tw16290300128421439346 tw16100228285024017701 tw2624950773241503227 tw1295495956190708584 tw5436452417999274437 tw6414841457629128608 tw13723382510292771091 tw15396685827648625175 tw8412632611128770055 tw11350376694117743048 tw6615044283781104314 tw1274696040115619965 tw14573053308360975258 tw5983679759826095042 tw2229826747683851077 tw7237376672826006557 tw15677909358396283373 tw17865621826895745825 tw5237553796379304205 tw11956990959349051040 tw7293674801019907632 tw6383377476455160589 tw11417118629149499432 tw3359665375393012327 tw15112939045413900755 tw6637383153841780696 tw5483713939213449020 tw13052880978244606243 tw12392783399840921112 tw10702967718854489245 tw8108068328368917009 tw4663398734585850462 tw3036528172160994275
tw5383793734283354492 tw17127539174909649391 tw3418930125972848752 tw954781089711076134 tw18351259609067401100 tw10628799245952840930 tw15123428435274686103 tw1898218004326897470 tw13665042653478828027 tw13407503983441392310 tw14965085289726556666 tw8701218752415970542 tw17006158088895227044 tw6269427080802653509 tw18272899726963877334 tw1685621419303964980 tw1319356470886093783 tw17290600102242487995 tw11420901615639252663 tw16148004169010592644 tw2213747599555474964 tw2923882444526951873 tw8542950239863422527 tw4301516815196449620 tw4864482876270532721 tw1759560336019593694 tw17627224235587297898 tw13380163457250932243 tw10553821722527818131 tw14959010655105978918 tw6014770827530733173 tw17343506082400568794 tw3051315935854732638 tw6232233400479573581 tw6156035215769289398 tw9135779591503536605 tw6375966581013013108 tw462892732672796984 tw9789545905279016820 tw7398164499282720970
tw11892542287584587538 tw12554489570434098867 tw3892103610392697659 tw3491513124001373299 tw6552412199983034438 tw14309467986851930361 tw16183609374460087624 tw12249956449475168117 tw1975083123632187916 tw12159254938489110706 tw14742691949462833182 tw7663099421969389431 tw10225897172025117503 tw533017739949910886 tw1683542302194805104 tw16715810357275807294 tw16871989029822882850 tw1781024871580416367 tw401418775500125896 tw5313580135877375823 tw11371522127443848457 tw11200418673770892575 tw9352606450012544852 tw14104581022836853754 tw15087381652513682466 tw7484123996414568165 tw14431193393530392389 tw11610301408402721971 tw15909134628545379833 tw16290095764802775546 tw16616136891803779931 tw14512397809175344794 tw1976862428847888467 tw17372941165306945764 tw3258481883601120704 tw17790453050252008608 tw10126778434969082263 tw6631293068937876033 tw10815543923868715426 tw6769255807789074066
tw17030849939670625353 tw13273626814652115681 tw10972201971709676721 tw10002132422871673303 tw13441913343925549120 tw5608069624220648751 tw16068285326536634347 tw9186852866290939457 tw4872229735833262155 tw13626223952868010387 tw11425737179538077213 tw1676334723548123104 tw1255325381927031790 tw2446678199535827764 tw5694669675918562624 tw12307559108752317536 tw6103463222460794027 tw10513034962796432927 tw1480297623242711567 tw14331752912620952000 tw1813253032265670331 tw15001304666926861762 tw1304835815549083087 tw3176618232768665441 tw11137614483920896585 tw14293452364182668789 tw9176076628309375935 tw7446635152905780145 tw5177237123772394658 tw14910846127092173297 tw18336200011585011058 tw9190540691725688032 tw13031327184629021898 tw5325697760118021742 tw7509537635513634129 tw370736954908223653 tw3901104400731834836 tw1231008315937125646 tw5996234485041175609 tw3931201371050577262
tw8276771536156432402 tw1555385129183860372 tw10707444337286675241 tw4225629943631185077 tw1871672355937081283 tw3720145344120921292 tw12002388266669236534 tw16299967341260563921 tw3152112837988726432 tw10922384747060658666 tw14345848370377717974 tw13163784404428697559 tw4694628191114842303 tw14624473497622332313 tw15620955948783861295 tw5393927879989865754 tw368780087427373829 tw12248742526340778068 tw17849057312910975003 tw15567701363010483683 tw4535259746742178125 tw16454562148377581633 tw10975321804254519720 tw7321074056224187968 tw7015084013050628416 tw15958243090890257786 tw2375557806446782326 tw307055157036588854 tw8203981974372000416 tw7380311190555983756 tw12039607318695500742 tw13589290524977559061 tw8041383578897889267 tw17777738906945716417 tw15733171805112750921 tw11722120765164603817 tw1964971382587855566 tw17228913687198113177 tw3034902937476856462 tw10997135859121876618
tw12045512226353128665 tw16549277633957015447 tw4598267372137765336 tw15212806690676672459 tw6409885626981775845 tw6608347061585237844 tw6485784585053041682 tw1037911391916363273 tw10114365942547848787 tw5477343608864787796 tw1889789900439362802 tw439223325800344364 tw17715116435655962261 tw4124162746029928277 tw15694906363593125776 tw6046826892158193345 tw13205951255565541698 tw1661968791647125859 tw559518841724626702 tw1311165506923597521 tw149709019190507321 tw6160511268319948244 tw5560191275820108066 tw13983500936202395065 tw16407949352183583993 tw14326323544892598606 tw6767439479570367515 tw16516188933647927514 tw11602736802250172434 tw217767516111143144 tw13007319192899462192 tw11300108460160118673 tw2554458346721826400 tw3696041320021583371 tw10219994135242833785 tw10273013989219675492 tw8566895690344450422 tw14566591917867492361 tw17098181145909338717 tw15317954269850289963
tw9264233372768806078 tw6775282869784685520 tw16568577920128905011 tw11747194343429893144 tw8451171218883270614 tw7733791070575708161 tw12931152340262822209 tw4599624726479241800 tw3312745544094885289 tw8282020925638433103 tw3229948736492947252 tw10453878070417560898 tw3458759060126402927 tw14288492244386140577 tw3665361855135155628 tw4335375695860269354 tw11040100010165466486 tw8536250263083600829 tw190678983540506669 tw2604965828138337584 tw9921986693480858308 tw12981313738364431276 tw10838191287825677758 tw1468149641577346515 tw3209018223735444302 tw2395289639466320109 tw12662773228176341340 tw3394227757652761903 tw13602737872416870153 tw17335255443124018644 tw509211472895567238 tw6077668982259047182 tw790793748291317052 tw4909922689369839193 tw5153639063624757653 tw7672396622995874871 tw12273751695653857223 tw9744254834465230594 tw12159305799549609912 tw6911758352265071742
tw17397666741044969204 tw9968964410194436661 tw8036684750034445816 tw6453011702668215680 tw7851628690836773071 tw13199210796247638227 tw7372753899689903194 tw12468673888254556167 tw6700683718148873272 tw6256359141502125590 tw4591389179141214592 tw15380989283912567480 tw7268242289899025973 tw9262486395700933617 tw5657238474378164413 tw10574847435962798016 tw157448384384588600 tw2866841114095616648 tw13445831257022532048 tw12471770658915665943 tw11944090004866922027 tw9785091667502805376 tw3406207882049491357 tw6667627873641459666 tw713432887036696149 tw17373071767245778957 tw10140689315369700743 tw3031953172357784679 tw7593614355192316263 tw17060377107073658382 tw8371428880056619328 tw4871572706575161060 tw7792559290875781116 tw7769436139004074432 tw6907776568230688412 tw9171030119113617922 tw2359153522133862325 tw12643444924573025515 tw10317193626179380843 tw16318149829889956279
tw15210432318001716825 tw9649700994762604153 tw7707631583387837191 tw14380966164228724734 tw14124181809228050640 tw3024023086121245191 tw18295704142037701251 tw6646480265304348783 tw9033044990494029363 tw8668344571803004244 tw3465783306256404853 tw8367496446663695239 tw7236428291629945552 tw1239020304058871153 tw9380756013759973212 tw447328342737182454 tw9346581068324141901 tw4424217639513307600 tw17865456400335842867 tw13105464335253840030 tw4087218838414758043 tw13596472981909584006 tw9871492258442632618 tw9996048304932403621 tw9705044845988875301 tw14690353151403979845 tw10629289212480162317 tw5405032275904156973 tw17609804293009601840 tw16347548896320898753 tw15159018687292128106 tw4575511220221678784 tw3907420439102181384 tw6036153732468464067 tw13687455691086427420 tw5565861202958126982 tw13440205525099873103 tw4818021208287099589 tw7619760792331009455 tw2896385558245610720
tw14068724964871266118 tw2177228390826078307 tw4270312016419073121 tw9247856791168444008 tw16122469884950423954 tw13967850662977941941 tw17742172641011454041 tw7703654454434629685 tw13842597660111662501 tw1576171704692197143 tw8686046932785248491 tw842453509783438993 tw7757897575613787799 tw1418671286732808933 tw18332140889601212360 tw9674954758138968117 tw4298034186017882673 tw9726799356299483082 tw12208193372916930499 tw10501749118297108016 tw11778897573628927701 tw4652442197562337208 tw252992721641932249 tw15048523337873731337 tw10372975949949013003 tw4898731108718160739 tw16142987167478024716 tw3994238014548271957 tw5879512995999343881 tw16552816316018458150 tw1885559643025265214 tw2378311623759537396 tw1719774887317932280 tw15369860949295059997 tw16285417933608626728 tw13623568399458988387 tw13108036780033111839 tw2285718556600057559 tw16340705928765022358 tw10313815816064030137
tw8681118766041212431 tw3843744607760445676 tw6270277756982061030 tw13385787001238171031 tw17430142794963524670 tw6847205794719307836 tw12256276359627433966 tw1858521363825354312 tw17853681138832882285 tw18218968562106019860 tw7171914085800779288 tw16842012610142463906 tw10870574160258034345 tw16170904675749121694 tw7238507976364179015 tw1909428477966243646 tw569281385722437002 tw3207310870423531412 tw6079968896001709067 tw8992613926844984079 tw10863268749516363906 tw16693374519935800036 tw5936731369611706440 tw15972483608467685896 tw7654180255264818307 tw4814457003422228553 tw16863545062312432605 tw7644069464791925835 tw3381173937158058197 tw11961597328703125963 tw13376926130343706911 tw5438034688261735832 tw5832085987559910561 tw17761279273813304356 tw2006130637698553465 tw885836037603380431 tw15714736519815080002 tw3689459167283187046 tw14435058351522946083 tw12701431478298102337
tw13365913149975760220 tw6198920379560301578 tw12972641636724779448 tw6364407352422981708 tw9847302423819851879 tw13805029386351041437 tw14687191556163436395 tw1228672345421417191 tw8974509711095995412 tw18258328870643215686 tw17765684537654755211 tw17532979777398290474 tw9178369439878660101 tw14612031247132199106 tw11621302230710479870 tw1812095999541715707 tw15127062581424987607 tw10470607649722168095 tw15234025219315285789 tw7905072390836045532 tw3247347493327605746 tw14609742134138742928 tw8758138223004848226 tw18349634439803520643 tw14492789146304980637 tw7174674629300393461 tw18070916059592617193 tw7120806139763183503 tw8445091101955752103 tw5333153445247520735 tw154220572576761510 tw15308315444837031690 tw7405400155419365375 tw4981040446428409878 tw18055616190332213248 tw6876751034382898998 tw18301884803692794069 tw88303188496143245 tw16720310134022440174 tw17759801401650159583
tw7995499972391673770 tw13240898270856933204 tw11081454560282375298 tw4890813627646061342 tw7692311079315750658 tw16093503803130375335 tw11996605751150257736 tw8820062423638112364 tw9285012576732855205 tw1275397912823922539 tw10555453947989691756 tw8725249523723190410 tw15863407441937092244 tw16353089790595588869 tw12456206097222514009 tw2550353040699293288 tw18319787260637413013 tw14253313465519698205 tw12086490738699393097 tw18163904529875238899 tw4804352225702357726 tw6536264062767176594 tw5013595389308265940 tw11455817356647638090 tw3262893758394635419 tw4760713356972266032 tw28212782336217652 tw15899081122703803768:Nat)
namespace L2
open PySem PySem.Spec PyProof.Rows
noncomputable abbrev B5:=Sum Int Str
noncomputable def keyIs:B5->Value->Bool
 | .inl k,v=>Value.isInt k v
 | .inr x,v=>Value.isStrOf x v
noncomputable def keyH (w:World):B5->Int
 | .inl k=>hashInt k
 | .inr x=>hashStr w x
theorem v6:∀ {k:B5} {v:Value},keyIs k v=true->(∃ i t,k=Sum.inl i/\v=Value.int i t)\/(∃ x t,k=Sum.inr x/\v=Value.str x t)
 | .inl i,v,h=>by
  obtain ⟨t,e⟩:=Value.isInt_shape (k:=i) (v:=v) h;exact .inl ⟨i,t,rfl,e⟩
 | .inr x,v,h=>by
  obtain ⟨t,e⟩:=Value.isStrOf_shape (x:=x) (v:=v) h;exact .inr ⟨x,t,rfl,e⟩
theorem ajl(i:Int)(t:Tok):keyIs (.inl i) (.int i t)=true:=by simp [keyIs,Value.isInt]
theorem kC(x:Str)(t:Tok):keyIs (.inr x) (.str x t)=true:=by simp [keyIs,Value.isStrOf]
theorem aqf(a b:Int):decide ((Sum.inl a:B5)=Sum.inl b)=(a==b):=by
 by_cases e:a=b
 .subst e;simp
 .have h:¬ (Sum.inl a:B5)=Sum.inl b:=fun q=>e (Sum.inl.inj q)
  rw [decide_eq_false h];exact (beq_eq_false_iff_ne.mpr e).symm
theorem aqg(a b:Str):decide ((Sum.inr a:B5)=Sum.inr b)=decide (a=b):=by
 by_cases e:a=b
 .subst e;simp
 .have h:¬ (Sum.inr a:B5)=Sum.inr b:=fun q=>e (Sum.inr.inj q)
  rw [decide_eq_false h,decide_eq_false e]
theorem aqh(a:Int)(b:Str):decide ((Sum.inl a:B5)=Sum.inr b)=false:=decide_eq_false (fun q=>nomatch q)
theorem aqi(a:Str)(b:Int):decide ((Sum.inr a:B5)=Sum.inl b)=false:=decide_eq_false (fun q=>nomatch q)
noncomputable def N3 (prog:Program) (w:World):PySem.KeyKind prog w B5 where
 is:=keyIs
 hash:=keyH w
 inj:=fun v a b ha hb=>by
  rcases v6 ha with ⟨i,t,rfl,rfl⟩ | ⟨x,t,rfl,rfl⟩
  .rcases v6 hb with ⟨j,u,rfl,e⟩ | ⟨y,u,rfl,e⟩
   .injection e with e1 _;rw [e1]
   .exact nomatch e
  .rcases v6 hb with ⟨j,u,rfl,e⟩ | ⟨y,u,rfl,e⟩
   .exact nomatch e
   .injection e with e1 _;rw [e1]
 byValue:=fun k v h=>by
  rcases v6 h with ⟨i,t,rfl,rfl⟩ | ⟨x,t,rfl,rfl⟩ <;> rfl
 pyHash:=fun hv h=>by
  rcases v6 hv with ⟨i,t,rfl,rfl⟩ | ⟨x,t,rfl,rfl⟩
  .exact wpAny_pyHash_int h
  .exact wpAny_pyHash_str h
 eqBool:=fun hu hv h=>by
  rcases v6 hu with ⟨i,t,rfl,rfl⟩ | ⟨x,t,rfl,rfl⟩
  .rcases v6 hv with ⟨j,u,rfl,rfl⟩ | ⟨y,u,rfl,rfl⟩
   .rw [aqf] at h;exact wpAny_eqBool_int h
   .rw [aqh] at h;exact SeqAt.EqAt.int_str i t y u _ _ _ _ h
  .rcases v6 hv with ⟨j,u,rfl,rfl⟩ | ⟨y,u,rfl,rfl⟩
   .rw [aqi] at h;exact SeqAt.EqAt.str_int x t j u _ _ _ _ h
   .rw [aqg] at h;exact wpAny_eqBool_str h
 «strs»:=fun k x t v h=>by
  rcases v6 h with ⟨i,u,rfl,e⟩ | ⟨y,u,rfl,e⟩
  .exact nomatch e
  .injection e with e1 _
   subst e1
   cases v <;> rfl
theorem agZ(prog:Program)(w:World)(i:Int)(t:Tok):(N3 prog w).is (.inl i) (.int i t)=true:=ajl i t
theorem ag0(prog:Program)(w:World)(x:Str)(t:Tok):(N3 prog w).is (.inr x) (.str x t)=true:=kC x t
inductive V where
 | non | bl (b:Bool) | int (i:Int) | str (x:Str) | byt (b:Array UInt8) | flt (b:UInt64) | ref (a:Addr) | ty (n:String)
 deriving DecidableEq
noncomputable def RelV:V->Value->Prop
 | .non,u=>u=Value.none
 | .bl b,u=>u=Value.bool b
 | .int i,u=>∃ t,u=Value.int i t
 | .str x,u=>∃ t,u=Value.str x t
 | .byt b,u=>∃ t,u=Value.bytes b t
 | .flt b,u=>∃ t,u=Value.float b t
 | .ref a,u=>u=Value.ref a
 | .ty n,u=>u=Value.type n
noncomputable abbrev Vals:List V->List Value->Prop:=Paired RelV
theorem Vals.length{xs:List V}{us:List Value}(r:Vals xs us):xs.length=us.length:=Paired.length r
theorem Vals.get:∀ {xs:List V} {us:List Value} {i:Nat} {x:V},Vals xs us->xs[i]?=some x->∃ u,us[i]?=some u/\RelV x u
 | _,_,_,_,.nil,e=>by simp at e
 | _,_,0,_,.cons r _,e=>by simp at e;subst e;exact ⟨_,rfl,r⟩
 | _,_,i+1,x,.cons _ t,e=>by
  obtain ⟨u,h1,h2⟩:=Vals.get (i:=i) (x:=x) t (by simpa using e);exact ⟨u,by simpa using h1,h2⟩
theorem Vals.set{x:V}{u:Value}(r:RelV x u):∀ {xs:List V} {us:List Value} (i:Nat),Vals xs us->Vals (xs.set i x) (us.set i u)
 | _,_,_,.nil=>.nil
 | _,_,0,.cons _ t=>.cons r t
 | _,_,i+1,.cons q t=>.cons q (Vals.set r i t)
theorem Vals.append:∀ {xs ys:List V} {us ws:List Value},Vals xs us->Vals ys ws->Vals (xs++ys) (us++ws)
 | _,_,_,_,.nil,s=>s
 | _,_,_,_,.cons r t,s=>.cons r (Vals.append t s)
theorem Vals.take:∀ {xs:List V} {us:List Value} (n:Nat),Vals xs us->Vals (xs.take n) (us.take n)
 | _,_,0,_=>.nil
 | _,_,_+1,.nil=>.nil
 | _,_,n+1,.cons r t=>.cons r (Vals.take n t)
theorem Vals.drop:∀ {xs:List V} {us:List Value} (n:Nat),Vals xs us->Vals (xs.drop n) (us.drop n)
 | _,_,0,r=>r
 | _,_,_+1,.nil=>.nil
 | _,_,n+1,.cons _ t=>Vals.drop n t
theorem Vals.none_of:∀ {xs:List V} {us:List Value} {i:Nat},Vals xs us->xs[i]?=none->us[i]?=none:=fun {xs us i} r e=>by
 have h1:=r.length;have h2:xs.length<=i:=List.getElem?_eq_none_iff.mp e;exact List.getElem?_eq_none_iff.mpr 'a'
noncomputable def RelO:Option V->Option Value->Prop
 | some v,some u=>RelV v u
 | none,none=>True
 | _,_=>False
noncomputable def KV {κ:Type} : List (κ×V)->List (κ×Value)->Prop:=Paired fun (p:κ×V) (q:κ×Value)=>p.1=q.1/\RelV p.2 q.2
noncomputable def kV:B5->V
 | .inl i=>.int i
 | .inr x=>.str x
inductive HO where
 | lst (xs:List V)
 | tup (xs:List V)
 | dK (kvs:List (B5×V)) | dT (kvs:List (List B5×V))
 | set (S:Int->Bool) (n:Nat)
 | ins (C dx:Addr) (fs:List (Str×V))
 | own (x:Addr)
 | xd (fs:List (Str×V))
 | met (f x:Addr)
 | rng (lo hi:Int)
 | frz (o:Obj) (u:HO)
 | tbl (ps:Array Value)
 | ext (φ:Heap->Prop)
noncomputable abbrev Hp:=Addr->Option HO
noncomputable def A0 (H:Hp) (a:Addr) (o:HO):Hp:=fun b=>if b=a then some o else H b
theorem A3{H:Hp}{a:Addr}{o:HO} : A0 H a o a=some o:=by unfold A0;rw [if_pos rfl]
theorem A7{H:Hp}{a b:Addr}{o:HO}(h:b≠a):A0 H a o b=H b:=by unfold A0;rw [if_neg h]
theorem ne_of{H:Hp}{a b:Addr}{o u:HO}(h:H a=some o)(h':H b=some u)(d:o≠u):a≠b:=by
 intro e;subst e;rw [h] at h';exact d (Option.some.inj h')
theorem v7{H:Hp}{a b:Addr}{o:HO}(h:H a=some o)(h':H b=none):a≠b:=by
 intro e;subst e;rw [h] at h';cases h'
section
variable (P:Program) (w:World)
noncomputable def ObjOk (H:Hp) (h:Heap) (a:Addr):HO->Prop
 | .lst xs=>xs.length<=sizeLine/\∃ (its:List Value) (n:Nat),Vals xs its/\h.get? a=some { cls:=.type "list",data:=.seq its.toArray n }
 | .tup xs=>xs.length<=sizeLine/\∃ its:List Value,Vals xs its/\IsTup h a its.toArray
 | .dK kvs=>kvs.length<=sizeLine/\(a==sysModules)=false/\∃ vs,KV kvs vs/\h.DictOf (N3 P w) a vs
 | .dT kvs=>kvs.length<=sizeLine/\(a==sysModules)=false/\∃ xs:List (List B5×Addr×Value),
   Paired (fun (p:List B5×V) (q:List B5×Addr×Value)=>p.1=q.1/\H q.2.1=some (.tup (p.1.map kV))/\RelV p.2 q.2.2) kvs xs/\
   ∃ o es ep,h.get? a=some o/\o.ExactDict/\o.data=.dict es ep/\es.toList=xs.map (entryOfKey (tupleKind (N3 P w)))/\(xs.map (·.1)).Nodup
 | .set S n=>h.SetOf (intKind P w) a S n
 | .ins C dx fs=>H dx=some (.own a)/\fs.length<=1000/\dx≠a/\h.get? a=some (eN C dx)/\
   ∃ mA,h.Ns1 dx mA/\(∀ f,RelO (fs.lookup f) (mA f))/\PySem.Within mA (fs.map (·.1))
 | .own _=>∃ o,h.get? a=some o
 | .xd fs=>∃ mA,h.Ns1 a mA/\∀ f,RelO (fs.lookup f) (mA f)
 | .rng lo hi=>∃ t u v,h.get? a=some { cls:=.type "range",data:=.fields #[.int lo t,.int hi u,.int 1 v] }
 | .frz o u=>h.get? a=some o/\ObjOk H h a u
 | .tbl ps=>h.get? a=some { cls:=.none,data:=.fields ps }
 | .met f x=>h.get? a=some (PySem.W.methodObj (.ref f) (.ref x))
 | .ext φ=>φ h/\(∃ o,h.get? a=some o)/\∀ h1 h2:Heap,φ h1->(∀ o,h1.get? a=some o->h2.get? a=some o)->φ h2
noncomputable def N4 (H:Hp) (h:Heap):Prop:=∀ a o,H a=some o->ObjOk P w H h a o
end
section
variable {P:Program} {w:World} {H H':Hp} {h h':Heap} {a:Addr} {o:HO}
theorem ObjOk.lt(x:ObjOk P w H h a o):a<h.objs.size:=by
 cases o with
 | lst xs=>obtain ⟨_,_,_,_,e⟩:=x;exact Heap.lt_size e
 | tup xs=>obtain ⟨_,_,_,p⟩:=x;exact p.lt
 | dK kvs=>obtain ⟨_,_,_,_,o,_,_,e,_⟩:=x;exact Heap.lt_size e
 | dT kvs=>obtain ⟨_,_,_,_,o,_,_,e,_⟩:=x;exact Heap.lt_size e
 | set S n=>obtain ⟨o,_,_,_,e,_⟩:=x;exact Heap.lt_size e
 | ins C dx fs=>obtain ⟨_,_,_,e,_⟩:=x;exact Heap.lt_size e
 | own y=>obtain ⟨_,e⟩:=x;exact Heap.lt_size e
 | xd fs=>obtain ⟨_,⟨_,_,_,e,_⟩,_⟩:=x;exact Heap.lt_size e
 | rng lo hi=>obtain ⟨_,_,_,e⟩:=x;exact Heap.lt_size e
 | frz ob u=>obtain ⟨e,_⟩:=x;exact Heap.lt_size e
 | tbl ps=>exact Heap.lt_size (show h.get? a=some _ from x)
 | met f y=>exact Heap.lt_size (show h.get? a=some _ from x)
 | ext φ=>obtain ⟨_,⟨_,e⟩,_⟩:=x;exact Heap.lt_size e
theorem N9{α β:Type}{F G:α->β->Prop} : ∀ {l₁:List α} {l₂:List β},Paired F l₁ l₂->(∀ a b,F a b->G a b)->Paired G l₁ l₂
 | _,_,.nil,_=>.nil
 | _,_,.cons r t,f=>.cons (f _ _ r) (N9 t f)
theorem ObjOk.stay(x:ObjOk P w H h a o)(k:∀ b u,(b=a\/H b=some (.own a))->h.get? b=some u->h'.get? b=some u)(ho:∀ b,H b=some (.own a)->H' b=some (.own a))(ht:∀ b xs,H b=some (.tup xs)->H' b=some (.tup xs)):ObjOk P w H' h' a o:=by
 induction o with
 | lst xs=>obtain ⟨z,its,n,r,e⟩:=x;exact ⟨z,its,n,r,k _ _ 'f' e⟩
 | tup xs=>obtain ⟨z,its,r,ob,e,c⟩:=x;exact ⟨z,its,r,ob,k _ _ 'f' e,c⟩
 | dK kvs=>obtain ⟨z,y,vs,r,ob,es,ep,e,c⟩:=x;exact ⟨z,y,vs,r,ob,es,ep,k _ _ 'f' e,c⟩
 | dT kvs=>
  obtain ⟨z,y,xs,r,ob,es,ep,e,c⟩:=x;exact ⟨z,y,xs,N9 r fun p q z=>⟨z.1,ht _ _ z.2.1,z.2.2⟩,ob,es,ep,k _ _ 'f' e,c⟩
 | set S n=>obtain ⟨ob,es,ep,t,e,c⟩:=x;exact ⟨ob,es,ep,t,k _ _ 'f' e,c⟩
 | ins C dx fs=>
  obtain ⟨d,z,ne,e,mA,⟨od,es,ep,e2,c⟩,r⟩:=x;exact ⟨ho _ d,z,ne,k _ _ 'f' e,mA,⟨od,es,ep,k _ _ (.inr d) e2,c⟩,r⟩
 | own y=>obtain ⟨ob,e⟩:=x;exact ⟨ob,k _ _ 'f' e⟩
 | xd fs=>obtain ⟨mA,⟨od,es,ep,e,c⟩,r⟩:=x;exact ⟨mA,⟨od,es,ep,k _ _ 'f' e,c⟩,r⟩
 | rng lo hi=>obtain ⟨t,u,v,e⟩:=x;exact ⟨t,u,v,k _ _ 'f' e⟩
 | frz ob u ih=>obtain ⟨e,q⟩:=x;exact ⟨k _ _ 'f' e,ih q⟩
 | tbl ps=>
  have e:h.get? a=some { cls:=.none,data:=.fields ps }:=x;show h'.get? a=some { cls:=.none,data:=.fields ps };exact k a _ 'f' e
 | met f y=>
  have e:h.get? a=some (PySem.W.methodObj (.ref f) (.ref y)):=x;show h'.get? a=some (PySem.W.methodObj (.ref f) (.ref y));exact k a _ 'f' e
 | ext φ=>obtain ⟨p,⟨o,e⟩,st⟩:=x;exact ⟨st _ _ p fun o q=>k _ _ 'f' q,⟨o,k _ _ 'f' e⟩,st⟩
theorem N4.lt(x:N4 P w H h)(e:H a=some o):a<h.objs.size:=(x a o e).lt
theorem N4.fresh(x:N4 P w H h)(e:h.objs.size<=a):H a=none:=by
 cases q:H a with
 | none=>rfl
 | some u=>exact absurd (W1 (x.lt q) e) (c9 _)
theorem N4.kept(x:N4 P w H h)(k:∀ b u,h.get? b=some u->h'.get? b=some u):N4 P w H h':=fun a o e=>
 (x a o e).stay (fun b u _ q=>k b u q) (fun _ q=>q) fun _ _ q=>q
theorem N4.laid(x:N4 P w H h)(k:∀ b u,h.get? b=some u->h'.get? b=some u)(hp:h.objs.size<=a)(new:ObjOk P w (A0 H a o) h' a o):N4 P w (A0 H a o) h':=fun b u e=>by
 have hn:=x.fresh hp
 by_cases hb:b=a
 .subst hb;rw [A3] at e;cases e;exact new
 .rw [A7 hb] at e;exact (x b u e).stay (fun c v _ q=>k c v q) (fun c q=>by rw [A7 (v7 q hn)];exact q) fun c xs q=>by rw [A7 (v7 q hn)];exact q
end
noncomputable def Rd (H:Hp) (a:Addr) (u:HO):Prop:=H a=some u\/∃ o,H a=some (.frz o u)
theorem Rd.of{H:Hp}{a:Addr}{u:HO}(h:H a=some u):Rd H a u:=.inl h
theorem Rd.ok{P:Program}{w:World}{H:Hp}{h:Heap}{a:Addr}{u:HO}(r:Rd H a u)(x:N4 P w H h):ObjOk P w H h a u:=by
 rcases r with r | ⟨o,r⟩
 .exact x a u r
 .obtain ⟨_,q⟩:=x a _ r;exact q
noncomputable def nF:Option HO->Prop
 | some (.lst _)=>True
 | some (.dK _)=>True
 | some (.dT _)=>True
 | some (.set _ _)=>True
 | some (.ins _ _ _)=>True
 | some (.ext _)=>True
 | _=>False
section
variable {P:Program} {w:World} {H:Hp} {h h':Heap} {x e:Addr} {o':HO}
theorem N4.write(ok:N4 P w H h)(mu:nF (H x))(he:e=x\/H e=some (.own x))(k:∀ b u,b≠e->h.get? b=some u->h'.get? b=some u)(mD:∃ u,h'.get? e=some u)(new:ObjOk P w (A0 H x o') h' x o'):N4 P w (A0 H x o') h':=fun b u q=>by
 have nown:∀ c y,H c=some (.own y)->c≠x:=fun c y r z=>by subst z;rw [r] at mu;exact mu
 have ntup:∀ c xs,H c=some (.tup xs)->c≠x:=fun c xs r z=>by subst z;rw [r] at mu;exact mu
 by_cases hb:b=x
 .subst hb;rw [A3] at q;cases q;exact new
 .rw [A7 hb] at q
  by_cases iN:b=e
  .have q':H b=some (.own x):=by
    rcases he with z | z
    .exact absurd (iN.trans z) hb
    .rw [iN];exact z
   rw [q] at q';cases q';obtain ⟨v,hv⟩:=mD;exact ⟨v,by rw [iN];exact hv⟩
  .refine (ok b u q).stay (fun c v hc r=>k c v ?_ r) (fun c r=>by rw [A7 (nown c b r)];exact r) fun c xs r=>by rw [A7 (ntup c xs r)];exact r
   rcases hc with rfl | hc
   .exact iN
   .rintro rfl
    rcases he with z | z
    .exact nown c b hc z
    .rw [hc] at z;cases z;exact hb rfl
end
structure Un(fs ex:List Addr)(H H':Hp)(h h':Heap):Prop where
 keep:∀ b o,h.get? b=some o->H b=none->b∉fs->b∉ex->h'.get? b=some o
 slot:∀ b o,h.get? b=some o->H b=none->b∈fs->b∉ex->∃ sl,h'.get? b=some { o with slots:=sl }
 free:∀ b o,h.get? b=some o->H b=none->b∉ex->H' b=none
 there:∀ b o,h.get? b=some o->b∉ex->∃ o',h'.get? b=some o'
 tups:∀ b xs,H b=some (.tup xs)->H' b=some (.tup xs)
 frzs:∀ b o u,H b=some (.frz o u)->H' b=some (.frz o u)
 tbls:∀ b ps,H b=some (.tbl ps)->∃ more,H' b=some (.tbl (ps++more))
section
variable {fs fs' ex ex':List Addr} {H H1 H2:Hp} {h h1 h2 h':Heap} {a x e:Addr} {o:HO}
theorem Un.any(u:Un fs ex H H1 h h1){b:Addr}{ob:Obj}(q:h.get? b=some ob)(n:H b=none)(hx:b∉ex):∃ sl,h1.get? b=some { ob with slots:=sl }:=by
 by_cases hb:b∈fs
 .exact u.slot b ob q n hb hx
 .exact ⟨ob.slots,u.keep b ob q n hb hx⟩
theorem Un.kept(k:∀ b u,h.get? b=some u->h'.get? b=some u):Un fs ex H H h h':=
 ⟨fun b ob q _ _ _=>k b ob q,fun b ob q _ _ _=>⟨ob.slots,k b ob q⟩,fun _ _ _ n _=>n,fun b ob q _=>⟨ob,k b ob q⟩,fun _ _ q=>q,fun _ _ _ q=>q,fun _ ps q=>⟨#[],by rw [q];simp⟩⟩
theorem uag:Un fs ex H H h h:=Un.kept fun _ _ q=>q
theorem Un.laid(k:∀ b u,h.get? b=some u->h'.get? b=some u)(hp:h.objs.size<=a)(hn:H a=none):Un fs ex H (A0 H a o) h h' where
 keep:=fun b u q _ _ _=>k b u q
 slot:=fun b u q _ _ _=>⟨u.slots,k b u q⟩
 free:=fun b u q n _=>by rw [A7 (M5 (W1 (Heap.lt_size q) hp))];exact n
 there:=fun b u q _=>⟨u,k b u q⟩
 tups:=fun b xs q=>by rw [A7 (v7 q hn)];exact q
 frzs:=fun b u xs q=>by rw [A7 (v7 q hn)];exact q
 tbls:=fun b ps q=>⟨#[],by rw [A7 (v7 q hn),q];simp⟩
theorem Un.write(mu:nF (H x))(he:e=x\/H e=some (.own x))(k:∀ b u,b≠e->h.get? b=some u->h'.get? b=some u)(mD:∃ u,h'.get? e=some u):Un fs ex H (A0 H x o) h h':=by
 have hx:∀ b,H b=none->b≠x:=fun b n z=>by subst z;rw [n] at mu;exact mu
 have hb:∀ b,H b=none->b≠e:=fun b n z=>by
  subst z
  rcases he with r | r
  .exact hx b n r
  .rw [n] at r;cases r
 have hm:∀ b u,H b=some u->¬ nF (some u)->b≠x:=fun b u q nm z=>by subst z;rw [q] at mu;exact nm mu
 refine ⟨fun b u q n _ _=>k b u (hb b n) q,fun b u q n _ _=>⟨u.slots,k b u (hb b n) q⟩,fun b u q n _=>by rw [A7 (hx b n)];exact n,fun b u q _=>?_,
  fun b xs q=>by rw [A7 (hm b _ q fun z=>z)];exact q,fun b u xs q=>by rw [A7 (hm b _ q fun z=>z)];exact q,fun b ps q=>⟨#[],by rw [A7 (hm b _ q fun z=>z),q];simp⟩⟩
 by_cases iN:b=e
 .subst iN;exact mD
 .exact ⟨u,k b u iN q⟩
end
noncomputable def qQ (h:Heap) (H:Hp):List Addr:=(U9 h.objs.size).filter fun a=>(H a).isSome
noncomputable def hidT (h:Heap) (H:Hp):Heap:=PySem.W.hideAll h (qQ h H)
theorem ajm(h:Heap)(H:Hp):(hidT h H).objs.size=h.objs.size:=PySem.W.hideAll_size _ _
theorem alj{h:Heap}{H:Hp}{b:Addr}{o:Obj}(e:h.get? b=some o)(n:H b=none):(hidT h H).get? b=some o:=
 PySem.W.hideAll_get _ e fun hm=>by
  have q:(H b).isSome=true:=(X4.mp hm).2;rw [n] at q;simp at q
theorem anx{h:Heap}{H:Hp}{b:Addr}{o:Obj}(e:(hidT h H).get? b=some o):h.get? b=some o/\H b=none:=by
 have e':h.get? b=some o:=PySem.W.of_hideAll (qQ h H) e;refine ⟨e',?_⟩
 cases q:H b with
 | none=>rfl
 | some x=>
  have hm:b∈qQ h H:=X4.mpr ⟨j6.mpr (Heap.lt_size e'),by simp [q]⟩;have z:(hidT h H).get? b=none:=PySem.W.hideAll_none (qQ h H) hm;rw [z] at e;cases e
noncomputable def anz (g h:Heap) (L:Addr):List 'l':=(U9 h.objs.size).filterMap fun a=>if a=L\/(g.get? a).isSome=true then none else (h.get? a).map fun o=>(a,o)
noncomputable def rest (g h:Heap) (L d:Addr):List 'l':=(anz g h L).filter fun p=>decide (p.1≠d)
structure Mod(K:PySem.W.Frag)(mg:Str->Option Value)(base:Heap):Prop where
 kin:K.In base
 glob:base.Ns mainGlobals mg
 blt:∃ mb,base.Ns builtinsNs mb/\∀ x:Str,x≠"__name__"->mb x=bootBuiltins x
 nolimit:base.NoLimit
structure Cx where
 prog:Program
 w:World
 K:PySem.W.Frag
 mg:Str->Option Value
 base:Heap
 A:Around
 N:List Str
 s₀:Shared
 H₀:Hp
 env:Env
 outer:List Env
 stack:List Env
 ex:List Addr
 fn:Str->Bool
 calm:Bool
 pn:List 'l'
 xe:Value->Shared->Prop
noncomputable def v8 (l:List Env):List Addr:=l.filterMap (·.frame)
noncomputable abbrev Cx.fs (X:Cx):List Addr:=v8 X.outer
noncomputable def nG (sc:Scope) (x:Str):Prop:=sc.names.lookup x=some .local\/sc.names.lookup x=some .cell\/sc.names.lookup x=some .free
noncomputable def v9 (sc:Scope) (x:Str):Prop:=sc.names.lookup x=some .local\/sc.names.lookup x=some .cell
noncomputable def Look (env:Env) (h:Heap) (m:Str->Option Value) (x:Str) (u:Value):Prop:=
 (env.kindOf x=some .local/\m x=some u)\/((env.kindOf x=some .cell\/env.kindOf x=some .free)/\∃ c,env.cells.lookup x=some c/\h.IsCell c (some u))
structure Cx.Ok(X:Cx):Prop where
 mod:Mod X.K X.mg X.base
 kind:X.env.scope.kind=.function
 glob:X.env.globals=mainGlobals
 blt:X.env.builtins=builtinsNs
 above:X.s₀.heap.objs.size<=X.env.locals
 inj:∀ x y c,X.env.cells.lookup x=some c->X.env.cells.lookup y=some c->x=y
 has:∀ x,(X.env.kindOf x=some .cell\/X.env.kindOf x=some .free)->∃ c,X.env.cells.lookup x=some c
 cab:∀ x c,X.fn x=true->X.env.cells.lookup x=some c->X.s₀.heap.objs.size<=c
 hd:X.calm=true->X.A.handled=none
 frames:X.A.frames=some X.stack
 stk:X.stack=X.outer\/(X.stack=X.env::X.outer/\X.env.frame=some X.env.locals)
 exf:∀ b∈X.ex,b≠X.env.locals/\∀ x c,X.env.cells.lookup x=some c->c≠b
 bs:∀ b o,X.base.get? b=some o->X.s₀.heap.get? b=some o/\X.H₀ b=none
 bsz:X.base.objs.size<=X.s₀.heap.objs.size
 noex:∀ b o,X.base.get? b=some o->b∉X.ex
 exfs:∀ b∈X.ex,b∉X.fs
 funs:X.s₀.heap.FunFrames X.base X.outer
 frf:∀ b∈X.fs,X.H₀ b=none
structure Inv(X:Cx)(pins:List 'l')(Y:List (Option V))(H:Hp)(s:Shared):Prop where
 ok:X.Ok
 os:s.os=X.s₀.os
 bare:AllBare s.gens
 base:Un X.fs X.ex X.H₀ H X.s₀.heap s.heap
 loc:∃ m,s.heap.Ns X.env.locals m/\∀ (i:Nat) (x:Str) (v:V),X.N[i]?=some x->Y[i]?=some (some v)->nG X.env.scope x->∃ u,RelV v u/\Look X.env s.heap m x u
 cell:∀ x c,X.env.cells.lookup x=some c->∃ v,s.heap.IsCell c v
 free:H X.env.locals=none
 freeC:∀ x c,X.env.cells.lookup x=some c->H c=none
 pin:∀ p∈X.pn++pins,s.heap.get? p.1=some p.2/\H p.1=none/\p.1≠X.env.locals/\p.1∉X.fs/\∀ v,p.2.data≠.cell v
 hok:N4 X.prog X.w H s.heap
 len:Y.length=X.N.length
section
variable {X:Cx} {pins:List (Addr×Obj)} {Y:List (Option V)} {H H':Hp} {s:Shared} {h':Heap}
theorem Cx.Ok.nofr(ok:X.Ok){b:Addr}{o:Obj}(e:X.base.get? b=some o):b∉X.fs:=fun hb=>by
 have:=(ok.funs.mem hb).1
 rw [e] at this;cases this
theorem Inv.bs(I:Inv X pins Y H s):∀ b o,X.base.get? b=some o->s.heap.get? b=some o/\H b=none:=fun b o e=>
 ⟨I.base.keep b o (I.ok.bs b o e).1 (I.ok.bs b o e).2 (I.ok.nofr e) (I.ok.noex b o e),I.base.free b o (I.ok.bs b o e).1 (I.ok.bs b o e).2 (I.ok.noex b o e)⟩
theorem Inv.bk(I:Inv X pins Y H s):∀ b o,X.base.get? b=some o->s.heap.get? b=some o:=fun b o e=>(I.bs b o e).1
theorem Inv.mod(I:Inv X pins Y H s):Mod X.K X.mg X.base:=I.ok.mod
theorem Inv.kIn(I:Inv X pins Y H s):X.K.In s.heap:=I.ok.mod.kin.keeps I.bk
theorem Inv.lt(I:Inv X pins Y H s):X.env.locals<s.heap.objs.size:=let ⟨_,hn,_⟩:=I.loc;hn.lt
theorem Inv.sz(I:Inv X pins Y H s):X.s₀.heap.objs.size<=s.heap.objs.size:=N8 I.ok.above (Nat.le_of_lt I.lt)
theorem Inv.nofs(I:Inv X pins Y H s){a:Addr}(h:s.heap.objs.size<=a):a∉X.fs:=fun hb=>by
 obtain ⟨_,o,ho,_⟩:=I.ok.funs.mem hb;exact absurd (W1 (Heap.lt_size ho) (N8 I.sz h)) (c9 _)
theorem Inv.cne(I:Inv X pins Y H s):∀ x c,X.env.cells.lookup x=some c->c≠X.env.locals:=fun x c e z=>by
 obtain ⟨v,o,ho,hd⟩:=I.cell x c e;obtain ⟨m,⟨o',es,ep,m5,iO,_⟩,_⟩:=I.loc;rw [z,m5] at ho;cases ho;rw [iO] at hd;cases hd
theorem Inv.funs(I:Inv X pins Y H s):s.heap.FunFrames X.base X.outer:=by
 have all:∀ (l:List Env),(∀ b∈v8 l,b∈X.fs)->X.s₀.heap.FunFrames X.base l->s.heap.FunFrames X.base l:=by
  intro l
  induction l with
  | nil=>intro _ _;trivial
  | cons env r ih=>
   intro hs hl;obtain ⟨hk,⟨L,o,hf,hn,ho,hd⟩,hr⟩:=hl;have hL:L∈X.fs:=hs L (by unfold v8;rw [bY,hf];exact N2);obtain ⟨sl,e⟩:=I.base.slot L o ho (I.ok.frf L hL) hL fun z=>I.ok.exfs L z hL
   exact ⟨hk,⟨L,_,hf,hn,e,hd⟩,ih (fun b hb=>hs b (by unfold v8;rw [bY,hf];exact O7 _ hb)) hr⟩
 exact all X.outer (fun _ hb=>hb) I.ok.funs
theorem Inv.stack(I:Inv X pins Y H s):s.heap.FunFrames X.base X.stack:=by
 rcases I.ok.stk with e | ⟨e,hf⟩
 .rw [e];exact I.funs
 .rw [e];obtain ⟨m,hn,_⟩:=I.loc;refine .cons (by rw [I.ok.kind];decide) hf hn ?_ I.funs;exact Heap.get?_none_of_le (N8 I.ok.bsz I.ok.above)
theorem Inv.stkSub(I:Inv X pins Y H s):∀ b∈v8 X.stack,b∈X.env.locals::X.fs:=fun b hb=>by
 rcases I.ok.stk with e | ⟨e,hf⟩
 .rw [e] at hb;exact O7 _ hb
 .rw [e] at hb;unfold v8 at hb;rw [bY,hf] at hb;exact hb
theorem Inv.stkFree(I:Inv X pins Y H s):∀ b∈v8 X.stack,H b=none:=fun b hb=>by
 rcases L4.mp (I.stkSub b hb) with e | hb
 .rw [e];exact I.free
 .obtain ⟨_,o,ho,_⟩:=I.ok.funs.mem hb;exact I.base.free b o ho (I.ok.frf b hb) fun z=>I.ok.exfs b z hb
theorem Inv.step{g':Array GenState}{t':Nat}{d':Drawn}{ch:List Addr}(I:Inv X pins Y H s)(bJ:∀ b∈ch,(b∈X.ex\/X.s₀.heap.objs.size<=b)/\b≠X.env.locals/\(∀ x c,X.env.cells.lookup x=some c->c≠b)/\∀ p∈X.pn++pins,p.1≠b)(keep:∀ b o,b≠X.env.locals->b∉X.fs->b∉ch->s.heap.get? b=some o->H b=none->h'.get? b=some o)(slot:∀ b o,b≠X.env.locals->b∈X.fs->b∉ch->s.heap.get? b=some o->H b=none->∃ sl,h'.get? b=some { o with slots:=sl })(free:∀ b o,b∉ch->s.heap.get? b=some o->H b=none->H' b=none)(there:∀ b o,b∉ch->s.heap.get? b=some o->∃ o',h'.get? b=some o')(tups:∀ b xs,H b=some (.tup xs)->H' b=some (.tup xs))(frzs:∀ b o u,H b=some (.frz o u)->H' b=some (.frz o u))(tbls:∀ b ps,H b=some (.tbl ps)->∃ more,H' b=some (.tbl (ps++more)))(ns:∀ m,s.heap.Ns X.env.locals m->h'.Ns X.env.locals m)(hok:N4 X.prog X.w H' h')(hg:AllBare g') :
  Inv X pins Y H' { s with heap:=h',gens:=g',drawn:=d',toks:=t' }:=by
 have neL:∀ b o,X.s₀.heap.get? b=some o->b≠X.env.locals:=fun b o e=>M5 (W1 (Heap.lt_size e) I.ok.above)
 have neC:∀ b o,X.s₀.heap.get? b=some o->b∉X.ex->b∉ch:=fun b o e hx hb=>by
  rcases (bJ b hb).1 with z | z
  .exact hx z
  .exact absurd (W1 (Heap.lt_size e) z) (c9 _)
 have cellK:∀ x c,X.env.cells.lookup x=some c->∀ v,s.heap.IsCell c v->h'.IsCell c v:=fun x c e v ⟨o,ho,hd⟩=>by
  have nch:c∉ch:=fun z=>(bJ c z).2.2.1 x c e rfl
  by_cases hc:c∈X.fs
  .obtain ⟨sl,q⟩:=slot c o (I.cne x c e) hc nch ho (I.freeC x c e);exact ⟨_,q,hd⟩
  .exact ⟨o,keep c o (I.cne x c e) hc nch ho (I.freeC x c e),hd⟩
 refine ⟨I.ok,I.os,hg,⟨fun b o e n hb hx=>?_,fun b o e n hb hx=>?_,fun b o e n hx=>?_,fun b o e hx=>?_,fun b xs e=>tups b xs (I.base.tups b xs e),fun b o xs e=>frzs b o xs (I.base.frzs b o xs e),fun b ps e=>?_⟩,?_,fun x c e=>?_,?_,fun x c e=>?_,fun p hp=>?_,hok,I.len⟩
 .exact keep b o (neL b o e) hb (neC b o e hx) (I.base.keep b o e n hb hx) (I.base.free b o e n hx)
 .obtain ⟨sl,e1⟩:=I.base.slot b o e n hb hx;obtain ⟨sl',e2⟩:=slot b _ (neL b o e) hb (neC b o e hx) e1 (I.base.free b o e n hx);exact ⟨sl',e2⟩
 .obtain ⟨o',e1⟩:=I.base.there b o e hx;exact free b o' (neC b o e hx) e1 (I.base.free b o e n hx)
 .obtain ⟨o',e1⟩:=I.base.there b o e hx;exact there b o' (neC b o e hx) e1
 .obtain ⟨m1,e1⟩:=I.base.tbls b ps e;obtain ⟨m2,e2⟩:=tbls b _ e1;exact ⟨m1++m2,by rw [e2,Array.append_assoc]⟩
 .obtain ⟨m,hn,hl⟩:=I.loc;refine ⟨m,ns m hn,fun i x v e1 e2 e3=>?_⟩;obtain ⟨u,r,l⟩:=hl i x v e1 e2 e3;refine ⟨u,r,?_⟩
  rcases l with l | ⟨k,c,e,z⟩
  .exact .inl l
  .exact .inr ⟨k,c,e,cellK x c e _ z⟩
 .obtain ⟨v,z⟩:=I.cell x c e;exact ⟨v,cellK x c e v z⟩
 .obtain ⟨m,⟨o,_,_,ho,_⟩,_⟩:=I.loc;exact free _ o (fun z=>(bJ _ z).2.1 rfl) ho I.free
 .obtain ⟨v,o,ho,hd⟩:=I.cell x c e;exact free c o (fun z=>(bJ c z).2.2.1 x c e rfl) ho (I.freeC x c e)
 .obtain ⟨e,n,ne,nf,d⟩:=I.pin p hp;have nch:p.1∉ch:=fun z=>(bJ p.1 z).2.2.2 p hp rfl
  exact ⟨keep p.1 p.2 ne nf nch e n,free p.1 p.2 nch e n,ne,nf,d⟩
theorem Inv.un{t':Nat}(I:Inv X pins Y H s)(u:Un X.fs [] H H' s.heap h')(hok:N4 X.prog X.w H' h'):Inv X pins Y H' { s with heap:=h',toks:=t' }:=by
 obtain ⟨m,⟨o,es,ep,ho,r⟩,_⟩:=id I.loc;obtain ⟨sl,hL⟩:=u.any ho I.free 'd';exact I.step (g':=s.gens) (d':=s.drawn) (ch:=[]) (fun _ z=>nomatch z) (fun b o _ hb _ e n=>u.keep b o e n hb 'd') (fun b o _ hb _ e n=>u.slot b o e n hb 'd') (fun b o _ e n=>u.free b o e n 'd') (fun b o _ e=>u.there b o e 'd') u.tups u.frzs u.tbls (fun m' hm=>by
  obtain ⟨o',es',ep',m5,r'⟩:=hm;rw [ho] at m5;cases m5;exact ⟨_,es',ep',hL,r'⟩) hok I.bare
theorem Inv.call{g':Array GenState}{t':Nat}{d':Drawn}{ch:List Addr}(I:Inv X pins Y H s)(u:Un (v8 X.stack) ch H H' s.heap h')(hok:N4 X.prog X.w H' h')(hg:AllBare g')(bJ:∀ b∈ch,(b∈X.ex\/X.s₀.heap.objs.size<=b)/\b≠X.env.locals/\(∀ x c,X.env.cells.lookup x=some c->c≠b)/\∀ p∈X.pn++pins,p.1≠b) :
  Inv X pins Y H' { s with heap:=h',gens:=g',drawn:=d',toks:=t' }:=by
 obtain ⟨m,⟨o,es,ep,ho,r⟩,_⟩:=id I.loc;obtain ⟨sl,hL⟩:=u.any ho I.free fun z=>(bJ _ z).2.1 rfl
 exact I.step (ch:=ch) bJ (fun b o hL hb hc e n=>u.keep b o e n (fun z=>(L4.mp (I.stkSub b z)).elim hL hb) hc) (fun b o _ _ hc e n=>u.any e n hc) (fun b o hc e n=>u.free b o e n hc) (fun b o hc e=>u.there b o e hc) u.tups u.frzs u.tbls (fun m' hm=>by
  obtain ⟨o',es',ep',m5,r'⟩:=hm;rw [ho] at m5;cases m5;exact ⟨_,es',ep',hL,r'⟩) hok hg
theorem Inv.turned{t':Nat}{it:Addr}(I:Inv X pins Y H s)(k:∀ b o,b≠it->s.heap.get? b=some o->h'.get? b=some o)(hn:H it=none)(hL:it≠X.env.locals)(h1:it∈X.ex\/X.s₀.heap.objs.size<=it)(h2:∀ x c,X.env.cells.lookup x=some c->c≠it)(h3:∀ p∈X.pn++pins,p.1≠it):Inv X pins Y H { s with heap:=h',toks:=t' }:=by
 have nit:∀ b u,H b=some u->b≠it:=fun b u e z=>by rw [z,hn] at e;cases e
 refine I.step (g':=s.gens) (d':=s.drawn) (ch:=[it]) (fun b hb=>?_) (fun b o _ _ hc e _=>k b o (fun z=>hc (by simp [z])) e) (fun b o _ _ hc e _=>⟨o.slots,k b o (fun z=>hc (by simp [z])) e⟩) (fun _ _ _ _ n=>n)
  (fun b o hc e=>⟨o,k b o (fun z=>hc (by simp [z])) e⟩) (fun _ _ e=>e) (fun _ _ _ e=>e) (fun b ps e=>⟨#[],by rw [e];simp⟩) (fun m hm=>?_) (fun b u e=>?_) I.bare
 .have e:b=it:=by simpa using hb
  subst e;exact ⟨h1,hL,h2,h3⟩
 .obtain ⟨o,es,ep,ho,r⟩:=hm;exact ⟨o,es,ep,k _ o (Ne.symm hL) ho,r⟩
 .refine (I.hok b u e).stay (fun c v hc q=>k c v ?_ q) (fun _ q=>q) fun _ _ q=>q
  rcases hc with z | z
  .rw [z];exact nit b u e
  .exact nit c _ z
theorem Inv.tok(I:Inv X pins Y H s)(t:Nat):Inv X pins Y H { s with toks:=t }:=I.un (h':=s.heap) (t':=t) uag I.hok
theorem Inv.kept{t':Nat}(I:Inv X pins Y H s)(k:∀ b u,s.heap.get? b=some u->h'.get? b=some u):Inv X pins Y H { s with heap:=h',toks:=t' }:=I.un (Un.kept k) (I.hok.kept k)
theorem Inv.laid{a:Addr}{o:HO}{t':Nat}(I:Inv X pins Y H s)(k:∀ b u,s.heap.get? b=some u->h'.get? b=some u)(hp:s.heap.objs.size<=a)(new:ObjOk X.prog X.w (A0 H a o) h' a o) :
  Inv X pins Y (A0 H a o) { s with heap:=h',toks:=t' }:=I.un (Un.laid k hp (I.hok.fresh hp)) (I.hok.laid k hp new)
theorem Inv.write{x e:Addr}{o:HO}{t':Nat}(I:Inv X pins Y H s)(mu:nF (H x))(he:e=x\/H e=some (.own x))(k:∀ b u,b≠e->s.heap.get? b=some u->h'.get? b=some u)(mD:∃ u,h'.get? e=some u)(new:ObjOk X.prog X.w (A0 H x o) h' x o):Inv X pins Y (A0 H x o) { s with heap:=h',toks:=t' }:=I.un (Un.write mu he k mD) (I.hok.write mu he k mD new)
theorem Inv.pins_of{pins':List 'l'}(I:Inv X pins Y H s)(h:∀ p∈pins',s.heap.get? p.1=some p.2/\H p.1=none/\p.1≠X.env.locals/\p.1∉X.fs/\∀ v,p.2.data≠.cell v):Inv X pins' Y H s:=
 ⟨I.ok,I.os,I.bare,I.base,I.loc,I.cell,I.free,I.freeC,fun p hp=>(G3.mp hp).elim (fun z=>I.pin p (Q3 _ z)) (h p),I.hok,I.len⟩
theorem ahQ{N:List Str}(hN:N.Nodup){i j:Nat}{x:Str}(a:N[i]?=some x)(b:N[j]?=some x):i=j:=by
 obtain ⟨h1,e1⟩:=E5.mp a;obtain ⟨h2,e2⟩:=E5.mp b;exact (List.getElem_inj hN).mp (e1.trans e2.symm)
theorem ajn{M:Model}{A:Around}{E:Value->Shared->Prop}{i:Nat}{x:Str}{v:V}{u:Value}{Q:Unit->Shared->Prop}(I:Inv X pins Y H s)(hN:X.N.Nodup)(hi:X.N[i]?=some x)(hx:v9 X.env.scope x)(r:RelV v u)(h:∀ s',Inv X pins (Y.set i (some v)) H s'->(∃ a,Heap.SameBut a s.heap s'.heap/\(a=X.env.locals\/X.env.cells.lookup x=some a))->Q () s')(hf:X.fn x=true\/X.env.scope.names.lookup x=some .local:=by first | exact .inl rfl | exact .inr rfl | assumption):wpAny M A (storeName X.env x u) Q E s:=by
 obtain ⟨m,hn,hl⟩:=id I.loc;have zZ:(X.env.scope.kind == .class || (X.env.scope.kind == .module&&X.env.locals != X.env.globals))=false:=by rw [I.ok.kind];rfl
 have hiσ:i<Y.length:=by rw [I.len];exact (E5.mp hi).1
 have cne:=I.cne;have tracked:∀ {a:Addr} {h':Heap},(∃ o,s.heap.get? a=some o/\H a=none)->Heap.SameBut a s.heap h'->N4 X.prog X.w H h':=fun {a h'} ha hs b ob e=>by
  obtain ⟨_,_,fM⟩:=ha;refine (I.hok b ob e).stay (fun c w' hc q=>(hs.2 c ?_).trans q) (fun _ q=>q) fun _ _ q=>q
  rintro rfl
  rcases hc with rfl | hc
  .rw [fM] at e;cases e
  .rw [fM] at hc;cases hc
 rcases hx with hk | hk
 .refine wpAny_storeName_local hk hn (fun h' hn' hs=>?_) zZ;obtain ⟨oL,_,_,hoL,_⟩:=id hn;refine h _ ⟨I.ok,I.os,I.bare,⟨fun b o e n hb hx=>?_,fun b o e n hb hx=>?_,I.base.free,fun b o e hx=>?_,I.base.tups,I.base.frzs,I.base.tbls⟩,⟨_,hn',fun j y v' e1 e2 e3=>?_⟩,fun y c e=>?_,I.free,I.freeC,fun p hp=>?_,tracked ⟨oL,hoL,I.free⟩ hs,by simpa using I.len⟩ ⟨_,hs,.inl rfl⟩
  .exact (hs.2 b (M5 (W1 (Heap.lt_size e) I.ok.above))).trans (I.base.keep b o e n hb hx)
  .obtain ⟨sl,e1⟩:=I.base.slot b o e n hb hx;exact ⟨sl,(hs.2 b (M5 (W1 (Heap.lt_size e) I.ok.above))).trans e1⟩
  .obtain ⟨o',e1⟩:=I.base.there b o e hx;exact ⟨o',(hs.2 b (M5 (W1 (Heap.lt_size e) I.ok.above))).trans e1⟩
  .by_cases hj:j=i
   .subst hj;rw [hi] at e1;cases e1;rw [List.getElem?_set_self hiσ] at e2;cases e2;exact ⟨u,r,.inl ⟨hk,by simp⟩⟩
   .rw [List.getElem?_set_ne (Ne.symm hj)] at e2;obtain ⟨u',r',q⟩:=hl j y v' e1 e2 e3;refine ⟨u',r',?_⟩
    rcases q with ⟨k,e⟩ | ⟨k,c,e,z⟩
    .refine .inl ⟨k,?_⟩
     have:y≠x:=fun e=>hj (ahQ hN e1 (e ▸ hi))
     simp [this,e]
    .exact .inr ⟨k,c,e,z.sameBut hs (cne y c e)⟩
  .obtain ⟨w',z⟩:=I.cell y c e;exact ⟨w',z.sameBut hs (cne y c e)⟩
  .obtain ⟨e,n,ne,nf,d⟩:=I.pin p hp;exact ⟨(hs.2 p.1 ne).trans e,n,ne,nf,d⟩
 .have hfn:X.fn x=true:=by
   rcases hf with z | z
   .exact z
   .rw [z] at hk;cases hk
  obtain ⟨c,hc⟩:=I.ok.has x (.inl hk);obtain ⟨w',z⟩:=I.cell x c hc;refine wpAny_storeName_cell I.ok.kind hk hc z (fun h' bK hs=>?_);obtain ⟨oc,hoc,hocd⟩:=id z;refine h { s with heap:=h' } ⟨I.ok,I.os,I.bare,⟨fun b o e n hb hx=>?_,fun b o e n hb hx=>?_,I.base.free,fun b o e hx=>?_,I.base.tups,I.base.frzs,I.base.tbls⟩,⟨m,hn.sameBut hs (Ne.symm (cne x c hc)),fun j y v' e1 e2 e3=>?_⟩,fun y c' e=>?_,I.free,I.freeC,fun p hp=>?_,tracked ⟨oc,hoc,I.freeC x c hc⟩ hs,by simpa using I.len⟩ ⟨c,hs,.inr hc⟩
  .exact (hs.2 b (M5 (W1 (Heap.lt_size e) (I.ok.cab x c hfn hc)))).trans (I.base.keep b o e n hb hx)
  .obtain ⟨sl,e1⟩:=I.base.slot b o e n hb hx;exact ⟨sl,(hs.2 b (M5 (W1 (Heap.lt_size e) (I.ok.cab x c hfn hc)))).trans e1⟩
  .obtain ⟨o',e1⟩:=I.base.there b o e hx;exact ⟨o',(hs.2 b (M5 (W1 (Heap.lt_size e) (I.ok.cab x c hfn hc)))).trans e1⟩
  .by_cases hj:j=i
   .subst hj;rw [hi] at e1;cases e1;rw [List.getElem?_set_self hiσ] at e2;cases e2;exact ⟨u,r,.inr ⟨.inl hk,c,hc,bK⟩⟩
   .rw [List.getElem?_set_ne (Ne.symm hj)] at e2;obtain ⟨u',r',q⟩:=hl j y v' e1 e2 e3;refine ⟨u',r',?_⟩
    rcases q with q | ⟨k,c',e,z'⟩
    .exact .inl q
    .refine .inr ⟨k,c',e,z'.sameBut hs ?_⟩;rintro rfl;exact hj (ahQ hN e1 (I.ok.inj _ _ _ e hc ▸ hi))
  .by_cases hcc:c'=c
   .subst hcc;exact ⟨_,bK⟩
   .obtain ⟨w2,z2⟩:=I.cell y c' e;exact ⟨w2,z2.sameBut hs hcc⟩
  .obtain ⟨e,n,ne,nf,d⟩:=I.pin p hp;refine ⟨(hs.2 p.1 ?_).trans e,n,ne,nf,d⟩;intro q;rw [q,hoc] at e;have q':oc=p.2:=Option.some.inj e;exact d w' (by rw [<- q'];exact hocd)
theorem qR{M:Model}{A:Around}{E:Value->Shared->Prop}{i:Nat}{x:Str}{v:V}{u:Value}{Q:Unit->Shared->Prop}(I:Inv X pins Y H s)(hN:X.N.Nodup)(hi:X.N[i]?=some x)(hx:v9 X.env.scope x)(r:RelV v u)(h:∀ s',Inv X pins (Y.set i (some v)) H s'->Q () s')(hf:X.fn x=true\/X.env.scope.names.lookup x=some .local:=by first | exact .inl rfl | exact .inr rfl | assumption):wpAny M A (storeName X.env x u) Q E s:=
 ajn I hN hi hx r (fun s' I' _=>h s' I') hf
theorem Inv.call'{s':Shared}{ch:List Addr}(I:Inv X pins Y H s)(ho:s'.os=s.os)(u:Un (v8 X.stack) ch H H' s.heap s'.heap)(hok:N4 X.prog X.w H' s'.heap)(hg:AllBare s'.gens)(bJ:∀ b∈ch,(b∈X.ex\/X.s₀.heap.objs.size<=b)/\b≠X.env.locals/\(∀ x c,X.env.cells.lookup x=some c->c≠b)/\∀ p∈X.pn++pins,p.1≠b):Inv X pins Y H' s':=by
 obtain ⟨h',g',d',t',o'⟩:=s';have e:o'=s.os:=ho;subst e;exact I.call (g':=g') (t':=t') (d':=d') u hok hg bJ
end
noncomputable abbrev XK:=Value->Option Addr->Hp->Prop
noncomputable abbrev St:=List (Option V)
noncomputable abbrev VK:=V->Hp->Prop
noncomputable abbrev TE:=St->Hp->VK->Prop
noncomputable abbrev TT:=St->Hp->(Bool->Hp->Prop)->Prop
noncomputable abbrev TA:=St->Hp->(List V->Hp->Prop)->Prop
structure Ends where
 nx:St->Hp->Prop
 rt:VK
 bk:St->Hp->Prop:=fun _ _=>False
 ct:St->Hp->Prop:=fun _ _=>False
noncomputable abbrev TS:=Ends->St->Hp->Prop
noncomputable def EP (X:Cx) (pins:List 'l') (Y:St) (Q:VK) (u:Value) (s':Shared):Prop:=∃ v H',Inv X pins Y H' s'/\RelV v u/\Q v H'
noncomputable def TP (X:Cx) (pins:List 'l') (Y:St) (Q:Bool->Hp->Prop) (b:Bool) (s':Shared):Prop:=∃ H',Inv X pins Y H' s'/\Q b H'
noncomputable def AP (X:Cx) (pins:List 'l') (Y:St) (Q:List V->Hp->Prop) (us:List Value) (s':Shared):Prop:=∃ vs H',Inv X pins Y H' s'/\Vals vs us/\Q vs H'
noncomputable def SP (X:Cx) (pins:List 'l') (D:Ends) (f:Flow) (s':Shared):Prop:=
 match f with
 | .next=>∃ σ' H',Inv X pins σ' H' s'/\D.nx σ' H'
 | .brk=>∃ σ' H',Inv X pins σ' H' s'/\D.bk σ' H'
 | .cont=>∃ σ' H',Inv X pins σ' H' s'/\D.ct σ' H'
 | .ret u=>∃ v σ' H',Inv X pins σ' H' s'/\RelV v u/\D.rt v H'
noncomputable def PE (X:Cx) (e:Expr) (t:TE):Prop:=
 ∀ (pins:List 'l') (s:Shared) (Y:St) (H:Hp) (Q:VK),Inv X pins Y H s->t Y H Q->wpAny 'b' X.A (eval e X.env) (EP X pins Y Q) X.xe s
noncomputable def PT (X:Cx) (e:Expr) (t:TT):Prop:=
 ∀ (pins:List 'l') (s:Shared) (Y:St) (H:Hp) (Q:Bool->Hp->Prop),Inv X pins Y H s->t Y H Q->wpAny 'b' X.A (isTrue e X.env (eval e X.env)) (TP X pins Y Q) X.xe s
noncomputable def PW (X:Cx) (e:Expr) (t:TT):Prop:=
 ∀ (whole:Sem Value) (pins:List 'l') (s:Shared) (Y:St) (H:Hp) (Q:Bool->Hp->Prop),Inv X pins Y H s->t Y H Q->wpAny 'b' X.A (isTrue e X.env whole) (TP X pins Y Q) X.xe s
theorem PW.pt{X:Cx}{e:Expr}{t:TT}(h:PW X e t):PT X e t:=h _
noncomputable def PA (X:Cx) (es:List Expr) (t:TA):Prop:=
 ∀ (pos:Pos) (pins:List 'l') (s:Shared) (Y:St) (H:Hp) (Q:List V->Hp->Prop),Inv X pins Y H s->t Y H Q->wpAny 'b' X.A (spliced (backTo pos (starEach es X.env))) (AP X pins Y Q) X.xe s
noncomputable def PS (X:Cx) (st:Stmt) (t:TS):Prop:=
 ∀ (pins:List 'l') (s:Shared) (Y:St) (H:Hp) (D:Ends),Inv X pins Y H s->t D Y H->wpAny 'b' X.A (exec st X.env) (SP X pins D) X.xe s
noncomputable def Z3 (X:Cx) (st:List Stmt) (t:TS):Prop:=
 ∀ (pins:List 'l') (s:Shared) (Y:St) (H:Hp) (D:Ends),Inv X pins Y H s->t D Y H->wpAny 'b' X.A (execs st X.env) (SP X pins D) X.xe s
theorem B1{α:Type}{t:Sem α}{Q Q':α->Shared->Prop}{M:Model}{A:Around}{E:Value->Shared->Prop}{s:Shared}(h:wpAny M A t Q E s)(hQ:∀ a s,Q a s->Q' a s):wpAny M A t Q' E s:=wpAny_mono h hQ fun _ _ x=>x
section
variable {X:Cx}
noncomputable def tVar (i:Nat):TE:=fun Y H Q=>∃ v,Y[i]?=some (some v)/\Q v H
noncomputable def tC (v:V):TE:=fun _ H Q=>Q v H
theorem amR{i:Nat}{x:Str}{pos:Pos}(hN:X.N[i]?=some x)(hv:nG X.env.scope x)(hd:(x=='o')=false:=by decide)(u8:(x==("__classdict__" : Str))=false:=by decide):PE X (.Name x pos) (tVar i):=by
 sleep 1;obtain ⟨v,e,h⟩:=h;obtain ⟨m,hn,hl⟩:=I.loc;obtain ⟨u,r,l⟩:=hl i x v hN e hv;have fin:EP X pins Y Q u s:=⟨v,H,I,r,h⟩
 rcases l with ⟨hk,hm⟩ | ⟨hk,c,hc,N0⟩
 .exact wpAny_Name (wpAny_loadName_local I.ok.kind hk hn hm fin) hd
 .rcases hk with hk | hk
  .exact wpAny_Name (wpAny_loadName_cell I.ok.kind hk hc N0 fin) hd
  .exact wpAny_Name (wpAny_loadName_free I.ok.kind hk hc N0 fin u8) hd
theorem amS{i j pos} : PE X (.Constant (.int i) j pos) (tC (.int i)):=fun _ _ _ H _ I h=>wpAny_Constant_int ⟨.int i,H,I.tok _,⟨_,rfl⟩,h⟩
theorem pe_bl{b j pos} : PE X (.Constant (.bool b) j pos) (tC (.bl b)):=fun _ _ _ H _ I h=>Constant_bool ⟨.bl b,H,I,rfl,h⟩
theorem aqj{j pos} : PE X (.Constant .none j pos) (tC .non):=fun _ _ _ H _ I h=>Constant_none ⟨.non,H,I,rfl,h⟩
theorem aqk{x j pos} : PE X (.Constant (.str x) j pos) (tC (.str x)):=fun _ _ _ H _ I h=>Calls.Constant_str ⟨.str x,H,I.tok _,⟨_,rfl⟩,h⟩
noncomputable def Gl (X:Cx) (x:Str):Prop:=X.env.kindOf x=some .globalImplicit
theorem uV{E:Value->Shared->Prop}{pins:List 'l'}{s:Shared}{Y:St}{H:Hp}{x:Str}{u:Value}{pos:Pos}{Q:Value->Shared->Prop}(I:Inv X pins Y H s)(hg:Gl X x)(hm:X.mg x=some u)(h:Q u s)(hd:(x=='o')=false:=by decide):wpAny 'b' X.A (eval (.Name x pos) X.env) Q E s:=
 Calls.Name_function_global I.ok.kind hg (Calls.loadGlobal_global (by rw [I.ok.glob];exact I.mod.glob.keeps I.bk) hm h) hd
theorem aN{E:Value->Shared->Prop}{pins:List 'l'}{s:Shared}{Y:St}{H:Hp}{x:Str}{u:Value}{pos:Pos}{Q:Value->Shared->Prop}(I:Inv X pins Y H s)(hg:Gl X x)(hm:X.mg x=none)(hv:bootBuiltins x=some u)(h:Q u s)(hn:x≠"__name__":=by decide)(hd:(x=='o')=false:=by decide):wpAny 'b' X.A (eval (.Name x pos) X.env) Q E s:=by
 obtain ⟨mb,h1,h2⟩:=I.mod.blt;exact Calls.Name_function_global I.ok.kind hg (Calls.loadGlobal_builtin (by rw [I.ok.glob];exact I.mod.glob.keeps I.bk) hm (by rw [I.ok.blt];exact h1.keeps I.bk) ((h2 x hn).trans hv) h) hd
theorem ajo{x:Str}{v:V}{u:Value}{pos:Pos}(hg:Gl X x)(hm:X.mg x=some u)(r:RelV v u)(hd:(x=='o')=false:=by decide):PE X (.Name x pos) (tC v):=
 fun _ _ _ H _ I h=>uV I hg hm ⟨v,H,I,r,h⟩ hd
theorem anA{x:Str}{v:V}{u:Value}{pos:Pos}(hg:Gl X x)(hm:X.mg x=none)(hv:bootBuiltins x=some u)(r:RelV v u)(hn:x≠"__name__":=by decide)(hd:(x=='o')=false:=by decide):PE X (.Name x pos) (tC v):=
 fun _ _ _ H _ I h=>aN I hg hm hv ⟨v,H,I,r,h⟩ hn hd
variable {a b:Expr} {ta tb:TE} {pos:Pos}
noncomputable def tB (t:TE):TT:=fun Y H Q=>t Y H fun x H1=>∃ c,x=.bl c/\Q c H1
variable {tA tB':TT} {rest:List Expr}
noncomputable def tAnd (t u:TT):TT:=fun Y H Q=>t Y H fun c H1=>if c=true then u Y H1 Q else Q false H1
noncomputable def uW (t u:TT):TT:=fun Y H Q=>t Y H fun c H1=>if c=true then Q true H1 else u Y H1 Q
noncomputable def tNot (t:TT):TT:=fun Y H Q=>t Y H fun c H1=>Q (!c) H1
theorem anB(ha:PT X a tA):PW X (.BoolOp .And [a] pos) tA:=by
 intro wh pins s Y H Q I h;refine isTrue_and (B1 (ha pins s Y H Q I h) fun c s1 e=>?_)
 cases c with
 | true=>exact isTrue_and_nil e
 | false=>exact e
theorem aql(ha:PT X a tA):PW X (.BoolOp .Or [a] pos) tA:=by
 intro wh pins s Y H Q I h;refine isTrue_or (B1 (ha pins s Y H Q I h) fun c s1 e=>?_)
 cases c with
 | false=>exact isTrue_or_nil e
 | true=>exact e
theorem aqm(ha:PT X a tA)(hb:PW X (.BoolOp .And (b::rest) pos) tB'):PW X (.BoolOp .And (a::b::rest) pos) (tAnd tA tB'):=by
 intro wh pins s Y H Q I h;refine isTrue_and (B1 (ha pins s Y H _ I h) fun c s1 ⟨H1,I1,q1⟩=>?_)
 cases c with
 | true=>exact hb wh pins s1 Y H1 Q I1 q1
 | false=>exact ⟨H1,I1,q1⟩
theorem pw_or(ha:PT X a tA)(hb:PW X (.BoolOp .Or (b::rest) pos) tB'):PW X (.BoolOp .Or (a::b::rest) pos) (uW tA tB'):=by
 intro wh pins s Y H Q I h;refine isTrue_or (B1 (ha pins s Y H _ I h) fun c s1 ⟨H1,I1,q1⟩=>?_)
 cases c with
 | true=>exact ⟨H1,I1,q1⟩
 | false=>exact hb wh pins s1 Y H1 Q I1 q1
theorem aqn(ha:PT X a tA):PT X (.UnaryOp .Not a pos) (tNot tA):=by
 sleep 1;exact isTrue_not (ha pins s Y H (fun c H1=>Q (!c) H1) I h)
noncomputable def tAndV (ta tb:TE):TE:=fun Y H Q=>ta Y H fun x H1=>∃ c,x=.bl c/\if c=true then tb Y H1 Q else Q (.bl false) H1
noncomputable def tOrV (ta tb:TE):TE:=fun Y H Q=>ta Y H fun x H1=>∃ c,x=.bl c/\if c=true then Q (.bl true) H1 else tb Y H1 Q
noncomputable def tNotV (ta:TE):TE:=fun Y H Q=>ta Y H fun x H1=>∃ c,x=.bl c/\Q (.bl (!c)) H1
theorem aqo{op}{t:TE}(h:PE X a t):PE X (.BoolOp op [a] pos) t:=fun pins s Y H Q I hw=>BoolOp_one (h pins s Y H Q I hw)
theorem aqp(ha:PE X a ta)(hb:PE X (.BoolOp .And (b::rest) pos) tb):PE X (.BoolOp .And (a::b::rest) pos) (tAndV ta tb):=by
 sleep 1;refine BoolOp_and (B1 (ha pins s Y H _ I h) fun v s1 ⟨x,H1,I1,r1,q1⟩=>?_);obtain ⟨c,rfl,q1⟩:=q1
 cases r1
 refine wpAny_truthy_bool ?_
 cases c with
 | true=>exact hb pins s1 Y H1 Q I1 q1
 | false=>exact ⟨.bl false,H1,I1,rfl,q1⟩
noncomputable def uX (t:TT) (ta tb:TE):TE:=fun Y H Q=>t Y H fun c H1=>if c=true then ta Y H1 Q else tb Y H1 Q
theorem alk{c:Expr}(hc:PT X c tA)(ha:PE X a ta)(hb:PE X b tb):PE X (.IfExp c a b pos) (uX tA ta tb):=by
 sleep 1;refine wpAny_IfExp (B1 (hc pins s Y H _ I h) fun d s1 ⟨H1,I1,q1⟩=>?_)
 cases d with
 | true=>exact ha pins s1 Y H1 Q I1 q1
 | false=>exact hb pins s1 Y H1 Q I1 q1
end
noncomputable def D1 (K:PySem.W.Frag) (H:Hp) (a:Addr) (xs:List V):Prop:=
 Rd H a (.lst xs)\/
  ∃ (o:Obj) (its:Array Value) (n:Nat),K.lookup a=some o/\o.cls=.type "list"/\o.dict=none/\o.data=.seq its n/\its.size<=sizeLine/\Vals xs its.toList
noncomputable def A8 (K:PySem.W.Frag) (H:Hp) (a:Addr) (xs:List V):Prop:=
 Rd H a (.tup xs)\/
  ∃ (o:Obj) (its:Array Value) (n:Nat),K.lookup a=some o/\o.cls=.type "tuple"/\o.data=.seq its n/\its.size<=sizeLine/\Vals xs its.toList
noncomputable def absV:Value->Option V
 | .none=>some .non
 | .bool b=>some (.bl b)
 | .int i _=>some (.int i)
 | .str x _=>some (.str x)
 | .bytes b _=>some (.byt b)
 | .float b _=>some (.flt b)
 | .ref a=>some (.ref a)
 | .type n=>some (.ty n)
 | _=>none
theorem RelV.abs{x:V}{u:Value}(r:RelV x u):absV u=some x:=by
 cases x with
 | non=>cases r;rfl
 | bl _=>cases r;rfl
 | int _=>obtain ⟨t,rfl⟩:=r;rfl
 | str _=>obtain ⟨t,rfl⟩:=r;rfl
 | byt _=>obtain ⟨t,rfl⟩:=r;rfl
 | flt _=>obtain ⟨t,rfl⟩:=r;rfl
 | ref _=>cases r;rfl
 | ty _=>cases r;rfl
theorem RelV.inj{x y:V}{u:Value}(r:RelV x u)(q:RelV y u):x=y:=Option.some.inj (r.abs.symm.trans q.abs)
theorem Vals.inj:∀ {xs ys:List V} {us:List Value},Vals xs us->Vals ys us->xs=ys
 | _,_,_,.nil,.nil=>rfl
 | _,_,_,.cons r t,.cons r' t'=>by rw [r.inj r',Vals.inj t t']
section
variable {X:Cx} {pins:List (Addr×Obj)} {Y:St} {H:Hp} {s:Shared} {a:Addr} {xs ys:List V}
theorem D1.of{K:PySem.W.Frag}(h:H a=some (.lst xs)):D1 K H a xs:=.inl (.inl h)
theorem A8.of{K:PySem.W.Frag}(h:H a=some (.tup xs)):A8 K H a xs:=.inl (.inl h)
theorem Inv.list(I:Inv X pins Y H s)(h:D1 X.K H a xs):∃ its:List Value,Vals xs its/\PlainL s.heap a its.toArray/\xs.length<=sizeLine:=by
 rcases h with h | ⟨o,its,n,hk,hc,hd,hs,hz,r⟩
 .obtain ⟨z,its,n,r,e⟩:=h.ok I.hok;exact ⟨its,r,⟨_,n,e,rfl,rfl,rfl⟩,z⟩
 .refine ⟨its.toList,r,⟨o,n,I.kIn a o hk,hc,hd,by simpa using hs⟩,?_⟩;have e:=r.length;simp only [eP] at e;lia
theorem Inv.tuple(I:Inv X pins Y H s)(h:A8 X.K H a xs):∃ its:List Value,Vals xs its/\IsTup s.heap a its.toArray/\xs.length<=sizeLine:=by
 rcases h with h | ⟨o,its,n,hk,hc,hs,hz,r⟩
 .obtain ⟨z,its,r,p⟩:=h.ok I.hok;exact ⟨its,r,p,z⟩
 .refine ⟨its.toList,r,⟨o,I.kIn a o hk,hc,n,by simpa using hs⟩,?_⟩;have e:=r.length;simp only [eP] at e;lia
theorem Inv.list_inj(I:Inv X pins Y H s)(h:D1 X.K H a xs)(h':D1 X.K H a ys):xs=ys:=by
 obtain ⟨its,r,⟨o,n,e,_,_,d⟩,_⟩:=I.list h;obtain ⟨its',r',⟨o',n',e',_,_,d'⟩,_⟩:=I.list h';rw [e] at e';cases e';rw [d] at d'
 injection d' with d1 _
 have:its=its':=by simpa using congrArg Array.toList d1
 subst this;exact r.inj r'
theorem Inv.tuple_inj(I:Inv X pins Y H s)(h:A8 X.K H a xs)(h':A8 X.K H a ys):xs=ys:=by
 obtain ⟨its,r,⟨o,e,_,n,d⟩,_⟩:=I.tuple h;obtain ⟨its',r',⟨o',e',_,n',d'⟩,_⟩:=I.tuple h';rw [e] at e';cases e';rw [d] at d'
 injection d' with d1 _
 have:its=its':=by simpa using congrArg Array.toList d1
 subst this;exact r.inj r'
end
noncomputable abbrev Cx.wish (X:Cx) (E:Value->Shared->Prop):Cx:={ X with xe:=E }
noncomputable abbrev Cx.nox (X:Cx):Cx:=X.wish fun _ _=>False
theorem Cx.Ok.wish{X:Cx}(ok:X.Ok)(E:Value->Shared->Prop):(X.wish E).Ok:=
 ⟨ok.mod,ok.kind,ok.glob,ok.blt,ok.above,ok.inj,ok.has,ok.cab,ok.hd,ok.frames,ok.stk,ok.exf,ok.bs,ok.bsz,ok.noex,ok.exfs,ok.funs,ok.frf⟩
theorem Cx.Ok.unwish{X:Cx}{E:Value->Shared->Prop}(ok:(X.wish E).Ok):X.Ok:=
 ⟨ok.mod,ok.kind,ok.glob,ok.blt,ok.above,ok.inj,ok.has,ok.cab,ok.hd,ok.frames,ok.stk,ok.exf,ok.bs,ok.bsz,ok.noex,ok.exfs,ok.funs,ok.frf⟩
section
variable {X:Cx} {pins:List (Addr×Obj)} {Y:St} {H:Hp} {s:Shared} {E:Value->Shared->Prop}
theorem Inv.wish(I:Inv X pins Y H s)(E:Value->Shared->Prop):Inv (X.wish E) pins Y H s:=⟨I.ok.wish E,I.os,I.bare,I.base,I.loc,I.cell,I.free,I.freeC,I.pin,I.hok,I.len⟩
theorem Inv.unwish(I:Inv (X.wish E) pins Y H s):Inv X pins Y H s:=⟨I.ok.unwish,I.os,I.bare,I.base,I.loc,I.cell,I.free,I.freeC,I.pin,I.hok,I.len⟩
theorem SP.unwish{D:Ends}{f:Flow}{s':Shared}(h:SP (X.wish E) pins D f s'):SP X pins D f s':=by
 cases f with
 | next=>obtain ⟨σ',H',I,q⟩:=h;exact ⟨σ',H',I.unwish,q⟩
 | brk=>obtain ⟨σ',H',I,q⟩:=h;exact ⟨σ',H',I.unwish,q⟩
 | cont=>obtain ⟨σ',H',I,q⟩:=h;exact ⟨σ',H',I.unwish,q⟩
 | ret u=>obtain ⟨v,σ',H',I,r,q⟩:=h;exact ⟨v,σ',H',I.unwish,r,q⟩
theorem Z3.nox{st:List Stmt}{t:TS}(h:Z3 X.nox st t):Z3 X st t:=fun pins s Y H D I hw=>
 wpAny_mono (h pins s Y H D (I.wish _) hw) (fun _ _ q=>q.unwish) fun _ _ z=>False.elim z
end
section
variable {X:Cx} {st:Stmt} {rest:List Stmt} {t u:TS} {e:Expr} {te:TE} {pos:Pos}
noncomputable def tNext:TS:=fun D Y H=>D.nx Y H
noncomputable def tSeq (t u:TS):TS:=fun D Y H=>t { D with nx:=u D } Y H
theorem anC:Z3 X [] tNext:=fun _ _ Y H _ I h=>wpAny_execs_nil ⟨Y,H,I,h⟩
theorem alm(h1:PS X st t)(h2:Z3 X rest u):Z3 X (st::rest) (tSeq t u):=by
 intro pins s Y H D I h;refine wpAny_execs_cons (B1 (h1 pins s Y H { D with nx:=u D } I h) fun f s1 q=>?_)
 cases f with
 | next=>
  obtain ⟨σ',H',I',q⟩:=q;exact h2 pins s1 σ' H' D I' q
 | ret v=>exact q
 | brk=>exact q
 | cont=>exact q
theorem anD(h1:PS X st t):Z3 X [st] t:=by
 intro pins s Y H D I h;refine wpAny_execs_cons (B1 (h1 pins s Y H D I h) fun f s1 q=>?_)
 cases f with
 | next=>exact wpAny_execs_nil q
 | ret v=>exact q
 | brk=>exact q
 | cont=>exact q
noncomputable def aqq:TS:=fun D Y H=>D.bk Y H
noncomputable def tCont:TS:=fun D Y H=>D.ct Y H
theorem Inv.quiet{pins:List 'l'}{Y:St}{H:Hp}{s:Shared}(I:Inv X pins Y H s):interactive X.env=false:=by simp [interactive,I.ok.kind]
noncomputable def tDrop (te:TE):TS:=fun D Y H=>te Y H fun _ H1=>D.nx Y H1
theorem anE(he:PE X e te)(hs:swapsWith e none pos.line X.env=pure false:=by rfl):PS X (.Expr e pos) (tDrop te):=by
 intro pins s Y H D I h;exact wpAny_Expr_any (B1 (he pins s Y H _ I h) fun v s1 ⟨x,H1,I1,r1,q1⟩=>⟨Y,H1,I1,q1⟩) I.quiet hs
noncomputable def tRet (te:TE):TS:=fun D Y H=>te Y H D.rt
theorem aqr(he:PE X e te):PS X (.Return (some e) pos) (tRet te):=by
 intro pins s Y H D I h;exact wpAny_Return_some (B1 (he pins s Y H _ I h) fun v s1 ⟨x,H1,I1,r1,q1⟩=>⟨x,Y,H1,I1,r1,q1⟩)
noncomputable def tRetN:TS:=fun D _ H=>D.rt .non H
noncomputable def tIfS (c:TT) (t u:TS):TS:=fun D Y H=>c Y H fun b H1=>if b=true then t D Y H1 else u D Y H1
theorem ps_if{c:Expr}{a b:List Stmt}{tc:TT}(hc:PT X c tc)(ha:Z3 X a t)(hb:Z3 X b u):PS X (.If c a b pos) (tIfS tc t u):=by
 intro pins s Y H D I h;refine wpAny_If (B1 (hc pins s Y H _ I h) fun d s1 ⟨H1,I1,q1⟩=>?_)
 cases d with
 | true=>exact ha pins s1 Y H1 D I1 q1
 | false=>exact hb pins s1 Y H1 D I1 q1
noncomputable def uY:TS:=fun _ _ _=>False
theorem aln:PS X st uY:=fun _ _ _ _ _ _ h=>h.elim
end
noncomputable abbrev TG:=V->St->Hp->(St->Hp->Prop)->Prop
noncomputable abbrev o9:=List V->St->Hp->(St->Hp->Prop)->Prop
noncomputable def PG (X:Cx) (target:Expr) (t:TG):Prop:=
 ∀ (pins:List 'l') (s:Shared) (Y:St) (H:Hp) (v:V) (u:Value) (Q:St->Hp->Prop),Inv X pins Y H s->RelV v u->t v Y H Q->
  wpAny 'b' X.A (assign target X.env u) (fun _ s'=>∃ σ' H',Inv X pins σ' H' s'/\Q σ' H') X.xe s
noncomputable def nH (X:Cx) (ts:List Expr) (t:o9):Prop:=
 ∀ (pins:List 'l') (s:Shared) (Y:St) (H:Hp) (vs:List V) (us:List Value) (Q:St->Hp->Prop),Inv X pins Y H s->Vals vs us->t vs Y H Q->
  wpAny 'b' X.A (assignInOrder ((assignEach ts X.env).map (·.2)) us) (fun _ s'=>∃ σ' H',Inv X pins σ' H' s'/\Q σ' H') X.xe s
noncomputable abbrev TSet:=V->V->V->Hp->(Hp->Prop)->Prop
noncomputable def PSet (X:Cx) (t:TSet):Prop:=
 ∀ (pins:List 'l') (s:Shared) (Y:St) (H:Hp) (o i v:V) (ov iv u:Value) (Q:Hp->Prop),Inv X pins Y H s->RelV o ov->RelV i iv->RelV v u->t o i v H Q->
  wpAny 'b' X.A (setItem ov iv u) (fun _ s'=>∃ H',Inv X pins Y H' s'/\Q H') X.xe s
noncomputable abbrev gQ:=V->V->Hp->VK->Prop
noncomputable def uZ (X:Cx) (op:Operator) (t:gQ):Prop:=
 ∀ (pins:List 'l') (s:Shared) (Y:St) (H:Hp) (x y:V) (v u:Value) (Q:VK),Inv X pins Y H s->RelV x v->RelV y u->t x y H Q->
  wpAny 'b' X.A (inplaceOp op v u) (EP X pins Y Q) X.xe s
section
variable {X:Cx} {pos:Pos}
noncomputable def gName (i:Nat):TG:=fun v Y H Q=>Q (Y.set i (some v)) H
theorem anF{i:Nat}{x:Str}(hN:X.N.Nodup)(hi:X.N[i]?=some x)(hx:v9 X.env.scope x)(hf:X.fn x=true\/X.env.scope.names.lookup x=some .local:=by first | exact .inl rfl | exact .inr rfl | assumption):PG X (.Name x pos) (gName i):=by
 intro pins s Y H v u Q I r h;exact wpAny_assign_Name (qR I hN hi hx r (fun s' I'=>⟨_,H,I',h⟩) hf)
noncomputable def gNil:o9:=fun vs Y H Q=>vs=[]/\Q Y H
noncomputable def gCons (t:TG) (u:o9):o9:=fun vs Y H Q=>∃ v r,vs=v::r/\t v Y H fun σ' H'=>u r σ' H' Q
theorem anG:nH X [] gNil:=by
 intro pins s Y H vs us Q I r h;obtain ⟨e,h⟩:=h;subst e
 cases r
 exact assignInOrder_nil ⟨Y,H,I,h⟩
theorem alo{e:Expr}{es:List Expr}{t:TG}{u:o9}(h1:PG X e t)(h2:nH X es u)(hs:(assignEach (e::es) X.env).map (·.2)=assign e X.env::(assignEach es X.env).map (·.2):=by rfl):nH X (e::es) (gCons t u):=by
 intro pins s Y H vs us Q I r h;obtain ⟨v,vr,e1,h⟩:=h;subst e1
 cases r with
 | cons r rr=>
  rw [hs];refine assignInOrder_cons (B1 (h1 pins s Y H _ _ _ I r h) fun _ s1 ⟨σ1,H1,I1,q1⟩=>?_);exact h2 pins s1 σ1 H1 _ _ Q I1 rr q1
noncomputable def gTup (K:PySem.W.Frag) (n:Nat) (t:o9):TG:=fun v Y H Q=>∃ a xs,v=.ref a/\A8 K H a xs/\xs.length=n/\t xs Y H Q
theorem aqs{es:List Expr}{k:Nat}{t:o9}{n:Nat}(hc:X.calm=true)(h:nH X es t)(hn:(assignEach es X.env).length=n:=by rfl)(Z8:(assignEach es X.env).findIdx? (·.1)=none:=by rfl):PG X (.Tuple es k pos) (gTup X.K n t):=by
 intro pins s Y H v u Q I r hw;obtain ⟨a,xs,e1,hq,hl,hw⟩:=hw;subst e1
 cases r
 obtain ⟨its,rv,ht,hz⟩:=I.tuple hq;refine assign_Tuple_tuple (I.ok.hd hc) ht (by simp [hn,<- hl,rv.length]) Z8 fun h' hx=>?_
 have I1:Inv X pins Y H { s with heap:=h' }:=I.kept (t':=s.toks) fun b o e=>hx b o (M5 (Heap.lt_size e)) e
 exact h pins _ Y H xs _ Q I1 (by simpa using rv) hw
noncomputable def gSub (to ti:TE) (t:TSet):TG:=fun v Y H Q=>to Y H fun o H1=>ti Y H1 fun i H2=>t o i v H2 fun H3=>Q Y H3
theorem aqt{o i:Expr}{to ti:TE}{t:TSet}(ho:PE X o to)(hi:PE X i ti)(hs:PSet X t)(ha:∀ v,assign (.Subscript o i pos) X.env v=(do
   let ov <- holding [v] (eval o X.env)
   let iv <- holding [v,ov] (eval i X.env)
   standAt pos
   holding [v,ov,iv] (setItem ov iv v)
   release [v,ov,iv] []):=by intro _;rfl):PG X (.Subscript o i pos) (gSub to ti t):=by
 intro pins s Y H v u Q I r h;rw [ha];refine wpAny_bind (wpAny_holding (B1 (ho pins s Y H _ I h) fun ov s1 ⟨x,H1,I1,r1,q1⟩=>?_));refine wpAny_bind (wpAny_holding (B1 (hi pins s1 Y H1 _ I1 q1) fun iv s2 ⟨y,H2,I2,r2,q2⟩=>?_));refine wpAny_bind (wpAny_standAt (wpAny_bind (wpAny_holding (B1 (hs pins s2 Y H2 x y v ov iv u _ I2 r1 r2 r q2) fun _ s3 ⟨H3,I3,q3⟩=>?_))));exact wpAny_release ⟨Y,H3,I3,q3⟩
noncomputable def tAsg (te:TE) (g:TG):TS:=fun D Y H=>te Y H fun x H1=>g x Y H1 D.nx
theorem aqu{tg e:Expr}{te:TE}{g:TG}(he:PE X e te)(hg:PG X tg g)(hs:swapsWithSole [tg] e pos.line X.env=pure false:=by rfl)(hw:swappedStores [tg] e X.env=pure none:=by rfl)(h1:(assignEach [tg] X.env).map (·.2)=[assign tg X.env]:=by rfl):PS X (.Assign [tg] e pos) (tAsg te g):=by
 intro pins s Y H D I h;refine wpAny_Assign_stores (B1 (he pins s Y H _ I h) fun v s1 ⟨x,H1,I1,r1,q1⟩=>?_) hs hw;rw [h1];exact B1 (hg pins s1 Y H1 x v _ I1 r1 q1) fun _ s2 q=>q
theorem aqv{i:Nat}{x:Str}{e:Expr}{te:TE}{pos':Pos}(hN:X.N.Nodup)(hi:X.N[i]?=some x)(hx:v9 X.env.scope x)(he:PE X e te)(hs:swapsWith e (some (.Name x pos')) pos.line X.env=pure false:=by rfl)(hf:X.fn x=true\/X.env.scope.names.lookup x=some .local:=by first | exact .inl rfl | exact .inr rfl | assumption) :
  PS X (.Assign [.Name x pos'] e pos) (tAsg te (gName i)):=by
 intro pins s Y H D I h;refine wpAny_Assign_Name (B1 (he pins s Y H _ I h) fun v s1 ⟨y,H1,I1,r1,q1⟩=>?_) hs;exact qR I1 hN hi hx r1 (fun s2 I2=>⟨_,H1,I2,q1⟩) hf
noncomputable def tAug (i:Nat) (te:TE) (ti:gQ):TS:=fun D Y H=>∃ x,Y[i]?=some (some x)/\te Y H fun y H1=>ti x y H1 fun z H2=>D.nx (Y.set i (some z)) H2
theorem aqw{i:Nat}{x:Str}{e:Expr}{te:TE}{op:Operator}{ti:gQ}{pos':Pos}(hN:X.N.Nodup)(hi:X.N[i]?=some x)(hx:v9 X.env.scope x)(he:PE X e te)(ho:uZ X op ti)(hf:X.fn x=true\/X.env.scope.names.lookup x=some .local:=by first | exact .inl rfl | exact .inr rfl | assumption) :
  PS X (.AugAssign (.Name x pos') op e pos) (tAug i te ti):=by
 intro pins s Y H D I h;obtain ⟨v,e1,h⟩:=h;obtain ⟨m,hn,hl⟩:=I.loc;have vis:nG X.env.scope x:=by rcases hx with k | k;exact .inl k;exact .inr (.inl k)
 obtain ⟨u,r,l⟩:=hl i x v hi e1 vis;refine wpAny_AugAssign_Name ?_;have go:wpAny 'b' X.A (eval e X.env) (fun w zx=>wpAny 'b' X.A (inplaceOp op u w) (fun r zw=>wpAny 'b' X.A (storeName X.env x r) (fun _=>SP X pins D .next) X.xe zw) X.xe zx) X.xe s:=by
  refine B1 (he pins s Y H _ I h) fun w s1 ⟨y,H1,I1,r1,q1⟩=>?_
  refine B1 (ho pins s1 Y H1 v y u w _ I1 r r1 q1) fun z s2 ⟨zv,H2,I2,r2,q2⟩=>?_
  exact qR I2 hN hi hx r2 (fun s3 I3=>⟨_,H2,I3,q2⟩) hf
 rcases l with ⟨hk,hm⟩ | ⟨hk,c,hc,N0⟩
 .exact wpAny_loadName_local I.ok.kind hk hn hm go
 .rcases hk with hk | hk
  .exact wpAny_loadName_cell I.ok.kind hk hc N0 go
  .rcases hx with k | k
   .have:X.env.scope.names.lookup x=some .free:=hk
    rw [k] at this;cases this
   .have:X.env.scope.names.lookup x=some .free:=hk
    rw [k] at this;cases this
noncomputable def vA (f:Int->Int->Int):gQ:=fun x y H Q=>∃ i j,x=.int i/\y=.int j/\Q (.int (f i j)) H
theorem aqx:uZ X .Add (vA fun i j=>i+j):=by
 intro pins s Y H x y v u Q I r1 r2 h;obtain ⟨i,j,e1,e2,q⟩:=h;subst e1;subst e2;obtain ⟨t,rfl⟩:=r1;obtain ⟨t',rfl⟩:=r2;exact iadd_int ⟨.int _,H,I.tok _,⟨_,rfl⟩,q⟩
end
section
variable {X:Cx} {pos:Pos}
noncomputable def qS (c:TT) (tb:TS):TS:=fun D Y H=>∃ W:Nat->St->Hp->Prop,(∃ m,W m Y H)/\∀ m Y H,W m Y H->
 c Y H fun b H1=>if b=true then ∃ N:St->Hp->Prop,(∀ σ' H',N σ' H'->∃ m',m'<m/\W m' σ' H')/\tb { D with nx:=N,ct:=N,bk:=D.nx } Y H1 else D.nx Y H1
theorem alp{c:Expr}{body:List Stmt}{tc:TT}{tb:TS}(hp:PassesOwn 'b' X.A X.env X.xe)(hc:PT X c tc)(hb:Z3 X body tb):PS X (.While c body [] pos) (qS tc tb):=by
 intro pins s Y H D I h;obtain ⟨W,⟨m0,w0⟩,turn⟩:=h;refine wpAny_While (codeAny_whileLoop (fun n s'=>∃ σ' H',Inv X pins σ' H' s'/\W n σ' H') ?_ m0 ⟨Y,H,I,w0⟩);rintro n s1 ⟨σ1,H1,I1,w1⟩;refine wpAny_passesOwn hp (B1 (hc pins s1 σ1 H1 _ I1 (turn n σ1 H1 w1)) fun b s2 ⟨H2,I2,q2⟩=>?_)
 cases b with
 | true=>
  obtain ⟨N,hN,q2⟩:=q2;rw [if_pos rfl];refine wpAny_passesOwn hp (B1 (hb pins s2 σ1 H2 _ I2 q2) fun f s3 q3=>?_)
  cases f with
  | next=>
   obtain ⟨σ3,H3,I3,n3⟩:=q3;obtain ⟨m',hm,w3⟩:=hN σ3 H3 n3;exact ⟨m',hm,σ3,H3,I3,w3⟩
  | cont=>
   obtain ⟨σ3,H3,I3,n3⟩:=q3;obtain ⟨m',hm,w3⟩:=hN σ3 H3 n3;exact ⟨m',hm,σ3,H3,I3,w3⟩
  | brk=>exact q3
  | ret v=>exact q3
 | false=>
  rw [if_neg L9];exact wpAny_execs_nil ⟨σ1,H2,I2,q2⟩
end
structure It where
 go:Nat->Hp->Prop
 yld:Nat->Hp->V->Hp->Prop
 stop:Nat->Hp->Prop
noncomputable def FpOk (X:Cx) (pins:List 'l') (H:Hp) (b:Addr):Prop:=
 H b=none/\b≠X.env.locals/\b∉X.fs/\(b∈X.ex\/X.s₀.heap.objs.size<=b)/\(∀ x c,X.env.cells.lookup x=some c->c≠b)/\∀ p∈X.pn++pins,p.1≠b
theorem Inv.fpOk{X:Cx}{pins:List 'l'}{Y:St}{H H':Hp}{s:Shared}{b:Addr}(I:Inv X pins Y H s)(hb:s.heap.objs.size<=b)(hn:H' b=none):FpOk X pins H' b:=by
 refine ⟨hn,Nat.ne_of_gt (W1 I.lt hb),I.nofs hb,.inr (N8 I.sz hb),fun x c e z=>?_,fun p hp z=>?_⟩
 .obtain ⟨v,q⟩:=I.cell x c e;exact absurd (W1 q.lt (by rw [z];exact hb)) (c9 _)
 .exact absurd (W1 (Heap.lt_size (I.pin p hp).1) (by rw [z];exact hb)) (c9 _)
structure Turn(P:Program)(w:World)(K:PySem.W.Frag)(tg:Expr)(J:It)(fp:List Addr)(it:Addr)(tn:Nat->Heap->Prop):Prop where
 mem:it∈fp
 obj:∀ i h,tn i h->∀ b∈fp,∃ o,h.get? b=some o/\∀ v,o.data≠.cell v
 keep:∀ i h h',tn i h->(∀ b∈fp,∀ o,h.get? b=some o->h'.get? b=some o)->tn i h'
 item:∀ (X:Cx),X.prog=P->X.w=w->X.K=K->X.calm=true->∀ (i:Nat) (pins:List 'l') (s:Shared) (Y:St) (H:Hp) (E:Value->Shared->Prop),Inv X pins Y H s->(∀ b∈fp,FpOk X pins H b)->tn i s.heap->J.go i H->
  wpAny (model P w) X.A (pyNext (.ref it)) (fun r s1=>∃ u,r=some u/\
   wpAny (model P w) X.A (letOwnedTupleGo tg (.ref it) u) (fun _ s2=>∃ x H',Inv X pins Y H' s2/\RelV x u/\J.yld i H x H'/\tn (i+1) s2.heap/\∀ b∈fp,H' b=none) E s1) E s
 done:∀ (X:Cx),X.prog=P->X.w=w->X.K=K->X.calm=true->∀ (i:Nat) (pins:List 'l') (s:Shared) (Y:St) (H:Hp) (E:Value->Shared->Prop),Inv X pins Y H s->(∀ b∈fp,FpOk X pins H b)->tn i s.heap->J.stop i H->
  wpAny (model P w) X.A (pyNext (.ref it)) (fun r s1=>r=none/\Inv X pins Y H s1) E s
 self:∀ (A:Around) (i:Nat) (s:Shared) (Q:Value->Shared->Prop) (E:Value->Shared->Prop),tn i s.heap->Q (.ref it) s->wpAny (model P w) A (pyIter (.ref it)) Q E s
noncomputable abbrev TI:=St->Hp->(It->Hp->Prop)->Prop
noncomputable def vB (X:Cx) (pins:List 'l') (Y:St) (tg:Expr) (R:It->Hp->Prop) (itv:Value) (s2:Shared):Prop:=
 ∃ (it:Addr) (fp:List Addr) (tn:Nat->Heap->Prop) (J:It) (H':Hp),itv=.ref it/\Inv X pins Y H' s2/\Turn X.prog X.w X.K tg J fp it tn/\tn 0 s2.heap/\(∀ b∈fp,FpOk X pins H' b)/\R J H'
noncomputable def PI (X:Cx) (tg iter:Expr) (wi:TI):Prop:=
 ∀ (pins:List 'l') (s:Shared) (Y:St) (H:Hp) (R:It->Hp->Prop),Inv X pins Y H s->wi Y H R->
  wpAny 'b' X.A (eval iter X.env) (fun v s1=>wpAny 'b' X.A (pyIter v) (vB X pins Y tg R) X.xe s1) X.xe s
theorem go_of{M : Model}{A : Around}{E : Value -> Shared -> Prop}{s : Shared}{tg : Expr}{it : Addr}{u : Value}{o : Obj}{n : String}{vs : Array Value}{Q : Unit -> Shared -> Prop}(ho : s.heap.get? it = some o)(hc : o.cls = .type n)(hd : o.data = .fields vs)(hn : ["enumerate", "zip", "dict_itemiterator", "dict_reverseitemiterator", "odict_iterator", "itertools.zip_longest", "itertools.pairwise"].contains n = false)(hQ : Q () s) : wpAny M A (letOwnedTupleGo tg (.ref it) u) Q E s := by
  unfold letOwnedTupleGo
  cases tg <;> first
    | exact wpAny_pure hQ
    | (cases u <;> first
        | exact wpAny_pure hQ
        | (refine wpAny_bind (wpAny_load ho ?_)
           rw [hc, hd];show wpAny M A (if (["enumerate", "zip", "dict_itemiterator", "dict_reverseitemiterator", "odict_iterator", "itertools.zip_longest", "itertools.pairwise"].contains n&&vs[0]? == some (rawInt _)) = true then _ else _) Q E s;rw [if_neg (by intro h; rw [hn, Bool.false_and] at h; cases h)];exact wpAny_pure hQ))
noncomputable def aO (K:PySem.W.Frag) (a:Addr):It:=
 ⟨fun i H=>∃ xs x,D1 K H a xs/\xs[i]?=some x,fun i H x H'=>H'=H/\∀ xs,D1 K H a xs->xs[i]?=some x,fun i H=>∃ xs,D1 K H a xs/\xs.length<=i⟩
noncomputable def eS (K:PySem.W.Frag) (a:Addr):It:=
 ⟨fun i H=>∃ xs x,A8 K H a xs/\xs[i]?=some x,fun i H x H'=>H'=H/\∀ xs,A8 K H a xs->xs[i]?=some x,fun i H=>∃ xs,A8 K H a xs/\xs.length<=i⟩
noncomputable def p9 (lo:Int) (n:Nat):It:=⟨fun i _=>i<n,fun i H x H'=>H'=H/\x=.int (lo+i),fun i _=>n<=i⟩
theorem ajq{P:Program}{w:World}{K:PySem.W.Frag}{tg:Expr}(a it:Addr):Turn P w K tg (aO K a) [it] it (fun i h=>h.IsListIter it a i) where
 mem:=by simp
 obj:=fun i h st b hb=>by
  have e:b=it:=by simpa using hb
  subst e;obtain ⟨o,e,c,d⟩:=st;exact ⟨o,e,fun v z=>by rw [d] at z;cases z⟩
 keep:=fun i h h' st k=>st.at fun o e=>k it 'd' o e
 item:=by
  intro X hP hw hK hc i pins s Y H E I hf st hg;subst hP hw hK;obtain ⟨xs,x,hq,hx⟩:=hg;obtain ⟨its,rv,p,hz⟩:=I.list hq;obtain ⟨u,hu,ru⟩:=rv.get hx;obtain ⟨f0,f1,f2,f3,f4,f5⟩:=hf it 'd';refine wpAny_pyNext_list_item st p.isList (x:=u) (by simpa using hu) fun h' st' sb=>?_
  have I1:Inv X pins Y H { s with heap:=h' }:=I.turned (t':=s.toks) (fun b o hb e=>(sb.2 b hb).trans e) f0 f1 f3 f4 f5;obtain ⟨o,e,c,d⟩:=id st';exact ⟨u,rfl,go_of (s:={ s with heap:=h' }) e c d 'h' ⟨x,H,I1,ru,⟨rfl,fun ys hy=>by rw [I.list_inj hy hq];exact hx⟩,st',fun b hb=>(hf b hb).1⟩⟩
 done:=by
  intro X hP hw hK hc i pins s Y H E I hf st hg;subst hP hw hK;obtain ⟨xs,hq,hx⟩:=hg;obtain ⟨its,rv,p,hz⟩:=I.list hq;obtain ⟨f0,f1,f2,f3,f4,f5⟩:=hf it 'd';have hl:=rv.length;exact wpAny_pyNext_list_end (I.ok.hd hc) st p.isList (by simp;lia) fun h' eb=>⟨rfl,I.turned (t':=s.toks) (fun b o hb e=>eb b o hb e) f0 f1 f3 f4 f5⟩
 self:=fun _ _ _ _ _ st h=>wpAny_pyIter_listiter st h
theorem aiC{P:Program}{w:World}{K:PySem.W.Frag}{tg:Expr}(a it:Addr):Turn P w K tg (eS K a) [it] it (fun i h=>h.IsTupleIter it a i) where
 mem:=by simp
 obj:=fun i h st b hb=>by
  have e:b=it:=by simpa using hb
  subst e;obtain ⟨o,e,c,d⟩:=st;exact ⟨o,e,fun v z=>by rw [d] at z;cases z⟩
 keep:=fun i h h' st k=>st.at fun o e=>k it 'd' o e
 item:=by
  intro X hP hw hK hc i pins s Y H E I hf st hg;subst hP hw hK;obtain ⟨xs,x,hq,hx⟩:=hg;obtain ⟨its,rv,p,hz⟩:=I.tuple hq;obtain ⟨u,hu,ru⟩:=rv.get hx;obtain ⟨f0,f1,f2,f3,f4,f5⟩:=hf it 'd';refine wpAny_pyNext_tuple_item st (show s.heap.IsTuple a its.toArray from p) (x:=u) (by simpa using hu) fun h' st' sb=>?_
  have I1:Inv X pins Y H { s with heap:=h' }:=I.turned (t':=s.toks) (fun b o hb e=>(sb.2 b hb).trans e) f0 f1 f3 f4 f5;obtain ⟨o,e,c,d⟩:=id st';exact ⟨u,rfl,go_of (s:={ s with heap:=h' }) e c d 'h' ⟨x,H,I1,ru,⟨rfl,fun ys hy=>by rw [I.tuple_inj hy hq];exact hx⟩,st',fun b hb=>(hf b hb).1⟩⟩
 done:=by
  intro X hP hw hK hc i pins s Y H E I hf st hg;subst hP hw hK;obtain ⟨xs,hq,hx⟩:=hg;obtain ⟨its,rv,p,hz⟩:=I.tuple hq;obtain ⟨f0,f1,f2,f3,f4,f5⟩:=hf it 'd';have hl:=rv.length;exact wpAny_pyNext_tuple_end (I.ok.hd hc) st (show s.heap.IsTuple a its.toArray from p) (by simp;lia) fun h' eb=>⟨rfl,I.turned (t':=s.toks) (fun b o hb e=>eb b o hb e) f0 f1 f3 f4 f5⟩
 self:=fun _ _ _ _ _ st h=>wpAny_pyIter_tupleiter st h
theorem aiD{P:Program}{w:World}{K:PySem.W.Frag}{tg:Expr}(it:Addr)(lo:Int)(n:Nat):Turn P w K tg (p9 lo n) [it] it (fun i h=>IsRangeIter h it (lo+(i:Nat)*1) ((n:Int)-(i:Nat)) 1) where
 mem:=by simp
 obj:=fun i h st b hb=>by
  have e:b=it:=by simpa using hb
  subst e;exact ⟨_,st,fun v z=>by
   have z':Data.fields _=Data.cell v:=z
   cases z'⟩
 keep:=fun i h h' st k=>k it 'd' _ st
 item:=by
  intro X hP hw hK hc i pins s Y H E I hf st hg;subst hP hw hK;obtain ⟨f0,f1,f2,f3,f4,f5⟩:=hf it 'd';have W:=Walks.range (prog:=X.prog) (w:=X.w) (I.ok.hd hc) it lo 1 n;refine W.item i s _ _ hg st fun v h' tk hv st' kk=>?_
  obtain ⟨t,rfl⟩:=hv;have I1:Inv X pins Y H { s with heap:=h',toks:=tk }:=I.turned (fun b o hb e=>kk b o (by simpa using hb) e) f0 f1 f3 f4 f5;refine ⟨_,rfl,go_of (s:={ s with heap:=h',toks:=tk }) (n:="range_iterator") st' rfl rfl 'h' ⟨.int (lo+i),H,I1,⟨t,?_⟩,⟨rfl,rfl⟩,st',fun b hb=>(hf b hb).1⟩⟩;rw [Int.mul_one]
 done:=by
  intro X hP hw hK hc i pins s Y H E I hf st hg;subst hP hw hK;obtain ⟨f0,f1,f2,f3,f4,f5⟩:=hf it 'd';exact wpAny_pyNext_range_end (I.ok.hd hc) st (by have:n<=i:=hg;lia) fun h' eb=>⟨rfl,I.turned (t':=s.toks) (fun b o hb e=>eb b o hb e) f0 f1 f3 f4 f5⟩
 self:=fun _ _ _ _ _ st h=>wpAny_pyIter_rangeiter st h
section
variable {X:Cx} {tg:Expr}
noncomputable def iList (K:PySem.W.Frag) (tl:TE):TI:=fun Y H R=>tl Y H fun x H1=>∃ a,x=.ref a/\(∃ xs,D1 K H1 a xs)/\R (aO K a) H1
noncomputable def iTup (K:PySem.W.Frag) (tl:TE):TI:=fun Y H R=>tl Y H fun x H1=>∃ a,x=.ref a/\(∃ xs,A8 K H1 a xs)/\R (eS K a) H1
theorem anH{l:Expr}{tl:TE}(hl:PE X l tl):PI X tg l (iList X.K tl):=by
 intro pins s Y H R I h;refine B1 (hl pins s Y H _ I h) fun v s1 ⟨x,H1,I1,r1,q1⟩=>?_
 obtain ⟨a,e,⟨xs,hq⟩,q⟩:=q1;subst e
 cases r1
 obtain ⟨its,rv,p,hz⟩:=I1.list hq;refine wpAny_pyIter_list p.isList ?_;refine ⟨s1.heap.objs.size,[s1.heap.objs.size],_,_,H1,rfl,I1.kept (t':=s1.toks) fun b o e=>Heap.get?_push_of_some _ e,ajq a _,⟨_,Heap.get?_push_size _ rfl,rfl,rfl⟩,fun b hb=>?_,q⟩;have e:b=s1.heap.objs.size:=by simpa using hb
 subst e;exact I1.fpOk (C3 _) (I1.hok.fresh (C3 _))
theorem aqy{l:Expr}{tl:TE}(hl:PE X l tl):PI X tg l (iTup X.K tl):=by
 intro pins s Y H R I h;refine B1 (hl pins s Y H _ I h) fun v s1 ⟨x,H1,I1,r1,q1⟩=>?_
 obtain ⟨a,e,⟨xs,hq⟩,q⟩:=q1;subst e
 cases r1
 obtain ⟨its,rv,p,hz⟩:=I1.tuple hq;refine wpAny_pyIter_tuple (show s1.heap.IsTuple a its.toArray from p) ?_;refine ⟨s1.heap.objs.size,[s1.heap.objs.size],_,_,H1,rfl,I1.kept (t':=s1.toks) fun b o e=>Heap.get?_push_of_some _ e,aiC a _,⟨_,Heap.get?_push_size _ rfl,rfl,rfl⟩,fun b hb=>?_,q⟩;have e:b=s1.heap.objs.size:=by simpa using hb
 subst e;exact I1.fpOk (C3 _) (I1.hok.fresh (C3 _))
theorem ahS{pins:List 'l'}{Y:St}{H:Hp}{s:Shared}{R:It->Hp->Prop}{E:Value->Shared->Prop}{lo hi:Int}{t u v:Tok}{tk:Nat}(I:Inv X pins Y H s)(h1:-(2 ^ 62)<=lo)(h2:lo<2 ^ 62)(h3:-(2 ^ 62)<=hi)(h4:hi<2 ^ 62)(q:R (p9 lo (hi-lo).toNat) H):wpAny 'b' X.A (pyIter (.ref s.heap.objs.size)) (vB X pins Y tg R) E { s with heap:=s.heap.push { cls:=.type "range",data:=.fields #[.int lo t,.int hi u,.int 1 v] },toks:=tk }:=by
 refine wpAny_pyIter_range (IsRange.new ..) (small_one h1 h2 h3 h4) ?_;have I1:Inv X pins Y H { s with heap:=s.heap.push { cls:=.type "range",data:=.fields #[.int lo t,.int hi u,.int 1 v] },toks:=tk }:=I.kept fun b o e=>Heap.get?_push_of_some _ e
 refine ⟨(s.heap.push { cls:=.type "range",data:=.fields #[.int lo t,.int hi u,.int 1 v] }).objs.size,[(s.heap.push { cls:=.type "range",data:=.fields #[.int lo t,.int hi u,.int 1 v] }).objs.size],_,_,H,rfl,
  I1.kept (t':=tk) fun b o e=>Heap.get?_push_of_some _ e,aiD _ lo (hi-lo).toNat,?_,fun b hb=>?_,q⟩
 .have e1:lo+((0:Nat):Int)*1=lo:=by simp
  have e2:(((hi-lo).toNat:Nat):Int)-((0:Nat):Int)=Builtin.Range.rangeSize lo hi 1:=by rw [rangeSize_one];split <;> lia
  show IsRangeIter _ _ (lo+((0:Nat):Int)*1) ((((hi-lo).toNat:Nat):Int)-((0:Nat):Int)) 1;rw [e1,e2];exact Heap.get?_push_size _ rfl
 .have e:b=(s.heap.push { cls:=.type "range",data:=.fields #[.int lo t,.int hi u,.int 1 v] }).objs.size:=by simpa using hb
  subst e;exact I1.fpOk (C3 _) (I1.hok.fresh (C3 _))
noncomputable def iRng1 (ta:TA):TI:=fun Y H R=>ta Y H fun vs H1=>∃ j:Int,vs=[.int j]/\-(2 ^ 62)<=j/\j<2 ^ 62/\R (p9 0 j.toNat) H1
noncomputable def iRng2 (ta:TA):TI:=fun Y H R=>ta Y H fun vs H1=>∃ i j:Int,vs=[.int i,.int j]/\(-(2 ^ 62)<=i/\i<2 ^ 62/\-(2 ^ 62)<=j/\j<2 ^ 62)/\R (p9 i (j-i).toNat) H1
theorem ajr{a:Expr}{ta:TA}{p pos:Pos}(hg:Gl X "range")(hm:X.mg "range"=none)(ha:PA X [a] ta)(hs:starEach [a] X.env=[(false,eval a X.env)]:=by rfl):PI X tg (.Call (.Name "range" p) [a] [] pos) (iRng1 ta):=by
 intro pins s Y H R I h;refine Call_ (aN I hg hm boot_range (PyProof.Rows.callWith_type1 (B1 (ha pos pins s Y H _ I h) fun us s1 ⟨vs,H1,I1,r1,q1⟩=>?_) hs rfl));obtain ⟨j,e,q1,q2,q⟩:=q1;subst e
 cases r1 with
 | cons r rr=>
  cases rr
  obtain ⟨t,rfl⟩:=r;exact call_range_1 (ahS I1 'a' 'a' q1 q2 (by simpa using q))
theorem ajs{a b:Expr}{ta:TA}{p pos:Pos}(hg:Gl X "range")(hm:X.mg "range"=none)(ha:PA X [a,b] ta)(hs:starEach [a,b] X.env=[(false,eval a X.env),(false,eval b X.env)]:=by rfl)(cZ:starEach [b] X.env=[(false,eval b X.env)]:=by rfl) :
  PI X tg (.Call (.Name "range" p) [a,b] [] pos) (iRng2 ta):=by
 intro pins s Y H R I h;refine Call_ (aN I hg hm boot_range (PyProof.Rows.callWith_type1 (B1 (ha pos pins s Y H _ I h) fun us s1 ⟨vs,H1,I1,r1,q1⟩=>?_) (by rw [hs,cZ]) (by rw [cZ];rfl)));obtain ⟨i,j,e,⟨q1,q2,q3,q4⟩,q⟩:=q1;subst e
 cases r1 with
 | cons r rr=>
  cases rr with
  | cons r' rr=>
   cases rr
   obtain ⟨t,rfl⟩:=r;obtain ⟨t',rfl⟩:=r';exact call_range_2 (ahS I1 q1 q2 q3 q4 q)
noncomputable def tFor (wi:TI) (g:TG) (tb:TS):TS:=fun D Y H=>wi Y H fun J H1=>∃ W:Nat->Nat->St->Hp->Prop,(∃ m,W 0 m Y H1)/\∀ i m Y H,W i m Y H->
 (J.stop i H/\D.nx Y H)\/(J.go i H/\∃ N:St->Hp->Prop,(∀ σ' H',N σ' H'->∃ m',m'<m/\W (i+1) m' σ' H')/\∀ x H',J.yld i H x H'->g x Y H' fun σ2 H2=>tb { D with nx:=N,ct:=N,bk:=D.nx } σ2 H2)
noncomputable def kD (fp:List Addr) (h:Heap):List 'l':=fp.filterMap fun b=>(h.get? b).map fun o=>(b,o)
theorem kE{fp:List Addr}{h:Heap}{b:Addr}{o:Obj}(hb:b∈fp)(e:h.get? b=some o):(b,o)∈kD fp h:=jV.mpr ⟨b,hb,by rw [e];rfl⟩
theorem ajt{fp:List Addr}{h:Heap}{p:Addr×Obj}(hp:p∈kD fp h):p.1∈fp/\h.get? p.1=some p.2:=by
 obtain ⟨b,hb,e⟩:=jV.mp hp
 cases q:h.get? b with
 | none=>rw [q] at e;cases e
 | some o=>
  rw [q] at e;have e':(b,o)=p:=Option.some.inj e;subst e';exact ⟨hb,q⟩
theorem Inv.pinned{pins:List 'l'}{Y:St}{H:Hp}{s:Shared}{fp:List Addr}(I:Inv X pins Y H s)(hf:∀ b∈fp,FpOk X pins H b)(ho:∀ b∈fp,∃ o,s.heap.get? b=some o/\∀ v,o.data≠.cell v):Inv X (pins++kD fp s.heap) Y H s:=
 I.pins_of fun p hp=>(G3.mp hp).elim (fun z=>I.pin p (N7 _ z)) fun z=>by
  obtain ⟨hb,e⟩:=ajt z;obtain ⟨f0,f1,f2,_⟩:=hf p.1 hb;obtain ⟨o,e',d⟩:=ho p.1 hb;rw [e] at e';cases e';exact ⟨e,f0,f1,f2,d⟩
theorem Inv.unpinned{pins pl:List 'l'}{Y:St}{H:Hp}{s:Shared}(I:Inv X (pins++pl) Y H s):Inv X pins Y H s:=I.pins_of fun p hp=>I.pin p (N7 _ (Q3 _ hp))
theorem aqz{iter:Expr}{body:List Stmt}{wi:TI}{g:TG}{tb:TS}{pos:Pos}(hp:PassesOwn 'b' X.A X.env X.xe)(hc:X.calm=true)(hi:PI X tg iter wi)(hg:PG X tg g)(hb:Z3 X body tb)(hs:∀ x,foldedSetIterable iter X.env x=pure x:=by intro _;rfl):PS X (.For tg iter body [] pos) (tFor wi g tb):=by
 intro pins s Y H D I h;refine wpAny_For (B1 (hi pins s Y H _ I h) fun v s1 h1=>B1 h1 fun itv s2 h2=>?_) hs;obtain ⟨it,fp,tn,J,H2,e,I2,T,pF,f2,W,⟨m0,w0⟩,turn⟩:=h2;subst e;have stat:∀ {H':Hp},(∀ b∈fp,H' b=none)->∀ b∈fp,FpOk X pins H' b:=fun hn b hb=>⟨hn b hb,(f2 b hb).2⟩
 refine codeAny_forLoop_any (fun n s'=>∃ i σ' H',Inv X pins σ' H' s'/\tn i s'.heap/\(∀ b∈fp,H' b=none)/\W i n σ' H') ?_ m0 ⟨0,Y,H2,I2,pF,fun b hb=>(f2 b hb).1,w0⟩;rintro n s3 ⟨i,σ3,H3,I3,fN,pG,w3⟩
 rcases turn i n σ3 H3 w3 with ⟨stop,qn⟩ | ⟨go,N,hN,step⟩
 .refine wpAny_passesOwn hp (B1 (T.done X rfl rfl rfl hc i pins s3 σ3 H3 X.xe I3 (stat pG) fN stop) fun r s4 ⟨hr,I4⟩=>?_);subst hr;exact wpAny_execs_nil ⟨σ3,H3,I4,qn⟩
 .refine wpAny_passesOwn hp (B1 (T.item X rfl rfl rfl hc i pins s3 σ3 H3 X.xe I3 (stat pG) fN go) fun r s4 ⟨u,hr,h4⟩=>?_);subst hr;refine wpAny_passesOwn hp (B1 h4 fun _ s5 ⟨x,H5,I5,r5,y5,iP,fr5⟩=>?_);have I5':=I5.pinned (stat fr5) (T.obj _ _ iP);refine wpAny_passesOwn hp (B1 (hg _ s5 σ3 H5 x u _ I5' r5 (step x H5 y5)) fun _ s6 ⟨σ6,H6,I6,q6⟩=>?_);refine wpAny_passesOwn hp (B1 (hb _ s6 σ6 H6 _ I6 q6) fun f s7 q7=>?_);have again:∀ {σ7:St} {H7:Hp},Inv X (pins++kD fp s5.heap) σ7 H7 s7->N σ7 H7->∃ m,m<n/\∃ i σ' H',Inv X pins σ' H' s7/\tn i s7.heap/\(∀ b∈fp,H' b=none)/\W i m σ' H':=fun {σ7 H7} I7 n7=>by
   obtain ⟨m',hm,w7⟩:=hN σ7 H7 n7;refine ⟨m',hm,i+1,σ7,H7,I7.unpinned,T.keep _ _ _ iP fun b hb o e=>(I7.pin (b,o) (N7 _ (N7 _ (kE hb e)))).1,fun b hb=>?_,w7⟩;obtain ⟨o,e,d⟩:=T.obj _ _ iP b hb;exact (I7.pin (b,o) (N7 _ (N7 _ (kE hb e)))).2.1
  cases f with
  | next=>obtain ⟨σ7,H7,I7,n7⟩:=q7;exact again I7 n7
  | cont=>obtain ⟨σ7,H7,I7,n7⟩:=q7;exact again I7 n7
  | brk=>obtain ⟨σ7,H7,I7,q7⟩:=q7;exact ⟨σ7,H7,I7.unpinned,q7⟩
  | ret v=>obtain ⟨x7,σ7,H7,I7,r7,q7⟩:=q7;exact ⟨x7,σ7,H7,I7.unpinned,r7,q7⟩
end
theorem alq{K:PySem.W.Frag}{a:Addr}{xs:List V}{g:TG}{tb:TS}{D:Ends}{Y:St}{H:Hp}(Pv:Nat->St->Hp->Prop)(h0:Pv 0 Y H)(hl:∀ i Y H,i<=xs.length->Pv i Y H->D1 K H a xs)(hs:∀ i x Y H,xs[i]?=some x->Pv i Y H->g x Y H fun σ2 H2=>tb { D with nx:=Pv (i+1),ct:=Pv (i+1),bk:=D.nx } σ2 H2)(hd:∀ Y H,Pv xs.length Y H->D.nx Y H) :
  ∃ W:Nat->Nat->St->Hp->Prop,(∃ m,W 0 m Y H)/\∀ i m Y H,W i m Y H->
   ((aO K a).stop i H/\D.nx Y H)\/((aO K a).go i H/\∃ N:St->Hp->Prop,(∀ σ' H',N σ' H'->∃ m',m'<m/\W (i+1) m' σ' H')/\∀ x H',(aO K a).yld i H x H'->g x Y H' fun σ2 H2=>tb { D with nx:=N,ct:=N,bk:=D.nx } σ2 H2):=by
 refine ⟨fun i m Y H=>m=xs.length-i/\i<=xs.length/\Pv i Y H,⟨xs.length,by simp,F7 _,h0⟩,?_⟩;rintro i m Y H ⟨rfl,hi,p⟩;have q:=hl i Y H hi p
 by_cases C4:i<xs.length
 .refine .inr ⟨⟨xs,xs[i],q,by simp [C4]⟩,Pv (i+1),fun σ' H' p'=>⟨xs.length-(i+1),by lia,rfl,C4,p'⟩,fun x H' y=>?_⟩;obtain ⟨e,y⟩:=y;subst e;exact hs i x Y _ (y xs q) p
 .have e:i=xs.length:=by lia
  subst e;exact .inl ⟨⟨xs,q,C3 _⟩,hd Y H p⟩
theorem anI{K:PySem.W.Frag}{a:Addr}{xs:List V}{g:TG}{tb:TS}{D:Ends}{Y:St}{H:Hp}(Pv:Nat->St->Hp->Prop)(h0:Pv 0 Y H)(hl:∀ i Y H,i<=xs.length->Pv i Y H->A8 K H a xs)(hs:∀ i x Y H,xs[i]?=some x->Pv i Y H->g x Y H fun σ2 H2=>tb { D with nx:=Pv (i+1),ct:=Pv (i+1),bk:=D.nx } σ2 H2)(hd:∀ Y H,Pv xs.length Y H->D.nx Y H) :
  ∃ W:Nat->Nat->St->Hp->Prop,(∃ m,W 0 m Y H)/\∀ i m Y H,W i m Y H->
   ((eS K a).stop i H/\D.nx Y H)\/((eS K a).go i H/\∃ N:St->Hp->Prop,(∀ σ' H',N σ' H'->∃ m',m'<m/\W (i+1) m' σ' H')/\∀ x H',(eS K a).yld i H x H'->g x Y H' fun σ2 H2=>tb { D with nx:=N,ct:=N,bk:=D.nx } σ2 H2):=by
 refine ⟨fun i m Y H=>m=xs.length-i/\i<=xs.length/\Pv i Y H,⟨xs.length,by simp,F7 _,h0⟩,?_⟩;rintro i m Y H ⟨rfl,hi,p⟩;have q:=hl i Y H hi p
 by_cases C4:i<xs.length
 .refine .inr ⟨⟨xs,xs[i],q,by simp [C4]⟩,Pv (i+1),fun σ' H' p'=>⟨xs.length-(i+1),by lia,rfl,C4,p'⟩,fun x H' y=>?_⟩;obtain ⟨e,y⟩:=y;subst e;exact hs i x Y _ (y xs q) p
 .have e:i=xs.length:=by lia
  subst e;exact .inl ⟨⟨xs,q,C3 _⟩,hd Y H p⟩
theorem aju{lo:Int}{n:Nat}{g:TG}{tb:TS}{D:Ends}{Y:St}{H:Hp}(Pv:Nat->St->Hp->Prop)(h0:Pv 0 Y H)(hs:∀ i Y H,i<n->Pv i Y H->g (.int (lo+i)) Y H fun σ2 H2=>tb { D with nx:=Pv (i+1),ct:=Pv (i+1),bk:=D.nx } σ2 H2)(hd:∀ Y H,Pv n Y H->D.nx Y H) :
  ∃ W:Nat->Nat->St->Hp->Prop,(∃ m,W 0 m Y H)/\∀ i m Y H,W i m Y H->
   ((p9 lo n).stop i H/\D.nx Y H)\/((p9 lo n).go i H/\∃ N:St->Hp->Prop,(∀ σ' H',N σ' H'->∃ m',m'<m/\W (i+1) m' σ' H')/\∀ x H',(p9 lo n).yld i H x H'->g x Y H' fun σ2 H2=>tb { D with nx:=N,ct:=N,bk:=D.nx } σ2 H2):=by
 refine ⟨fun i m Y H=>m=n-i/\i<=n/\Pv i Y H,⟨n,by simp,F7 _,h0⟩,?_⟩;rintro i m Y H ⟨rfl,hi,p⟩
 by_cases C4:i<n
 .refine .inr ⟨C4,Pv (i+1),fun σ' H' p'=>⟨n-(i+1),by lia,rfl,C4,p'⟩,fun x H' y=>?_⟩;obtain ⟨e,y⟩:=y;subst e y;exact hs i Y _ C4 p
 .have e:i=n:=by lia
  subst e;exact .inl ⟨C3 _,hd Y H p⟩
noncomputable abbrev R2:=V->V->Hp->VK->Prop
noncomputable def J9 (X:Cx) (f:Value->Value->Sem Value) (r:R2):Prop:=
 ∀ (pins:List 'l') (s:Shared) (Y:St) (H:Hp) (x y:V) (v u:Value) (Q:VK),Inv X pins Y H s->RelV x v->RelV y u->r x y H Q->
  wpAny 'b' X.A (f v u) (EP X pins Y Q) X.xe s
noncomputable def qT (X:Cx) (f:Value->Sem Value) (r:V->Hp->VK->Prop):Prop:=
 ∀ (pins:List 'l') (s:Shared) (Y:St) (H:Hp) (x:V) (v:Value) (Q:VK),Inv X pins Y H s->RelV x v->r x H Q->
  wpAny 'b' X.A (f v) (EP X pins Y Q) X.xe s
noncomputable def CallR (X:Cx) (f:Value) (r:List V->Hp->VK->Prop):Prop:=
 ∀ (pins:List 'l') (s:Shared) (Y:St) (H:Hp) (xs:List V) (us:List Value) (Q:VK),Inv X pins Y H s->Vals xs us->r xs H Q->
  wpAny 'b' X.A (call f us) (EP X pins Y Q) X.xe s
noncomputable def TruR (X:Cx) (r:V->Hp->(Bool->Hp->Prop)->Prop):Prop:=
 ∀ (pins:List 'l') (s:Shared) (Y:St) (H:Hp) (x:V) (v:Value) (Q:Bool->Hp->Prop),Inv X pins Y H s->RelV x v->r x H Q->
  wpAny 'b' X.A (truthy v) (TP X pins Y Q) X.xe s
noncomputable def cF (r:R2) (ta tb:TE):TE:=fun Y H Q=>ta Y H fun x H1=>tb Y H1 fun y H2=>r x y H2 Q
noncomputable def vC (r:V->Hp->VK->Prop) (ta:TE):TE:=fun Y H Q=>ta Y H fun x H1=>r x H1 Q
noncomputable def rI (C:Int->Int->Prop) (g:Int->Int->V):R2:=fun x y H Q=>∃ i j,x=.int i/\y=.int j/\C i j/\Q (g i j) H
noncomputable def aP (g:Int->Int->V):R2:=fun x y H Q=>∃ i j,x=.int i/\y=.int j/\Q (g i j) H
noncomputable def rU (g:Int->V):V->Hp->VK->Prop:=fun x H Q=>∃ i,x=.int i/\Q (g i) H
section
variable {X:Cx} {a b c:Expr} {ta tb tc:TE} {pos:Pos}
theorem binT(ha:PE X a ta)(hb:PE X b tb){pins:List 'l'}{s:Shared}{Y:St}{H:Hp}{R:V->V->Hp->Prop}(I:Inv X pins Y H s)(h:ta Y H fun x H1=>tb Y H1 fun y H2=>R x y H2){Q:Value->Shared->Prop}{f:Value->Value->Sem Value}(hf:∀ v u s2 x y H2,Inv X pins Y H2 s2->RelV x v->RelV y u->R x y H2->wpAny 'b' X.A (f v u) Q X.xe s2) :
  wpAny 'b' X.A (eval a X.env) (fun v zu=>wpAny 'b' X.A (eval b X.env) (fun u zx=>wpAny 'b' X.A (f v u) Q X.xe zx) X.xe zu) X.xe s:=by
 refine B1 (ha pins s Y H _ I h) fun v s1 ⟨x,H1,I1,r1,q1⟩=>?_
 refine B1 (hb pins s1 Y H1 _ I1 q1) fun u s2 ⟨y,H2,I2,r2,q2⟩=>?_
 exact hf v u s2 x y H2 I2 r1 r2 q2
theorem pe_op{op:Operator}{r:R2}(ho:J9 X (binaryOp op) r)(ha:PE X a ta)(hb:PE X b tb):PE X (.BinOp a op b pos) (cF r ta tb):=by
 sleep 1;exact wpAny_BinOp (binT ha hb I h fun v u s2 x y H2 I2 rx ry q=>ho pins s2 Y H2 x y v u Q I2 rx ry q)
theorem pe_un{op:UnaryOp}{r:V->Hp->VK->Prop}(ho:qT X (unaryOp op) r)(ha:PE X a ta):PE X (.UnaryOp op a pos) (vC r ta):=by
 sleep 1;exact UnaryOp_ (B1 (ha pins s Y H _ I h) fun v s1 ⟨x,H1,I1,r1,q1⟩=>ho pins s1 Y H1 x v Q I1 r1 q1)
theorem vD{f:Value->Value->Sem Value}{C:Int->Int->Prop}{g:Int->Int->Int}(rule:∀ (i j:Int) (t u:Tok) (s:Shared) (Q:Value->Shared->Prop) (E:Value->Shared->Prop),C i j->Q (.int (g i j) s.toks) { s with toks:=s.toks+1 }->wpAny 'b' X.A (f (.int i t) (.int j u)) Q E s) :
  J9 X f (rI C fun i j=>.int (g i j)):=by
 sleep 0;obtain ⟨i,j,rfl,rfl,hc,q⟩:=h;obtain ⟨t,rfl⟩:=rx;obtain ⟨t',rfl⟩:=ry;exact rule i j t t' s _ _ hc ⟨.int (g i j),H,I.tok _,⟨_,rfl⟩,q⟩
theorem opI0{f:Value->Value->Sem Value}{g:Int->Int->Int}(rule:∀ (i j:Int) (t u:Tok) (s:Shared) (Q:Value->Shared->Prop) (E:Value->Shared->Prop),Q (.int (g i j) s.toks) { s with toks:=s.toks+1 }->wpAny 'b' X.A (f (.int i t) (.int j u)) Q E s) :
  J9 X f (aP fun i j=>.int (g i j)):=by
 sleep 0;obtain ⟨i,j,rfl,rfl,q⟩:=h;obtain ⟨t,rfl⟩:=rx;obtain ⟨t',rfl⟩:=ry;exact rule i j t t' s _ _ ⟨.int (g i j),H,I.tok _,⟨_,rfl⟩,q⟩
theorem opB0{f:Value->Value->Sem Value}{g:Int->Int->Bool}(rule:∀ (i j:Int) (t u:Tok) (s:Shared) (Q:Value->Shared->Prop) (E:Value->Shared->Prop),Q (.bool (g i j)) s->wpAny 'b' X.A (f (.int i t) (.int j u)) Q E s) :
  J9 X f (aP fun i j=>.bl (g i j)):=by
 sleep 0;obtain ⟨i,j,rfl,rfl,q⟩:=h;obtain ⟨t,rfl⟩:=rx;obtain ⟨t',rfl⟩:=ry;exact rule i j t t' s _ _ ⟨.bl (g i j),H,I,rfl,q⟩
noncomputable def CDiv (i j:Int):Prop:=0<j/\j<1073741824
noncomputable def CMul (i j:Int):Prop:=(-(2 ^ 64)<i/\i<2 ^ 64)\/(-(2 ^ 64)<j/\j<2 ^ 64)
theorem CMul.ok{i j:Int}(h:CMul i j):IntMulOk i j:=by
 rcases h with ⟨h1,h2⟩ | ⟨h1,h2⟩
 .exact .of_left (intBits_le_64 h1 h2)
 .exact .of_right (intBits_le_64 h1 h2)
theorem aqA:J9 X (binaryOp .Add) (aP fun i j=>.int (i+j)):=opI0 fun _ _ _ _ _ _ _ q=>add_int q
theorem aqB:J9 X (binaryOp .Sub) (aP fun i j=>.int (i-j)):=opI0 fun _ _ _ _ _ _ _ q=>sub_int q
theorem aqC:J9 X (binaryOp .Mult) (rI CMul fun i j=>.int (i*j)):=vD fun _ _ _ _ _ _ _ hc q=>mul_int q hc.ok
theorem anJ:J9 X (binaryOp .FloorDiv) (rI CDiv fun i j=>.int (i / j)):=vD fun i j _ _ _ _ _ hc q=>by
 have h1:(0:Int)<j:=hc.1;have h2:j<1073741824:=hc.2;exact floordiv_int 'a' (by rw [Int.fdiv_eq_ediv_of_nonneg i 'a'];exact q) (.inl (PyProof.noPylong_small 'a'))
theorem aqD:J9 X (binaryOp .Mod) (rI (fun _ j=>0<j) fun i j=>.int (i % j)):=vD fun i j _ _ _ _ _ hc q=>by
 have h1:(0:Int)<j:=hc;exact mod_int' 'a' (by rw [Int.fmod_eq_emod_of_nonneg i 'a'];exact q)
theorem unI{f:Value->Sem Value}{g:Int->Int}(rule:∀ (i:Int) (t:Tok) (s:Shared) (Q:Value->Shared->Prop) (E:Value->Shared->Prop),Q (.int (g i) s.toks) { s with toks:=s.toks+1 }->wpAny 'b' X.A (f (.int i t)) Q E s) :
  qT X f (rU fun i=>.int (g i)):=by
 intro pins s Y H x v Q I rx h;obtain ⟨i,rfl,q⟩:=h;obtain ⟨t,rfl⟩:=rx;exact rule i t s _ _ ⟨.int (g i),H,I.tok _,⟨_,rfl⟩,q⟩
theorem aqE:qT X (unaryOp .USub) (rU fun i=>.int (-i)):=unI fun _ _ _ _ _ q=>neg_int q
end
noncomputable def scal:V->V->Bool
 | .non,.non=>true | .non,.int _=>true | .int _,.non=>true | .non,.bl _=>true | .bl _,.non=>true | .non,.str _=>true | .str _,.non=>true
 | .int _,.int _=>true | .bl _,.bl _=>true | .str _,.str _=>true | .byt _,.byt _=>true
 | .int _,.str _=>true | .str _,.int _=>true | .bl _,.str _=>true | .str _,.bl _=>true
 | _,_=>false
noncomputable def rEq:R2:=fun x y H Q=>scal x y=true/\Q (.bl (decide (x=y))) H
noncomputable def rNe:R2:=fun x y H Q=>scal x y=true/\Q (.bl (!decide (x=y))) H
theorem ajv{i j:Int} : decide (V.int i=V.int j)=(i==j):=by
 rw [gN]
 simp
theorem amT{i j:Bool} : decide (V.bl i=V.bl j)=(i==j):=by
 rw [gN]
 simp
theorem ajw{i j:Str} : decide (V.str i=V.str j)=(i==j):=by
 rw [gN]
 simp
theorem ajx{i j:Array UInt8} : decide (V.byt i=V.byt j)=(i.toList==j.toList):=by
 rw [gN]
 cases i
 cases j
 simp
section
variable {X:Cx} {a b c:Expr} {ta tb tc:TE} {pos:Pos}
theorem M6{pins:List 'l'}{Y:St}{H:Hp}{s:Shared}{Q:VK}{k k':Bool}(I:Inv X pins Y H s)(q:Q (.bl k) H)(e:k=k'):EP X pins Y Q (.bool k') s:=by
 subst e;exact ⟨.bl k,H,I,rfl,q⟩
theorem op_eq:J9 X (compareOp .Eq) rEq:=by
 sleep 0;obtain ⟨hs,q⟩:=h
 cases x with
 | non=>
  cases rx
  cases y with
  | non=>cases ry;exact PySem.EqNone.eq_none_none (M6 I q 'd')
  | bl j=>cases ry;exact PySem.EqNone.eq_none_bool (M6 I q 'd')
  | int j=>obtain ⟨t',rfl⟩:=ry;exact PySem.EqNone.eq_none_int (M6 I q 'd')
  | str j=>obtain ⟨t',rfl⟩:=ry;exact PySem.EqNone.eq_none_str (M6 I q 'd')
  | _=>exact absurd (show false=true from hs) L9
 | bl i=>
  cases rx
  cases y with
  | non=>cases ry;exact PySem.EqNone.eq_bool_none (M6 I q 'd')
  | bl j=>cases ry;exact eq_bool (M6 I q amT)
  | str j=>obtain ⟨t',rfl⟩:=ry;exact PySem.EqMixed.eq_bool_str (M6 I q 'd')
  | _=>exact absurd (show false=true from hs) L9
 | int i=>
  obtain ⟨t,rfl⟩:=rx
  cases y with
  | non=>cases ry;exact PySem.EqNone.eq_int_none (M6 I q 'd')
  | int j=>obtain ⟨t',rfl⟩:=ry;exact eq_int (M6 I q ajv)
  | str j=>obtain ⟨t',rfl⟩:=ry;exact PySem.EqMixed.eq_int_str (M6 I q 'd')
  | _=>exact absurd (show false=true from hs) L9
 | str i=>
  obtain ⟨t,rfl⟩:=rx
  cases y with
  | non=>cases ry;exact PySem.EqNone.eq_str_none (M6 I q 'd')
  | bl j=>cases ry;exact PySem.EqMixed.eq_str_bool (M6 I q 'd')
  | int j=>obtain ⟨t',rfl⟩:=ry;exact PySem.EqMixed.eq_str_int (M6 I q 'd')
  | str j=>obtain ⟨t',rfl⟩:=ry;exact eq_str (M6 I q ajw)
  | _=>exact absurd (show false=true from hs) L9
 | byt i=>
  obtain ⟨t,rfl⟩:=rx
  cases y with
  | byt j=>obtain ⟨t',rfl⟩:=ry;exact PySem.W.eq_bytes (M6 I q ajx)
  | _=>exact absurd (show false=true from hs) L9
 | _=>cases y <;> exact absurd (show false=true from hs) L9
theorem op_ne:J9 X (compareOp .NotEq) rNe:=by
 sleep 0;obtain ⟨hs,q⟩:=h
 cases x with
 | non=>
  cases rx
  cases y with
  | non=>cases ry;exact PySem.EqNone.ne_none_none (M6 I q 'd')
  | bl j=>cases ry;exact PySem.EqNone.ne_none_bool (M6 I q 'd')
  | int j=>obtain ⟨t',rfl⟩:=ry;exact PySem.EqNone.ne_none_int (M6 I q 'd')
  | str j=>obtain ⟨t',rfl⟩:=ry;exact PySem.EqNone.ne_none_str (M6 I q 'd')
  | _=>exact absurd (show false=true from hs) L9
 | bl i=>
  cases rx
  cases y with
  | non=>cases ry;exact PySem.EqNone.ne_bool_none (M6 I q 'd')
  | bl j=>cases ry;exact ne_bool (M6 I q (congrArg not amT))
  | str j=>obtain ⟨t',rfl⟩:=ry;exact PySem.EqMixed.ne_bool_str (M6 I q 'd')
  | _=>exact absurd (show false=true from hs) L9
 | int i=>
  obtain ⟨t,rfl⟩:=rx
  cases y with
  | non=>cases ry;exact PySem.EqNone.ne_int_none (M6 I q 'd')
  | int j=>obtain ⟨t',rfl⟩:=ry;exact ne_int (M6 I q (congrArg not ajv))
  | str j=>obtain ⟨t',rfl⟩:=ry;exact PySem.EqMixed.ne_int_str (M6 I q 'd')
  | _=>exact absurd (show false=true from hs) L9
 | str i=>
  obtain ⟨t,rfl⟩:=rx
  cases y with
  | non=>cases ry;exact PySem.EqNone.ne_str_none (M6 I q 'd')
  | bl j=>cases ry;exact PySem.EqMixed.ne_str_bool (M6 I q 'd')
  | int j=>obtain ⟨t',rfl⟩:=ry;exact PySem.EqMixed.ne_str_int (M6 I q 'd')
  | str j=>obtain ⟨t',rfl⟩:=ry;exact ne_str (M6 I q (congrArg not ajw))
  | _=>exact absurd (show false=true from hs) L9
 | byt i=>
  obtain ⟨t,rfl⟩:=rx
  cases y with
  | byt j=>obtain ⟨t',rfl⟩:=ry;exact PySem.W.ne_bytes (M6 I q (congrArg not ajx))
  | _=>exact absurd (show false=true from hs) L9
 | _=>cases y <;> exact absurd (show false=true from hs) L9
theorem op_lt:J9 X (compareOp .Lt) (aP fun i j=>.bl (decide (i<j))):=opB0 fun _ _ _ _ _ _ _ q=>lt_int q
theorem op_le:J9 X (compareOp .LtE) (aP fun i j=>.bl (decide (i<=j))):=opB0 fun _ _ _ _ _ _ _ q=>le_int q
theorem op_gt:J9 X (compareOp .Gt) (aP fun i j=>.bl (decide (j<i))):=opB0 fun _ _ _ _ _ _ _ q=>gt_int q
theorem af3:J9 X (compareOp .Lt) (fun x y H Q=>∃ i j,x=.str i/\y=.str j/\Q (.bl (decide (i.cps.toList<j.cps.toList))) H):=by
 sleep 0;obtain ⟨i,j,rfl,rfl,q⟩:=h;obtain ⟨t,rfl⟩:=rx;obtain ⟨t',rfl⟩:=ry;exact lt_str (M6 I q rfl)
theorem ajy:J9 X (compareOp .In) (fun x y H Q=>∃ i j,x=.str i/\y=.str j/\Q (.bl (!(Builtin.Str.occurrences j i 0 j.length 1).isEmpty)) H):=by
 sleep 0;obtain ⟨i,j,rfl,rfl,q⟩:=h;obtain ⟨t,rfl⟩:=rx;obtain ⟨t',rfl⟩:=ry;exact in_str (M6 I q rfl)
theorem aqF:J9 X (compareOp .Is) (fun x y H Q=>y=.non/\Q (.bl (decide (x=.non))) H):=by
 sleep 0;obtain ⟨rfl,q⟩:=h
 cases ry
 refine is_none_gen (M6 I q ?_)
 cases x <;> first
  | (cases rx;rfl)
  | (obtain ⟨t,rfl⟩:=rx;rfl)
theorem anK:J9 X (compareOp .IsNot) (fun x y H Q=>y=.non/\Q (.bl (!decide (x=.non))) H):=by
 sleep 0;obtain ⟨rfl,q⟩:=h
 cases ry
 refine isnot_none_gen (M6 I q ?_)
 cases x <;> first
  | (cases rx;rfl)
  | (obtain ⟨t,rfl⟩:=rx;rfl)
theorem amU(b:Expr){op:CmpOp}(h:op≠.In:=by decide)(h2:op≠.NotIn:=by decide):behindInMarks op b=false:=by
 have e1:(op==CmpOp.In)=false:=by cases op <;> first | rfl | exact absurd rfl h
 have e2:(op==CmpOp.NotIn)=false:=by cases op <;> first | rfl | exact absurd rfl h2
 cases b <;> simp [behindInMarks,e1,e2]
theorem anL{op:CmpOp}{r:R2}(ho:J9 X (compareOp op) r)(ha:PE X a ta)(hb:PE X b tb)(hm:behindInMarks op b=false):PE X (.Compare a [op] [b] pos) (cF r ta tb):=by
 sleep 1;exact wpAny_Compare1 (binT ha hb I h fun v u s2 x y H2 I2 rx ry q=>ho pins s2 Y H2 x y v u Q I2 rx ry q) hm
noncomputable def tTest (t:TE):TT:=fun Y H Q=>t Y H fun x H'=>∃ k,x=.bl k/\Q k H'
theorem anM{op:CmpOp}{r:R2}(ho:J9 X (compareOp op) r)(ha:PE X a ta)(hb:PE X b tb)(hm:behindInMarks op b=false):PT X (.Compare a [op] [b] pos) (tTest (cF r ta tb)):=by
 sleep 1;refine wpAny_isTrue_Compare1 (B1 (ha pins s Y H _ I h) fun v s1 ⟨x,H1,I1,r1,q1⟩=>B1 (hb pins s1 Y H1 _ I1 q1) fun u s2 ⟨y,H2,I2,r2,q2⟩=>
  B1 (ho pins s2 Y H2 x y v u _ I2 r1 r2 q2) fun c s3 ⟨z,H3,I3,r3,k,e,q3⟩=>?_) hm
 subst e
 cases r3
 exact wpAny_truthy_bool ⟨H3,I3,q3⟩
noncomputable def vF (r r':R2) (ta tb tc:TE):TE:=fun Y H Q=>ta Y H fun x H1=>tb Y H1 fun y H2=>r x y H2 fun z H3=>∃ k,z=.bl k/\
 (if k=true then tc Y H3 fun w' H4=>r' y w' H4 Q else Q (.bl false) H3)
theorem alr{op op':CmpOp}{r r':R2}(ho:J9 X (compareOp op) r)(m5:J9 X (compareOp op') r')(ha:PE X a ta)(hb:PE X b tb)(hc:PE X c tc)(hm:lastMarks [op,op'] [b,c]=false:=by with_unfolding_all rfl):PE X (.Compare a [op,op'] [b,c] pos) (vF r r' ta tb tc):=by
 sleep 1;refine Compare_chain (B1 (ha pins s Y H _ I h) fun v s1 ⟨x,H1,I1,r1,q1⟩=>chain_link (B1 (hb pins s1 Y H1 _ I1 q1) fun u s2 ⟨y,H2,I2,r2,q2⟩=>
  B1 (ho pins s2 Y H2 x y v u _ I2 r1 r2 q2) fun d s3 ⟨z,H3,I3,r3,k,e,q3⟩=>?_)) hm
 subst e
 cases r3
 refine wpAny_truthy_bool ?_
 cases k with
 | false=>exact ite_ff ⟨.bl false,H3,I3,rfl,q3⟩
 | true=>exact ite_tt (chain_last (B1 (hc pins s3 Y H3 _ I3 q3) fun w' s4 ⟨z',H4,I4,r4,q4⟩=>m5 pins s4 Y H4 y z' u w' Q I4 r2 r4 q4))
noncomputable def TruV (K:PySem.W.Frag) (x:V) (H:Hp) (k:Bool):Prop:=
 match x with
 | .non=>k=false
 | .bl b=>k=b
 | .int i=>k=(i != 0)
 | .str y=>y.length<=sizeLine/\k=((y.length:Int) != 0)
 | .byt y=>y.size<=sizeLine/\k=((y.size:Int) != 0)
 | .ref p=>(∃ xs,D1 K H p xs/\k=!xs.isEmpty)\/(∃ xs,A8 K H p xs/\k=!xs.isEmpty)\/∃ kvs,H p=some (.dK kvs)/\k=!kvs.isEmpty
 | _=>False
theorem aiE{κ:Type}{kvs:List (κ×V)}{vs:List (κ×Value)}(r:KV kvs vs):(!vs.isEmpty)=!kvs.isEmpty:=by
 cases r <;> rfl
theorem ae6{xs:List V}{its:List Value}(r:Vals xs its):(!its.toArray.isEmpty)=!xs.isEmpty:=by
 cases r <;> simp
theorem kF:(sizeLine:Nat)<2 ^ 63:=by rw [sizeLine_eq];decide
theorem aqG:TruR X (fun x H Q=>∃ k,TruV X.K x H k/\Q k H):=by
 intro pins s Y H x v Q I rx h;obtain ⟨k,e,q⟩:=h;have hl:=kF;have hs:sizeLine=16777216:=sizeLine_eq
 cases x with
 | non=>
  cases rx
  have e':k=false:=e;subst e';exact truthy_none ⟨H,I,q⟩
 | bl b=>
  cases rx
  have e':k=b:=e;subst e';exact wpAny_truthy_bool ⟨H,I,q⟩
 | int i=>
  obtain ⟨t,rfl⟩:=rx;have e':k=(i != 0):=e;subst e';exact PySem.P.truthy_int ⟨H,I,q⟩
 | str y=>
  obtain ⟨t,rfl⟩:=rx;obtain ⟨hy,e'⟩:y.length<=sizeLine/\k=((y.length:Int) != 0):=e;subst e';exact PySem.P.truthy_str 'a' ⟨H,I.tok _,q⟩
 | byt y=>
  obtain ⟨t,rfl⟩:=rx;obtain ⟨hy,e'⟩:y.size<=sizeLine/\k=((y.size:Int) != 0):=e;subst e';exact PySem.W.truthy_bytes 'a' ⟨H,I.tok _,q⟩
 | ref p=>
  cases rx
  have e':(∃ xs,D1 X.K H p xs/\k=!xs.isEmpty)\/(∃ xs,A8 X.K H p xs/\k=!xs.isEmpty)\/∃ kvs,H p=some (.dK kvs)/\k=!kvs.isEmpty:=e
  rcases e' with ⟨xs,hx,e'⟩ | ⟨xs,hx,e'⟩ | ⟨kvs,hx,e'⟩
  .subst e';obtain ⟨its,r,pl,hz⟩:=I.list hx;have A9:=r.length;exact wpAny_truthy_list pl.isList (by simp only [K9];lia) ⟨H,I.tok _,by rw [ae6 r];exact q⟩
  .subst e';obtain ⟨its,r,pl,hz⟩:=I.tuple hx;have A9:=r.length;exact truthy_tuple pl (by simp only [K9];lia) ⟨H,I.tok _,by rw [ae6 r];exact q⟩
  .subst e';obtain ⟨hz,hS,vs,r,m⟩:kvs.length<=sizeLine/\(p==sysModules)=false/\∃ vs,KV kvs vs/\s.heap.DictOf (N3 X.prog X.w) p vs:=I.hok p _ hx;have A9:kvs.length=vs.length:=Paired.length r;exact wpAny_truthy_dict hS m 'a' ⟨H,I.tok _,by rw [aiE r];exact q⟩
 | _=>exact (show False from e).elim
theorem als(ha:PE X a ta)(he:∀ whole,isTrue a X.env whole=(do let v <- whole;standAt a.pos;holding [v] (truthy v))) :
  PT X a (fun Y H Q=>ta Y H fun x H'=>∃ k,TruV X.K x H' k/\Q k H'):=by
 sleep 1;exact isTrue_plain (B1 (ha pins s Y H _ I h) fun v s1 ⟨x,H1,I1,r1,q1⟩=>aqG pins s1 Y H1 x v Q I1 r1 q1) (he _)
theorem aiF:J9 X (binaryOp .Add) (fun x y H Q=>∃ i j,x=.str i/\y=.str j/\i.length+j.length<=sizeLine/\Q (.str (i++j)) H):=by
 sleep 0;obtain ⟨i,j,rfl,rfl,hz,q⟩:=h;obtain ⟨t,rfl⟩:=rx;obtain ⟨t',rfl⟩:=ry;exact add_str (fun t' tk=>⟨.str (i++j),H,I.tok _,⟨_,rfl⟩,q⟩) hz
theorem vals1{x:V}{us:List Value}(r:Vals [x] us):∃ u,us=[u]/\RelV x u:=by
 cases r with
 | cons r1 r2=>cases r2;exact ⟨_,rfl,r1⟩
theorem vals2{x y:V}{us:List Value}(r:Vals [x,y] us):∃ u w',us=[u,w']/\RelV x u/\RelV y w':=by
 cases r with
 | cons r1 r2=>
  cases r2 with
  | cons r3 r4=>cases r4;exact ⟨_,_,rfl,r1,r3⟩
theorem ajA:CallR X (.type "int") (fun xs H Q=>(∃ i,xs=[.int i]/\Q (.int i) H)\/∃ k,xs=[.bl k]/\Q (.int (if k then 1 else 0)) H):=by
 intro pins s Y H xs us Q I r h
 rcases h with ⟨i,rfl,q⟩ | ⟨k,rfl,q⟩
 .obtain ⟨u,rfl,t,rfl⟩:=vals1 r;exact call_int_int ⟨.int i,H,I,⟨_,rfl⟩,q⟩
 .obtain ⟨u,rfl,r1⟩:=vals1 r
  cases r1
  exact call_int_bool ⟨.int (if k then 1 else 0),H,I.tok _,⟨_,rfl⟩,q⟩
noncomputable def LenV (K:PySem.W.Frag) (x:V) (H:Hp) (n:Nat):Prop:=
 match x with
 | .str y=>y.length<=sizeLine/\n=y.length
 | .byt y=>y.size<=sizeLine/\n=y.size
 | .ref p=>(∃ xs,D1 K H p xs/\n=xs.length)\/∃ xs,A8 K H p xs/\n=xs.length
 | _=>False
theorem vG:CallR X (.builtin "len") (fun xs H Q=>∃ x n,xs=[x]/\LenV X.K x H n/\Q (.int n) H):=by
 intro pins s Y H xs us Q I r h;obtain ⟨x,n,rfl,e,q⟩:=h;obtain ⟨u,rfl,rx⟩:=vals1 r;have hl:=kF;have hs:sizeLine=16777216:=sizeLine_eq
 cases x with
 | str y=>
  obtain ⟨t,rfl⟩:=rx;obtain ⟨hy,e'⟩:y.length<=sizeLine/\n=y.length:=e;subst e';exact len_str 'a' ⟨.int _,H,I.tok _,⟨_,rfl⟩,q⟩
 | byt y=>
  obtain ⟨t,rfl⟩:=rx;obtain ⟨hy,e'⟩:y.size<=sizeLine/\n=y.size:=e;subst e';exact PySem.W.len_bytes 'a' ⟨.int _,H,I.tok _,⟨_,rfl⟩,q⟩
 | ref p=>
  cases rx
  have e':(∃ xs,D1 X.K H p xs/\n=xs.length)\/∃ xs,A8 X.K H p xs/\n=xs.length:=e
  rcases e' with ⟨xs,hx,e'⟩ | ⟨xs,hx,e'⟩
  .subst e';obtain ⟨its,r',pl,hz⟩:=I.list hx;have A9:=r'.length;exact Calls.call_len_list pl.isList (by simp only [K9];lia) ⟨.int xs.length,H,I.tok _,⟨_,by simp only [K9];rw [A9]⟩,q⟩
  .subst e';obtain ⟨its,r',pl,hz⟩:=I.tuple hx;have A9:=r'.length;exact len_tuple pl (by simp only [K9];lia) ⟨.int xs.length,H,I.tok _,⟨_,by simp only [K9];rw [A9]⟩,q⟩
 | _=>exact (show False from e).elim
end
structure ObjM(h:Heap)(x dx C:Addr)(mA:Str->Option Value):Prop where
 obj:h.get? x=some (eN C dx)
 ns:h.Ns1 dx mA
 ne:dx≠x
theorem ajB{h:Heap}{dx:Addr}{mA:Str->Option Value}(n:h.Ns1 dx mA):∃ od,h.get? dx=some od/\∀ name,PySem.W.lookIn name od=some (mA name):=by
 obtain ⟨o,es,ep,ho,hd,hk,_,hm⟩:=n;refine ⟨o,ho,fun name=>?_⟩;have e:=hm name;unfold nsFind findBy at e;rw [<- Array.find?_toList] at e;unfold PySem.W.lookIn;rw [hd]
 dsimp only
 split
 .rename_i y q
  rw [q] at e;exact congrArg some e
 .rename_i q
  rw [q] at e;have a:es.toList.any (·.refKey)=false:=by
   rw [List.any_eq_false];intro y hy;obtain ⟨z,t,m6⟩:=hk y (Array.mem_toList_iff.mp hy);simp [DictEntry.refKey,m6]
  have a':¬ es.toList.any (·.refKey)=true:=by rw [a];exact L9
  rw [if_neg a'];exact congrArg some e
theorem ObjM.look{h:Heap}{x dx C:Addr}{mA:Str->Option Value}(I:ObjM h x dx C mA):∃ od,PySem.W.InstAt h x (eN C dx) C (some od)/\∀ name,PySem.W.lookIn name od=some (mA name):=
 let ⟨od,ho,hl⟩:=ajB I.ns
 ⟨od,⟨I.obj,rfl,rfl,ho⟩,hl⟩
section
variable {prog:Program} {w:World} {A:Around} {E:Value->Shared->Prop} {s:Shared} {K:PySem.W.Frag} {x dx C f:Addr} {mA:Str->Option Value} {name:Str} {v:Value}
theorem anN{expr:Bool}{Q:Value->Shared->Prop}(X:K.In s.heap)(I:ObjM s.heap x dx C mA)(hg:nB K C name=true)(hh:PySem.W.hasDictIn K C=true)(ha:R9 K (.ref C) name=some none)(hv:mA name=some v)(tR:PySem.W.handedIn v=true)(h:Q v { s with toks:=s.toks+1 }) :
  wpAny 'j' A (getAttr (.ref x) name expr) Q E s:=by
 obtain ⟨od,J,hl⟩:=I.look;exact PySem.W.get_value X J (PySem.W.plainGet_of hg).1 (PySem.W.findObj_own hh ha rfl (by rw [hl,hv])) tR h
theorem alt{pl:Sem Bool}{Q:Value×List Value->Shared->Prop}(X:K.In s.heap)(I:ObjM s.heap x dx C mA)(hg:nB K C name=true)(hf:R9 K (.ref C) name=some (some (.ref f)))(ht:gP K (.ref f)=true)(hv:mA name=none)(h:Q (.ref f,[.ref x]) s) :
  wpAny 'j' A (getMethod (.ref x) name pl) Q E s:=by
 obtain ⟨od,J,hl⟩:=I.look;exact PySem.W.method_fn X J (PySem.W.plainGet_of hg).1 (PySem.W.plainGet_of hg).2 hf (beq_iff_eq.mp ht) (by show (PySem.W.lookIn name od).map (·.isSome)=some false;rw [hl,hv];rfl) h
theorem anO{ns:List Str}{Q:Unit->Shared->Prop}(X:K.In s.heap)(I:ObjM s.heap x dx C mA)(hs:R9 K (.ref C) "__setattr__"=some (some (.builtin "object.__setattr__")))(hp:PySem.W.plainOver K C=true)(ht:PySem.W.takerIn K C name=some none)(hh:PySem.W.hasDictIn K C=true)(hw:PySem.Within mA ns)(hsz:ns.length<=sizeLine)(h:∀ h',ObjM h' x dx C (fun y=>if y=name then some v else mA y)->Heap.SameBut dx s.heap h'->Q () { s with heap:=h',toks:=s.toks+2 }) :
  wpAny 'j' A (setAttr (.ref x) name v) Q E s:=by
 obtain ⟨od,J,hl⟩:=I.look;refine PySem.W.set_plain X J hs (PySem.W.osa_open (s:={ s with toks:=s.toks+1 }) (r:=none) X J hp ht fun b=>?_);obtain ⟨cd,hc,iO⟩:=PySem.W.any_some hh;have hx:s.heap.get? x=some ⟨.ref C,some dx,.plain,#[]⟩:=I.obj;refine wpAny_bind (wpAny_pure (wpAny_bind (wpAny_bind (wpAny_loadPart hx (wpAny_bind (PySem.W.Looks.here (s:={ s with toks:=s.toks+1 }) (PySem.W.looks_clsIn X hc) ?_))))));rw [iO];refine wpAny_pure (a:=some dx) (wpAny_bind (wpAny_pure (wpAny_bind ?_)));refine wpAny_nsSet1 (s:={ s with toks:=s.toks+1 }) I.ns fun h' tS cZ=>?_
 obtain ⟨oD,esD,epD,hoD,hdD,hcD⟩:=tS.count (PySem.Within.cons name v hw);refine wpAny_bind (wpAny_lookBehind hoD (by rw [hdD];exact pastItsLine_dict (N8 hcD (by rw [L3];lia))) ?_);exact wpAny_pure (h _ ⟨(cZ.2 _ (Ne.symm I.ne)).trans I.obj,tS,I.ne⟩ cZ)
theorem alu{R:Result->Shared->Prop}{vs:List Value}{kw:List (Str×Value)}(X:K.In s.heap)(hm:PySem.W.makesIn K C=true)(hi:R9 K (.ref C) "__init__"=some (some (.ref f)))(hf:PySem.W.typeIn K (.ref f)=some (.type "function"))(h:codeAny 'j' (A.under (.builtin "type.__call__" ⟨.ref C::vs,kw⟩)) (.call (.ref f) ⟨.ref (s.heap.objs.size+1)::vs,kw⟩) (PySem.W.InitBack (s.heap.objs.size+1) R)
   { s with heap:=(s.heap.push cB).push (eN C s.heap.objs.size) }) :
  codeAny 'j' A (.call (.ref C) ⟨vs,kw⟩) R s:=by
 obtain ⟨hh,g,d,t,os⟩:=s;exact PySem.W.make_core (PySem.W.makes_of X hm) (PySem.W.looks_findIn X hi) (fun self=>PySem.W.bind_fn X self hf) 'f' h
end
noncomputable def putF (f:Str) (v:V):List (Str×V)->List (Str×V)
 | []=>[(f,v)]
 | (g,x)::r=>if g=f then (g,v)::r else (g,x)::putF f v r
theorem P0(f g:Str)(v:V):∀ fs:List (Str×V),(putF f v fs).lookup g=if g=f then some v else fs.lookup g
 | []=>by
  show eK g [(f,v)]=_
  by_cases h:g=f
  .have hb:(g==f)=true:=beq_iff_eq.mpr h;simp only [eK,hb,if_pos h]
  .have hb:(g==f)=false:=beq_eq_false_iff_ne.mpr h;simp only [eK,hb,if_neg h]
 | (k,x)::r=>by
  have ih:=P0 f g v r;rw [show putF f v ((k,x)::r)=(if k=f then (k,v)::r else (k,x)::putF f v r) from rfl]
  by_cases hk:k=f
  .rw [if_pos hk]
   by_cases h:g=k
   .have hb:(g==k)=true:=beq_iff_eq.mpr h;simp only [eK,hb,if_pos (h.trans hk)]
   .have hb:(g==k)=false:=beq_eq_false_iff_ne.mpr h;simp only [eK,hb,if_neg (fun e:g=f=>h (e.trans hk.symm))]
  .rw [if_neg hk]
   by_cases h:g=k
   .have hb:(g==k)=true:=beq_iff_eq.mpr h;simp only [eK,hb,if_neg (fun e:g=f=>hk (h.symm.trans e))]
   .have hb:(g==k)=false:=beq_eq_false_iff_ne.mpr h;simp only [eK,hb];exact ih
theorem vH(f:Str)(v:V):∀ fs:List (Str×V),f∈(putF f v fs).map (·.1)/\∀ g,g∈fs.map (·.1)->g∈(putF f v fs).map (·.1)
 | []=>⟨by simp [putF],fun g h=>by simp at h⟩
 | (k,x)::r=>by
  obtain ⟨i1,i2⟩:=vH f v r;rw [show putF f v ((k,x)::r)=(if k=f then (k,v)::r else (k,x)::putF f v r) from rfl]
  by_cases hk:k=f
  .rw [if_pos hk];subst hk;exact ⟨by simp,fun g h=>by simpa using h⟩
  .rw [if_neg hk];refine ⟨?_,fun g h=>?_⟩
   .rw [F6];exact O7 _ i1
   .rw [F6] at h ⊢
    rcases L4.mp h with e | e
    .exact L4.mpr (.inl e)
    .exact O7 _ (i2 g e)
theorem vI(f:Str)(v:V):∀ fs:List (Str×V),(putF f v fs).length<=fs.length+1
 | []=>by simp [putF]
 | (k,x)::r=>by
  have ih:=vI f v r;rw [show putF f v ((k,x)::r)=(if k=f then (k,v)::r else (k,x)::putF f v r) from rfl]
  by_cases hk:k=f
  .rw [if_pos hk,L3,L3];lia
  .rw [if_neg hk,L3,L3];lia
theorem nI{v:V}{o:Option Value}(r:RelO (some v) o):∃ u,o=some u/\RelV v u:=by
 cases o with
 | none=>exact (show False from r).elim
 | some u=>exact ⟨u,rfl,r⟩
theorem RelO.none_of{o:Option Value}(r:RelO none o):o=none:=by
 cases o with
 | none=>rfl
 | some u=>exact (show False from r).elim
theorem ajC{v:V}{u:Value}(r:RelV v u):PySem.W.handedIn u=true:=by
 cases v with
 | non=>cases (show u=Value.none from r);rfl
 | bl b=>cases (show u=Value.bool b from r);rfl
 | int i=>obtain ⟨t,e⟩:=(show ∃ t,u=Value.int i t from r);cases e;rfl
 | str x=>obtain ⟨t,e⟩:=(show ∃ t,u=Value.str x t from r);cases e;rfl
 | byt b=>obtain ⟨t,e⟩:=(show ∃ t,u=Value.bytes b t from r);cases e;rfl
 | flt b=>obtain ⟨t,e⟩:=(show ∃ t,u=Value.float b t from r);cases e;rfl
 | ref a=>cases (show u=Value.ref a from r);rfl
 | ty n=>cases (show u=Value.type n from r);rfl
section
variable {P:Program} {w:World} {H H':Hp} {h h':Heap} {a C dx:Addr} {fs fs':List (Str×V)}
theorem qU(hok:N4 P w H h)(e:H a=some (.ins C dx fs)):∃ mA,ObjM h a dx C mA/\(∀ f,RelO (fs.lookup f) (mA f))/\PySem.Within mA (fs.map (·.1))/\fs.length<=1000/\H dx=some (.own a):=by
 obtain ⟨d,z,ne,ob,mA,n,r,q⟩:=(show ObjOk P w H h a (.ins C dx fs) from hok a _ e)
 exact ⟨mA,⟨ob,n,ne⟩,r,q,z,d⟩
end
structure Cls(K:PySem.W.Frag)(C:Addr):Prop where
 pg:nB K C Str.empty=true
 hd:PySem.W.hasDictIn K C=true
 po:PySem.W.plainOver K C=true
 sa:R9 K (.ref C) "__setattr__"=some (some (.builtin "object.__setattr__"))
theorem Cls.get{K:PySem.W.Frag}{C:Addr}(c:Cls K C)(f:Str):nB K C f=true:=c.pg
noncomputable def NoAttr (K:PySem.W.Frag) (C:Addr) (f:Str):Prop:=R9 K (.ref C) f=some none
theorem NoAttr.taker{K:PySem.W.Frag}{C:Addr}{f:Str}(n:NoAttr K C f):PySem.W.takerIn K C f=some none:=by
 unfold PySem.W.takerIn;rw [show R9 K (.ref C) f=some none from n];rfl
structure Meth(K:PySem.W.Frag)(C:Addr)(m:Str)(f:Addr):Prop where
 at_:R9 K (.ref C) m=some (some (.ref f))
 fn:gP K (.ref f)=true
 kp:W3 K (.ref f)=true
section
variable {X:Cx} {pins:List (Addr×Obj)} {Y:St} {H:Hp} {s:Shared} {a C dx:Addr} {fs:List (Str×V)} {f:Str} {v:V} {A:Around} {E:Value->Shared->Prop}
theorem aiG{b:Bool}{Q:Value->Shared->Prop}(I:Inv X pins Y H s)(e:H a=some (.ins C dx fs))(c:Cls X.K C)(n:NoAttr X.K C f)(l:fs.lookup f=some v)(h:∀ u s',Inv X pins Y H s'->RelV v u->Q u s'):wpAny 'b' A (getAttr (.ref a) f b) Q E s:=by
 obtain ⟨mA,O,r,_,_,_⟩:=qU I.hok e;obtain ⟨u,hu,ru⟩:=nI (v:=v) (o:=mA f) (by rw [<- l];exact r f);exact anN I.kIn O (c.get f) c.hd n hu (ajC ru) (h u _ (I.tok _) ru)
theorem ae8{m:Str}{g:Addr}{pl:Sem Bool}{Q:Value×List Value->Shared->Prop}(I:Inv X pins Y H s)(e:H a=some (.ins C dx fs))(c:Cls X.K C)(k:Meth X.K C m g)(l:fs.lookup m=none)(h:Q (.ref g,[.ref a]) s):wpAny 'b' A (getMethod (.ref a) m pl) Q E s:=by
 obtain ⟨mA,O,r,_,_,_⟩:=qU I.hok e;have hn:mA m=none:=RelO.none_of (by rw [<- l];exact r m);exact alt I.kIn O (c.get m) k.at_ k.fn hn h
theorem aiH{y:V}{u:Value}{Q:Unit->Shared->Prop}(I:Inv X pins Y H s)(e:H a=some (.ins C dx fs))(c:Cls X.K C)(n:NoAttr X.K C f)(hl:fs.length<1000)(ry:RelV y u)(h:∀ s',Inv X pins Y (A0 H a (.ins C dx (putF f y fs))) s'->Q () s'):wpAny 'b' A (setAttr (.ref a) f u) Q E s:=by
 obtain ⟨mA,O,r,wi,_,ho⟩:=qU I.hok e;have hz:(fs.map (·.1)).length<=sizeLine:=by rw [A6,sizeLine_eq];lia
 refine anO I.kIn O c.sa c.po n.taker c.hd wi hz fun h' O' sb=>h _ ?_
 have hd:∃ o,h'.get? dx=some o:=let ⟨o,_,_,e',_⟩:=O'.ns;⟨o,e'⟩
 refine I.write (x:=a) (e:=dx) (by rw [e];exact True.intro) (.inr ho) (fun b q hb z=>(sb.2 b hb).trans z) hd ?_;refine ⟨by rw [A7 O.ne];exact ho,?_,O.ne,O'.obj,_,O'.ns,fun g=>?_,fun g hg=>?_⟩
 .have:=vI f y fs;lia
 .show RelO ((putF f y fs).lookup g) (if g=f then some u else mA g);rw [P0]
  by_cases q:g=f
  .rw [if_pos q,if_pos q];exact ry
  .rw [if_neg q,if_neg q];exact r g
 .by_cases q:g=f
  .rw [q];exact (vH f y fs).1
  .refine (vH f y fs).2 g (wi g fun z=>hg ?_);show (if g=f then some u else mA g)=none;rw [if_neg q];exact z
theorem Inv.made(I:Inv X pins Y H s):Inv X pins Y (A0 (A0 H s.heap.objs.size (.own (s.heap.objs.size+1))) (s.heap.objs.size+1) (.ins C s.heap.objs.size []))
  { s with heap:=(s.heap.push cB).push (eN C s.heap.objs.size) }:=by
 have e1:(s.heap.push cB).get? s.heap.objs.size=some cB:=Heap.get?_push_size s.heap rfl;have e2:((s.heap.push cB).push (eN C s.heap.objs.size)).get? (s.heap.objs.size+1)=some (eN C s.heap.objs.size):=by
  have:=Heap.get?_push_size (s.heap.push cB) (o:=eN C s.heap.objs.size) rfl
  rwa [Heap.size_push] at this
 have e3:(s.heap.push cB).Ns s.heap.objs.size (fun _=>none):=⟨cB,#[],_,e1,rfl,(fun e he=>absurd he 'd'),fun _=>rfl⟩
 have I1:=I.laid (a:=s.heap.objs.size) (o:=.own (s.heap.objs.size+1)) (h':=s.heap.push cB) (t':=s.toks) (fun b u q=>Heap.get?_push_of_some _ q) (C3 _) ⟨_,e1⟩;refine I1.laid (a:=s.heap.objs.size+1) (o:=.ins C s.heap.objs.size []) (t':=s.toks) (fun b u q=>Heap.get?_push_of_some _ q) (Nat.le_of_eq (Heap.size_push _ _)) ?_;have ne:s.heap.objs.size≠s.heap.objs.size+1:=M5 (kA _);refine ⟨by rw [A7 ne,A3],F7 _,ne,e2,fun _=>none,(Heap.Ns1.of_empty e3).at fun o q=>Heap.get?_push_of_some _ q,fun _=>True.intro,fun y hy=>absurd rfl hy⟩
theorem anP{prog:Program}{w:World}{env:Env}{e:Expr}{f:Str}{pos:Pos}{s:Shared}{Q:Value->Shared->Prop}(hb:attributeBase e f env (eval e env)=eval e env)(h:wpAny 'j' A (eval e env) (fun o zu=>wpAny 'j' A (getAttr o f true) Q E zu) E s):wpAny 'j' A (eval (.Attribute e f pos) env) Q E s:=
 Attribute_any_ h (by rw [arm_eval_Attribute,hb])
end
noncomputable def tFld (K:PySem.W.Frag) (ta:TE) (f:Str):TE:=fun Y H Q=>ta Y H fun x H1=>∃ a C dx fs v,x=.ref a/\H1 a=some (.ins C dx fs)/\Cls K C/\NoAttr K C f/\fs.lookup f=some v/\Q v H1
noncomputable def sFld (K:PySem.W.Frag) (ta tv:TE) (f:Str):TS:=fun D Y H=>tv Y H fun y H1=>ta Y H1 fun x H2=>∃ a C dx fs,x=.ref a/\H2 a=some (.ins C dx fs)/\Cls K C/\NoAttr K C f/\fs.length<1000/\
 D.nx Y (A0 H2 a (.ins C dx (putF f y fs)))
noncomputable def InOp (X:Cx) (op:Operator) (rd:V->V->Hp->VK->Prop):Prop:=
 ∀ (pins:List 'l') (s:Shared) (Y:St) (H:Hp) (x y:V) (u v:Value) (Q:VK),Inv X pins Y H s->RelV x u->RelV y v->rd x y H Q->wpAny 'b' X.A (inplaceOp op u v) (EP X pins Y Q) X.xe s
section
variable {X:Cx} {o e value:Expr} {f:Str} {pos pos' tpos:Pos} {ta tv:TE}
theorem aqH(he:PE X e ta)(hb:attributeBase e f X.env (eval e X.env)=eval e X.env):PE X (.Attribute e f pos) (tFld X.K ta f):=by
 sleep 1;refine anP hb (B1 (he pins s Y H _ I h) fun u s1 ⟨x,H1,I1,rx,a,C,dx,fs,v,ex,ea,c,n,l,q⟩=>?_);subst ex;obtain rfl:u=Value.ref a:=rx;exact aiG I1 ea c n l fun u' s2 I2 ru=>⟨v,H1,I2,ru,q⟩
theorem aqI(ha:PE X o ta)(hv:PE X value tv)(hs:swapsWith value (some (.Attribute o f pos')) pos.line X.env=pure false):PS X (.Assign [.Attribute o f pos'] value pos) (sFld X.K ta tv f):=by
 intro pins s Y H D I h;refine plainObj_wpAny_Assign_Attribute (B1 (hv pins s Y H _ I h) fun u s1 ⟨y,H1,I1,ry,q⟩=>B1 (ha pins s1 Y H1 _ I1 q) fun ov s2 ⟨x,H2,I2,rx,a,C,dx,fs,ex,ea,c,n,l,q2⟩=>?_) hs;subst ex;obtain rfl:ov=Value.ref a:=rx;exact aiH I2 ea c n l ry fun s3 I3=>⟨Y,_,I3,q2⟩
noncomputable def rAdd:V->V->Hp->VK->Prop:=fun x y H Q=>∃ i j,x=.int i/\y=.int j/\Q (.int (i+j)) H
noncomputable def rSub:V->V->Hp->VK->Prop:=fun x y H Q=>∃ i j,x=.int i/\y=.int j/\Q (.int (i-j)) H
theorem aqJ:InOp X .Add rAdd:=by
 rintro pins s Y H x y u v Q I rx ry ⟨i,j,rfl,rfl,q⟩;obtain ⟨t,rfl⟩:=(show ∃ t,u=Value.int i t from rx)
 obtain ⟨t',rfl⟩:=(show ∃ t',v=Value.int j t' from ry)
 exact PyProof.Rows.iadd_int ⟨.int (i+j),H,I.tok _,⟨_,rfl⟩,q⟩
theorem aqK:InOp X .Sub rSub:=by
 rintro pins s Y H x y u v Q I rx ry ⟨i,j,rfl,rfl,q⟩;obtain ⟨t,rfl⟩:=(show ∃ t,u=Value.int i t from rx)
 obtain ⟨t',rfl⟩:=(show ∃ t',v=Value.int j t' from ry)
 exact PyProof.Rows.isub_int ⟨.int (i-j),H,I.tok _,⟨_,rfl⟩,q⟩
end
section
variable {X:Cx} {pins:List (Addr×Obj)} {Y:St} {H:Hp} {s:Shared} {A:Around} {E:Value->Shared->Prop} {Q:Value->Shared->Prop} {c:Value} {b:Bool}
inductive TyOf (K:PySem.W.Frag) (H:Hp):V->Value->Prop where
 | non:TyOf K H .non (.type "NoneType")
 | bl (x:Bool):TyOf K H (.bl x) (.type "bool")
 | int (i:Int):TyOf K H (.int i) (.type "int")
 | str (x:Str):TyOf K H (.str x) (.type "str")
 | flt (x:UInt64):TyOf K H (.flt x) (.type "float")
 | lst {a:Addr} {xs:List V} (e:H a=some (.lst xs)):TyOf K H (.ref a) (.type "list")
 | frz {a:Addr} {o:Obj} {xs:List V} (e:H a=some (.frz o (.lst xs))):TyOf K H (.ref a) (.type "list")
 | tup {a:Addr} {xs:List V} (e:H a=some (.tup xs)):TyOf K H (.ref a) (.type "tuple")
 | dK {a:Addr} {kvs:List (B5×V)} (e:H a=some (.dK kvs)):TyOf K H (.ref a) (.type "dict")
 | dT {a:Addr} {kvs:List (List B5×V)} (e:H a=some (.dT kvs)):TyOf K H (.ref a) (.type "dict")
 | ins {a C dx:Addr} {fs:List (Str×V)} (e:H a=some (.ins C dx fs)) (cl:Cls K C) (ha:R9 K (.ref C) "__class__"=some (some (.builtin "object.__class__")))
   (hn:PySem.W.specialIn K (.builtin "object.__class__") "__get__"=some (some (.builtin "getset_descriptor.__get__"))) (htk:PySem.W.takesIn K (.builtin "object.__class__")=some true)
   (hm:PySem.W.mroIn K C (.type "object")=some true):TyOf K H (.ref a) (.ref C)
theorem ajD{x:V}{u t:Value}(I:Inv X pins Y H s)(rx:RelV x u)(ty:TyOf X.K H x t)(e:PySem.W.kitOne X.K t c=some b)(h:∀ tk,Q (.bool b) { s with toks:=tk }) :
  wpAny 'b' A (call (.builtin "isinstance") [u,c]) Q E s:=by
 cases ty with
 | non=>cases (show u=Value.none from rx);exact o7 PySem.W.kitx_none I.kIn True.intro e (fun z=>nomatch z) h
 | bl y=>cases (show u=Value.bool y from rx);exact o7 PySem.W.kitx_bool I.kIn True.intro e (fun z=>nomatch z) h
 | int i=>obtain ⟨t,q⟩:=(show ∃ t,u=Value.int i t from rx);cases q;exact o7 PySem.W.kitx_int I.kIn True.intro e (fun z=>nomatch z) h
 | str y=>obtain ⟨t,q⟩:=(show ∃ t,u=Value.str y t from rx);cases q;exact o7 PySem.W.kitx_str I.kIn True.intro e (fun z=>nomatch z) h
 | flt y=>obtain ⟨t,q⟩:=(show ∃ t,u=Value.float y t from rx);cases q;exact o7 PySem.W.kitx_float I.kIn True.intro e (fun z=>nomatch z) h
 | @lst a xs ea=>
  cases (show u=Value.ref a from rx)
  obtain ⟨_,_,n,_,h1⟩:=(show ObjOk X.prog X.w H s.heap a (.lst xs) from I.hok a _ ea)
  exact o7 PySem.W.kitx_list I.kIn ⟨_,h1,rfl⟩ e (fun z=>nomatch z) h
 | @frz a ob xs ea=>
  cases (show u=Value.ref a from rx)
  obtain ⟨_,_,_,n,_,h1⟩:=(show ObjOk X.prog X.w H s.heap a (.frz ob (.lst xs)) from I.hok a _ ea)
  exact o7 PySem.W.kitx_list I.kIn ⟨_,h1,rfl⟩ e (fun z=>nomatch z) h
 | @tup a xs ea=>
  cases (show u=Value.ref a from rx)
  obtain ⟨_,_,_,p⟩:=(show ObjOk X.prog X.w H s.heap a (.tup xs) from I.hok a _ ea)
  obtain ⟨o,h1,h2,_⟩:=p;exact o7 PySem.W.kitx_tuple I.kIn ⟨o,h1,h2⟩ e (fun z=>nomatch z) h
 | @dK a kvs ea=>
  cases (show u=Value.ref a from rx)
  obtain ⟨_,_,vs,_,p⟩:=(show ObjOk X.prog X.w H s.heap a (.dK kvs) from I.hok a _ ea)
  obtain ⟨o,es,ep,h1,h2,_⟩:=p;exact o7 PySem.W.kitx_dict I.kIn ⟨o,h1,h2.1⟩ e (fun z=>nomatch z) h
 | @dT a kvs ea=>
  cases (show u=Value.ref a from rx)
  obtain ⟨_,_,xs,_,o,es,ep,h1,h2,_⟩:=(show ObjOk X.prog X.w H s.heap a (.dT kvs) from I.hok a _ ea)
  exact o7 PySem.W.kitx_dict I.kIn ⟨o,h1,h2.1⟩ e (fun z=>nomatch z) h
 | @ins a C dx fs ea cl ha hn htk hm=>
  cases (show u=Value.ref a from rx)
  obtain ⟨mA,O,_⟩:=qU I.hok ea;obtain ⟨od,J,_⟩:=O.look;exact o7 (PySem.W.kitx_own (cl.get _) cl.hd ha hn htk hm) I.kIn J e (fun z=>nomatch z) h
end
structure Room(k:Nat)(A:Around):Prop where
 hd:A.handled=none
 dp:A.depth+3*k+5<recursionLimit
 un:A.units+16*k+200<cLine
 gd:A.guards=some []
theorem Room.mono{j k:Nat}{A:Around}(r:Room k A)(h:j<=k):Room j A:=⟨r.hd,by have:=r.dp;lia,by have:=r.un;lia,r.gd⟩
theorem Room.deeper{k:Nat}{A:Around}(r:Room (k+1) A)(env:Env):Room k (A.deeper env):=
 ⟨r.hd,by have:=r.dp;show A.depth+1+3*k+5<_;lia,by have:=r.un;show A.units+3+16*k+200<_;lia,r.gd⟩
theorem aiI{A:Around}{C:Addr}{us:List Value}{kw:List (Str×Value)} : (A.under (.builtin "type.__call__" ⟨.ref C::us,kw⟩)).depth=A.depth+1:=by
 first | rfl | simp [Around.under,Code.weight,Code.isCreation,Code.isGuard,Code.isCaller,Code.frames,Code.isFrame,guardIds]
theorem aiJ{A:Around}{C:Addr}{us:List Value}{kw:List (Str×Value)} : (A.under (.builtin "type.__call__" ⟨.ref C::us,kw⟩)).units=A.units+1:=by
 first | rfl | simp [Around.under,Code.cUnits,Code.frames,Code.isFrame]
theorem Room.make{k:Nat}{A:Around}(r:Room (k+1) A)(C:Addr)(us:List Value)(kw:List (Str×Value)):Room k (A.under (.builtin "type.__call__" ⟨.ref C::us,kw⟩)):=
 ⟨r.hd,by have:=r.dp;rw [aiI];lia,by have:=r.un;rw [aiJ];lia,r.gd⟩
theorem Room.depth{k:Nat}{A:Around}(r:Room k A):A.depth<recursionLimit:=by have:=r.dp;lia
theorem Room.units{k:Nat}{A:Around}(r:Room k A):A.units+64<cLine:=by have:=r.un;lia
noncomputable def tNil:TA:=fun _ H Q=>Q [] H
noncomputable def tCons (ta:TE) (tr:TA):TA:=fun Y H Q=>ta Y H fun x H1=>tr Y H1 fun xs H2=>Q (x::xs) H2
section
variable {X:Cx} {e:Expr} {es:List Expr} {te:TE} {t:TA} {pos:Pos}
theorem aqL:PA X [] tNil:=fun _ _ _ _ H Q I h=>Calls.spliced_nil ⟨[],H,I,.nil,h⟩
theorem anQ(ha:PE X e te)(hr:PA X es t)(hs:starEach (e::es) X.env=(false,eval e X.env)::starEach es X.env:=by rfl):PA X (e::es) (tCons te t):=by
 intro pos pins s Y H Q I h;rw [hs];show wpAny _ _ (spliced ((false,eval e X.env)::backTo pos (starEach es X.env))) _ _ s;refine Calls.spliced_cons (B1 (ha pins s Y H _ I h) fun u s1 ⟨x,H1,I1,r1,q1⟩=>?_);exact B1 (hr pos pins s1 Y H1 _ I1 q1) fun us s2 ⟨xs,H2,I2,r2,q2⟩=>⟨x::xs,H2,I2,.cons r1 r2,q2⟩
noncomputable def tTup (t:TA):TE:=fun Y H Q=>t Y H fun xs H1=>xs.length<=sizeLine/\∀ p,H1 p=none->Q (.ref p) (A0 H1 p (.tup xs))
noncomputable def tLst (t:TA):TE:=fun Y H Q=>t Y H fun xs H1=>xs.length<=sizeLine/\∀ p,H1 p=none->Q (.ref p) (A0 H1 p (.lst xs))
theorem aqM{x1}(h:PA X es t):PE X (.Tuple es x1 pos) (tTup t):=by
 intro pins s Y H Q I hq;refine wpAny_Tuple_spliced (B1 (h pos pins s Y H _ I hq) fun us s1 ⟨xs,H1,I1,r,z,q⟩=>⟨by rw [<- r.length];exact z,?_⟩);have hf:H1 s1.heap.objs.size=none:=I1.hok.fresh (C3 _);refine ⟨.ref s1.heap.objs.size,A0 H1 s1.heap.objs.size (.tup xs),I1.laid (t':=s1.toks) (fun b u e=>Heap.get?_push_of_some _ e) (C3 _) ?_,rfl,q _ hf⟩;exact ⟨z,us,r,⟨_,Heap.get?_push_size _ rfl,rfl,_,rfl⟩⟩
theorem aqN(h:PA X es t):PE X (.List es pos) (tLst t):=by
 intro pins s Y H Q I hq;refine wpAny_List_spliced (B1 (h pos pins s Y H _ I hq) fun us s1 ⟨xs,H1,I1,r,z,q⟩=>⟨by rw [<- r.length];exact z,?_⟩);have hf:H1 s1.heap.objs.size=none:=I1.hok.fresh (C3 _);refine ⟨.ref s1.heap.objs.size,A0 H1 s1.heap.objs.size (.lst xs),I1.laid (t':=s1.toks) (fun b u e=>Heap.get?_push_of_some _ e) (C3 _) ?_,rfl,q _ hf⟩;exact ⟨z,us,0,r,Heap.get?_push_size _ rfl⟩
end
noncomputable abbrev Sp:=List V->Hp->VK->XK->Prop
noncomputable abbrev k5:=List Env->Hp->Shared->XK->Value->Shared->Prop
structure Env0(P:Program)(w:World)(K:PySem.W.Frag)(mg:Str->Option Value)(base:Heap)(A:Around)(outer:List Env)(s:Shared)(H:Hp):Prop where
 frames:A.frames=some outer
 mod:Mod K mg base
 bs:∀ b o,base.get? b=some o->s.heap.get? b=some o/\H b=none
 bsz:base.objs.size<=s.heap.objs.size
 funs:s.heap.FunFrames base outer
 frf:∀ b∈v8 outer,H b=none
 hok:N4 P w H s.heap
 bare:AllBare s.gens
noncomputable def CE (outer:List Env) (P:Program) (w:World) (H:Hp) (s:Shared) (Q:VK) (u:Value) (s':Shared):Prop:=
 ∃ v H',s'.os=s.os/\AllBare s'.gens/\Un (v8 outer) [] H H' s.heap s'.heap/\N4 P w H' s'.heap/\RelV v u/\Q v H'
noncomputable def CR (CX:k5) (outer:List Env) (P:Program) (w:World) (H:Hp) (s:Shared) (Q:VK) (E:XK) (r:Result) (s':Shared):Prop:=
 match r with
 | .ok (.ret u)=>CE outer P w H s Q u s'
 | .ok _=>False
 | .error e=>CX outer H s E e s'
structure FnOk(P:Program)(w:World)(K:PySem.W.Frag)(mg:Str->Option Value)(base:Heap)(CX:k5)(k:Nat)(f:Addr)(fd:FuncData)(ps:List Str)(sp:Sp):Prop where
 len:∀ vs H Q E,sp vs H Q E->vs.length=ps.length
 run:∀ (A:Around) (outer:List Env) (s:Shared) (H:Hp) (args:Args) (us:List Value) (vs:List V) (Q:VK) (E:XK),Room k A->Env0 P w K mg base A outer s H->BindsTo s fd args (ps.zip us)->Vals vs us->sp vs H Q E->
  codeAny (model P w) A (.call (.ref f) args) (CR CX outer P w H s Q E) s
theorem Env0.make{P:Program}{w:World}{K:PySem.W.Frag}{mg:Str->Option Value}{base:Heap}{A:Around}{outer:List Env}{s:Shared}{H:Hp}(e:Env0 P w K mg base A outer s H)(C:Addr)(us:List Value)(kw:List (Str×Value)) :
  Env0 P w K mg base (A.under (.builtin "type.__call__" ⟨.ref C::us,kw⟩)) outer s H:=⟨by first | exact e.frames | (simpa [Around.under,Code.envs,Code.isFrame,pushEnvs] using e.frames),e.mod,e.bs,e.bsz,e.funs,e.frf,e.hok,e.bare⟩
section
variable {X:Cx} {pins:List (Addr×Obj)} {Y:St} {H:Hp} {s s':Shared}
theorem Inv.env0(I:Inv X pins Y H s):Env0 X.prog X.w X.K X.mg X.base X.A X.stack s H:=
 ⟨I.ok.frames,I.ok.mod,I.bs,N8 I.ok.bsz I.sz,I.stack,I.stkFree,I.hok,I.bare⟩
theorem Inv.after{Q:VK}{u:Value}(I:Inv X pins Y H s)(h:CE X.stack X.prog X.w H s Q u s'):EP X pins Y Q u s':=by
 obtain ⟨v,H',os,bare,un,hok,r,q⟩:=h;obtain ⟨hh,g,d,t,os'⟩:=s';obtain rfl:os'=s.os:=os;exact ⟨v,H',I.call (h':=hh) (g':=g) (d':=d) (t':=t) (ch:=[]) un hok bare (fun b z=>absurd z 'd'),r,q⟩
end
noncomputable def tCall (sp:Sp) (dvs:List V) (E:XK) (t:TA):TE:=fun Y H Q=>t Y H fun vs H1=>sp (vs++dvs) H1 Q E
noncomputable def tMeth (C:Addr) (m:Str) (sp:Sp) (dvs:List V) (E:XK) (ta:TE) (t:TA):TE:=fun Y H Q=>ta Y H fun x H1=>∃ a dx fs,x=.ref a/\H1 a=some (.ins C dx fs)/\fs.lookup m=none/\
 t Y H1 fun vs H2=>sp (x::(vs++dvs)) H2 Q E
noncomputable def tMake (C:Addr) (sp:Sp) (dvs:List V) (E:XK) (t:TA):TE:=fun Y H Q=>t Y H fun vs H1=>∀ x dx,H1 x=none->H1 dx=none->dx≠x->
 sp (.ref x::(vs++dvs)) (A0 (A0 H1 dx (.own x)) x (.ins C dx [])) (fun v H2=>v=.non/\Q (.ref x) H2) E
noncomputable def Binds (K:PySem.W.Frag) (fd:FuncData) (ps:List Str) (ds:List Value):Prop:=
 ∀ (s:Shared) (us:List Value),K.In s.heap->(us++ds).length=ps.length->BindsTo s fd ⟨us,[]⟩ (ps.zip (us++ds))
theorem Binds.all{K:PySem.W.Frag}{fd:FuncData}{ps:List Str}(h:∀ us:List Value,us.length=ps.length->bindArgs fd ⟨us,[]⟩=pure (ps.zip us)):Binds K fd ps []:=fun s us _ hl=>by
 rw [M8] at hl ⊢
 exact .of_eq (h us hl)
noncomputable def gR (CX:k5) (X:Cx) (E:XK):Prop:=∀ (pins:List 'l') (Y:St) (H:Hp) (s:Shared) (e:Value) (s':Shared),Inv X pins Y H s->CX X.stack H s E e s'->X.xe e s'
section
variable {X:Cx} {CX:k5} {k:Nat} {f C:Addr} {fd:FuncData} {ps:List Str} {sp:Sp} {dvs:List V} {ds:List Value} {E:XK} {x m:Str} {p pos apos:Pos} {e o:Expr} {es:List Expr} {ta:TE} {t:TA}
theorem vJ{pins:List 'l'}{Y:St}{H:Hp}{s:Shared}{Q:VK}{us:List Value}{vs:List V}(F:FnOk X.prog X.w X.K X.mg X.base CX k f fd ps sp)(hr:Room k X.A)(hb:Binds X.K fd ps ds)(hd:Vals dvs ds)(hx:gR CX X E)(I:Inv X pins Y H s)(r:Vals vs us)(h:sp (vs++dvs) H Q E):wpAny 'b' X.A (call (.ref f) us) (EP X pins Y Q) X.xe s:=by
 have r2:Vals (vs++dvs) (us++ds):=r.append hd;have hl:(us++ds).length=ps.length:=by rw [<- r2.length];exact F.len _ _ _ _ h
 refine wpAny_call (codeAny_mono (F.run X.A X.stack s H ⟨us,[]⟩ (us++ds) (vs++dvs) Q E hr I.env0 (hb s us I.kIn hl) r2 h) fun r s' hq=>?_)
 cases r with
 | error e=>exact hx pins Y H s e s' I hq
 | ok fl=>
  cases fl with
  | ret u=>exact I.after hq
  | next=>exact False.elim hq
  | brk=>exact False.elim hq
  | cont=>exact False.elim hq
theorem anR(F:FnOk X.prog X.w X.K X.mg X.base CX k f fd ps sp)(hr:Room k X.A)(hg:Gl X x)(hm:X.mg x=some (.ref f))(hk:W3 X.K (.ref f)=true)(hb:Binds X.K fd ps ds)(hd:Vals dvs ds)(hx:gR CX X E)(ha:PA X (e::es) t)(U0:(x=='o')=false:=by decide)(he:starEach (e::es) X.env=(false,eval e X.env)::starEach es X.env:=by rfl)(Y5:(backTo pos (starEach es X.env)).any (·.1)=false:=by rfl) :
  PE X (.Call (.Name x p) (e::es) [] pos) (tCall sp dvs E t):=by
 sleep 1;refine wpAny_Call_Name_kw (uV I hg hm ?_ U0);refine PySem.W.callWith_K (h₀:=X.base) I.ok.mod.kin hk (B1 (ha pos pins s Y H _ I h) fun us s1 ⟨vs,H1,I1,r,q⟩=>⟨I1.kIn,?_⟩) he Y5;exact vJ F hr hb hd hx I1 r q
theorem anS{pl:Sem Bool}(he:PE X o ta)(c:Cls X.K C)(hm:Meth X.K C m f)(F:FnOk X.prog X.w X.K X.mg X.base CX k f fd ps sp)(hr:Room k X.A)(hb:Binds X.K fd ps ds)(hd:Vals dvs ds)(hx:gR CX X E)(ha:PA X (e::es) t)(Z8:starEach (e::es) X.env=(false,eval e X.env)::starEach es X.env:=by rfl)(Y5:(backTo pos (starEach es X.env)).any (·.1)=false:=by rfl)(ht:eval (.Call (.Attribute o m apos) (e::es) [] pos) X.env=(do
   let ov <- eval o X.env
   standAt apos.atName
   let (f,first) <- holding [ov] (getMethod ov m pl)
   callWith pos f first (backTo pos (starEach (e::es) X.env)) (backToKw pos (keywordEach [] X.env))):=by rfl) :
  PE X (.Call (.Attribute o m apos) (e::es) [] pos) (tMeth C m sp dvs E ta t):=by
 sleep 1;refine PySem.W.methodCall_KW (pl:=pl) (B1 (he pins s Y H _ I h) fun u s1 ⟨x,H1,I1,rx,a,dx,fs,ex,ea,l,q⟩=>?_) ht;subst ex;obtain rfl:u=Value.ref a:=rx;refine ae8 I1 ea c hm l ?_;refine PySem.W.callWith_K (first:=[.ref a]) (h₀:=X.base) I.ok.mod.kin hm.kp (B1 (ha pos pins s1 Y H1 _ I1 q) fun us s2 ⟨vs,H2,I2,r,q2⟩=>⟨I2.kIn,?_⟩) Z8 Y5;exact vJ (us:=.ref a::us) (vs:=.ref a::vs) F hr hb hd hx I2 (.cons rfl r) q2
theorem alv{pl:Sem Bool}(he:PE X o ta)(c:Cls X.K C)(hm:Meth X.K C m f)(F:FnOk X.prog X.w X.K X.mg X.base CX k f fd ps sp)(hr:Room k X.A)(hb:Binds X.K fd ps ds)(hd:Vals dvs ds)(hx:gR CX X E)(ht:eval (.Call (.Attribute o m apos) [] [] pos) X.env=(do
   let ov <- eval o X.env
   standAt apos.atName
   let (f,first) <- holding [ov] (getMethod ov m pl)
   callWith pos f first (backTo pos (starEach [] X.env)) (backToKw pos (keywordEach [] X.env))):=by rfl) :
  PE X (.Call (.Attribute o m apos) [] [] pos) (tMeth C m sp dvs E ta tNil):=by
 sleep 1;refine PySem.W.methodCall_KW (pl:=pl) (B1 (he pins s Y H _ I h) fun u s1 ⟨x,H1,I1,rx,a,dx,fs,ex,ea,l,q⟩=>?_) ht;subst ex;obtain rfl:u=Value.ref a:=rx;refine ae8 I1 ea c hm l ?_;exact PySem.W.callWith_K0 (first:=[.ref a]) I1.kIn hm.kp (vJ (us:=[.ref a]) (vs:=[.ref a]) F hr hb hd hx I1 (.cons rfl .nil) q)
structure Mk(K:PySem.W.Frag)(C f:Addr):Prop where
 makes:PySem.W.makesIn K C=true
 init:R9 K (.ref C) "__init__"=some (some (.ref f))
 fn:gP K (.ref f)=true
 kp:W3 K (.ref C)=true
theorem alw{pins:List 'l'}{Y:St}{H:Hp}{s:Shared}{Q:VK}{us:List Value}{vs:List V}(M:Mk X.K C f)(F:FnOk X.prog X.w X.K X.mg X.base CX k f fd ps sp)(hr:Room (k+1) X.A)(hb:Binds X.K fd ps ds)(hd:Vals dvs ds)(hx:gR CX X E)(I:Inv X pins Y H s)(r:Vals vs us)(h:∀ x dx,H x=none->H dx=none->dx≠x->sp (.ref x::(vs++dvs)) (A0 (A0 H dx (.own x)) x (.ins C dx [])) (fun v H2=>v=.non/\Q (.ref x) H2) E) :
  wpAny 'b' X.A (call (.ref C) us) (EP X pins Y Q) X.xe s:=by
 have hq:=h (s.heap.objs.size+1) s.heap.objs.size (I.hok.fresh (Nat.le_succ _)) (I.hok.fresh (C3 _)) (M5 (kA _));have I2:=Inv.made (C:=C) I;have r2:Vals (V.ref (s.heap.objs.size+1)::(vs++dvs)) (Value.ref (s.heap.objs.size+1)::(us++ds)):=.cons rfl (r.append hd);have hl:(Value.ref (s.heap.objs.size+1)::us++ds).length=ps.length:=by
  have e:=r2.length;rw [F.len _ _ _ _ hq] at e;exact e.symm
 refine wpAny_call (alu (f:=f) I.kIn M.makes M.init (beq_iff_eq.mp M.fn) (codeAny_mono (F.run _ X.stack _ _ ⟨Value.ref (s.heap.objs.size+1)::us,[]⟩ (Value.ref (s.heap.objs.size+1)::(us++ds)) _ _ E (hr.make C us [])
  (I2.env0.make C us []) (hb _ (Value.ref (s.heap.objs.size+1)::us) I2.kIn hl) r2 hq) fun r s' iQ=>?_))
 cases r with
 | error e=>exact hx pins Y _ _ e s' I2 iQ
 | ok fl=>
  cases fl with
  | ret u=>
   obtain ⟨v,H',I3,rv,ev,q3⟩:=I2.after iQ;subst ev;exact ⟨rv,⟨V.ref (s.heap.objs.size+1),H',I3,rfl,q3⟩⟩
  | next=>exact False.elim iQ
  | brk=>exact False.elim iQ
  | cont=>exact False.elim iQ
theorem anT(M:Mk X.K C f)(F:FnOk X.prog X.w X.K X.mg X.base CX k f fd ps sp)(hr:Room (k+1) X.A)(hg:Gl X x)(hm:X.mg x=some (.ref C))(hb:Binds X.K fd ps ds)(hd:Vals dvs ds)(hx:gR CX X E)(ha:PA X (e::es) t)(U0:(x=='o')=false:=by decide)(he:starEach (e::es) X.env=(false,eval e X.env)::starEach es X.env:=by rfl)(Y5:(backTo pos (starEach es X.env)).any (·.1)=false:=by rfl) :
  PE X (.Call (.Name x p) (e::es) [] pos) (tMake C sp dvs E t):=by
 sleep 1;refine wpAny_Call_Name_kw (uV I hg hm ?_ U0);refine PySem.W.callWith_K (h₀:=X.base) I.ok.mod.kin M.kp (B1 (ha pos pins s Y H _ I h) fun us s1 ⟨vs,H1,I1,r,q⟩=>⟨I1.kIn,?_⟩) he Y5;exact alw M F hr hb hd hx I1 r q
end
noncomputable def PK (X:Cx) (kws:List Keyword) (t:TA):Prop:=
 ∀ (pos:Pos) (pins:List 'l') (s:Shared) (Y:St) (H:Hp) (Q:List V->Hp->Prop),Inv X pins Y H s->t Y H Q->wpAny 'b' X.A (evalAll ((backToKw pos (keywordEach kws X.env)).map (·.2))) (AP X pins Y Q) X.xe s
section
variable {X:Cx} {CX:k5} {k:Nat} {f C:Addr} {fd:FuncData} {ps ks:List Str} {sp:Sp} {E:XK} {x m:Str} {p pos apos kpos:Pos} {e o:Expr} {es:List Expr} {kws:List Keyword} {te ta:TE} {t tk:TA} {nm:Option Str}
theorem aqO:PK X [] tNil:=fun _ _ _ _ H Q I h=>wpAny_evalAll_nil ⟨[],H,I,.nil,h⟩
theorem anU(ha:PE X e te)(hr:PK X kws t):PK X (⟨nm,e,kpos⟩::kws) (tCons te t):=by
 intro pos pins s Y H Q I h;show wpAny _ _ (evalAll ((do let v <- eval e X.env;standAt pos;pure v)::(backToKw pos (keywordEach kws X.env)).map (·.2))) _ _ s;refine wpAny_evalAll_cons (wpAny_bind (B1 (ha pins s Y H _ I h) fun u s1 ⟨x,H1,I1,r1,q1⟩=>wpAny_bind (wpAny_standAt (wpAny_pure ?_))));exact B1 (hr pos pins s1 Y H1 _ I1 q1) fun us s2 ⟨xs,H2,I2,r2,q2⟩=>⟨x::xs,H2,I2,.cons r1 r2,q2⟩
variable {g:List Value->List Value->List Value} {gV:List V->List V->List V}
end
structure FnScope(N P:List Str)(sc:Scope):Prop where
 kind:sc.kind=.function
 co:sc.isCoroutine=false
 gen:sc.isGenerator=false
 nd:N.Nodup
 pre:N.take P.length=P
 par:∀ x∈P,sc.names.lookup x=some .local\/sc.names.lookup x=some .cell
 nofree:∀ y∈sc.names,y.2≠.free
theorem af4{kindOf:Str->Option NameKind}{x:Str} : ∀ {binds:List (Str×Value)} {m:Str->Option Value},(∀ v,(x,v)∉binds)->bindL kindOf binds m x=m x
 | [],_,_=>rfl
 | (n,v)::r,m,h=>by
  unfold bindL;rw [af4 fun w hw=>h w (O7 _ hw)]
  split
  .have:x≠n:=by rintro rfl;exact h v N2
   simp [this]
  .rfl
theorem af5{kindOf:Str->Option NameKind}{x:Str} : ∀ {binds:List (Str×Value)} {m:Str->Option Value},(∀ v,(x,v)∉binds)->bindC kindOf binds m x=m x
 | [],_,_=>rfl
 | (n,v)::r,m,h=>by
  unfold bindC;rw [af5 fun w hw=>h w (O7 _ hw)]
  split
  .rfl
  .have:x≠n:=by rintro rfl;exact h v N2
   simp [this]
theorem af6{kindOf:Str->Option NameKind}{x:Str}{v:Value} : ∀ {P:List Str} {vs:List Value} {i:Nat} {m:Str->Option Value},P.Nodup->P[i]?=some x->vs[i]?=some v->kindOf x=some .local->
  bindL kindOf (P.zip vs) m x=some v
 | [],_,_,_,_,h,_,_=>by simp at h
 | _::_,[],_,_,_,_,h,_=>by simp at h
 | p::P,w::vs,0,m,nd,h1,h2,hk=>by
  simp at h1 h2;subst h1;subst h2;show bindL kindOf ((p,w)::P.zip vs) m p=_;unfold bindL;rw [af4 fun v hv=>(W0.mp nd).1 (List.of_mem_zip hv).1,if_pos hk]
  simp
 | p::P,w::vs,i+1,m,nd,h1,h2,hk=>by
  show bindL kindOf ((p,w)::P.zip vs) m x=_;unfold bindL;exact af6 (i:=i) (W0.mp nd).2 (by simpa using h1) (by simpa using h2) hk
theorem af7{kindOf:Str->Option NameKind}{x:Str}{v:Value} : ∀ {P:List Str} {vs:List Value} {i:Nat} {m:Str->Option Value},P.Nodup->P[i]?=some x->vs[i]?=some v->kindOf x≠some .local->
  bindC kindOf (P.zip vs) m x=some v
 | [],_,_,_,_,h,_,_=>by simp at h
 | _::_,[],_,_,_,_,h,_=>by simp at h
 | p::P,w::vs,0,m,nd,h1,h2,hk=>by
  simp at h1 h2;subst h1;subst h2;show bindC kindOf ((p,w)::P.zip vs) m p=_;unfold bindC;rw [af5 fun v hv=>(W0.mp nd).1 (List.of_mem_zip hv).1,if_neg hk]
  simp
 | p::P,w::vs,i+1,m,nd,h1,h2,hk=>by
  show bindC kindOf ((p,w)::P.zip vs) m x=_;unfold bindC;exact af7 (i:=i) (W0.mp nd).2 (by simpa using h1) (by simpa using h2) hk
noncomputable def start (N:List Str) (vs:List V):St:=vs.map some++X6 (N.length-vs.length) none
noncomputable def cxOf (CX:k5) (P:Program) (w:World) (K:PySem.W.Frag) (mg:Str->Option Value) (base:Heap) (N:List Str) (qual:Str) (scope:Scope) (f:Addr) (cd:Value) (A:Around) (outer:List Env) (s:Shared) (H:Hp) (E:XK):Cx where
 prog:=P
 w:=w
 K:=K
 mg:=mg
 base:=base
 A:=A.deeper (envOfC qual scope s.heap.objs.size f cd)
 N:=N
 s₀:=s
 H₀:=H
 env:=envOfC qual scope s.heap.objs.size f cd
 outer:=outer
 stack:=envOfC qual scope s.heap.objs.size f cd::outer
 ex:=[]
 calm:=true
 fn:=fun _=>true
 pn:=[]
 xe:=fun e s'=>wpAny (model P w) (A.deeper (envOfC qual scope s.heap.objs.size f cd)) (leaving (envOfC qual scope s.heap.objs.size f cd) e) (fun _ s''=>CX outer H s E e s'') (fun e' s''=>CX outer H s E e' s'') s'
theorem ahT{sc:Scope}{n:Nat}{x:Str}(h:sc.names.lookup x=some .cell):∃ c,(cellsFrom n sc.names []).lookup x=some c:=by
 have q:=PySem.W.cellsFrom_some sc.names n [] (.inl h);exact Option.isSome_iff_exists.mp q
theorem ajF{CX:k5}{P:Program}{w:World}{K:PySem.W.Frag}{mg:Str->Option Value}{base:Heap}{N ps:List Str}{qual:Str}{scope:Scope}{f:Addr}{cd:Value}{A:Around}{outer:List Env}{s s1:Shared}{H:Hp}{E:XK}{us:List Value}{vs:List V}(S:FnScope N ps scope)(hd:A.handled=none)(e0:Env0 P w K mg base A outer s H)(hl:vs.length=ps.length)(r:Vals vs us)(x:InCallC s s.heap.objs.size (bindL (envOfC qual scope s.heap.objs.size f cd).kindOf (ps.zip us) fun _=>none) (cellsFrom (s.heap.objs.size+1) scope.names []) (bindC (envOfC qual scope s.heap.objs.size f cd).kindOf (ps.zip us) fun _=>none) s1) :
  Inv (cxOf CX P w K mg base N qual scope f cd A outer s H E) [] (start N vs) H s1:=by
 have Y5:ps.length<=N.length:=by have:=congrArg c0 S.pre;rw [G7] at this;lia
 obtain ⟨h1,tk,rfl,hk⟩:=x.done;have noA:∀ b:Addr,b∉(cxOf CX P w K mg base N qual scope f cd A outer s H E).ex:=fun b z=>absurd (show b∈([]:List Addr) from z) 'd'
 refine ⟨⟨e0.mod,S.kind,rfl,rfl,C3 _,fun y z c h1 h2=>?_,fun y hy=>?_,fun y c _ h=>?_,fun _=>hd,Around.frames_deeper e0.frames,.inr ⟨rfl,rfl⟩,fun b z=>absurd z (noA b),e0.bs,e0.bsz,fun b _ _=>noA b,fun b z=>absurd z (noA b),e0.funs,e0.frf⟩,
  rfl,e0.bare,Un.kept hk,⟨_,x.toInCall.ns,fun i y v h1 h2 h3=>?_⟩,fun y c h=>⟨_,x.cell y c h⟩,e0.hok.fresh (C3 _),fun y c h=>?_,fun p hp=>absurd (show p∈([]:List 'l') from hp) 'd',e0.hok.kept hk,?_⟩
 .exact name_of_addr x.apart (PySem.mem_of_lookup h1) (PySem.mem_of_lookup h2)
 .have hy:scope.names.lookup y=some .cell\/scope.names.lookup y=some .free:=hy
  rcases hy with hy | hy
  .exact ahT hy
  .exact absurd rfl (S.nofree _ (PySem.mem_of_lookup hy))
 .exact Nat.le_of_lt (x.above y c (PySem.mem_of_lookup h))
 .have hi:i<vs.length:=by
   unfold start at h2
   by_cases hi:i<vs.length
   .exact hi
   .rw [gG (by simpa using hi)] at h2;rw [List.getElem?_replicate] at h2
    split at h2 <;> cases h2
  have ha:vs[i]?=some v:=by
   unfold start at h2;rw [eD (by simpa using hi),U4] at h2;cases e:vs[i]? with
   | none=>rw [e] at h2;cases h2
   | some a=>rw [e] at h2;cases h2;rfl
  obtain ⟨u,hu,rv⟩:=r.get ha;have hp:ps[i]?=some y:=by
   rw [<- S.pre,List.getElem?_take_of_lt 'a'];exact h1
  have ndP:ps.Nodup:=by rw [<- S.pre];exact S.nd.sublist (List.take_sublist _ _)
  refine ⟨u,rv,?_⟩
  rcases S.par y (G6 hp) with k | k
  .exact .inl ⟨k,af6 ndP hp hu k⟩
  .obtain ⟨c,e⟩:=ahT (n:=s.heap.objs.size+1) k;refine .inr ⟨.inl k,c,e,?_⟩;have q:=x.cell y c e;rw [af7 ndP hp hu (by show scope.names.lookup y≠_;rw [k];decide)] at q;exact q
 .exact e0.hok.fresh (Nat.le_of_lt (x.above y c (PySem.mem_of_lookup h)))
 .unfold start;show _=N.length;rw [D9,A6,List.length_replicate];lia
theorem fn_of{CX:k5}{P:Program}{w:World}{K:PySem.W.Frag}{mg:Str->Option Value}{base:Heap}{k:Nat}{f:Addr}{name qual:Str}{params:Arguments}{body:List Stmt}{scope:Scope}{dV kV doc pm cdv ct oc:Value}{an od:Option Addr}{osl:Array (Option Value)}{N ps:List Str}{sp:Sp}(lk:K.lookup f=some ⟨oc,od,.func (U5 name qual params body scope dV kV doc pm an cdv ct),osl⟩)(u8:X7 K cdv qual=true)(S:FnScope N ps scope)(len:∀ vs H Q E,sp vs H Q E->vs.length=ps.length)(y8:∀ (A:Around) (outer:List Env) (s:Shared) (H:Hp) (vs:List V) (Q:VK) (E:XK),Room k (A.deeper (envOfC qual scope s.heap.objs.size f cdv))->sp vs H Q E->
   ∃ t,Z3 (cxOf CX P w K mg base N qual scope f cdv A outer s H E) body t/\t { nx:=fun _ H'=>Q .non H',rt:=Q } (start N vs) H) :
  FnOk P w K mg base CX (k+1) f (U5 name qual params body scope dV kV doc pm an cdv ct) ps sp:=by
 refine ⟨len,fun A outer s H args us vs Q E hr e0 hb r fO=>?_⟩;have hl:=len _ _ _ _ fO;have KX:K.In s.heap:=e0.mod.kin.keeps fun b o e=>(e0.bs b o e).1
 have lim:s.heap.NoLimit:=e0.mod.nolimit.keeps fun b o e=>(e0.bs b o e).1
 have pH:∀ y∈ps.zip us,scope.names.lookup y.1=some .local\/(scope.names.lookup y.1=some .cell/\((cellsFrom (s.heap.objs.size+1) scope.names []).lookup y.1).isSome=true):=fun ⟨n,v⟩ hy=>by
  rcases S.par n (List.of_mem_zip hy).1 with q | q
  .exact .inl q
  .exact .inr ⟨q,PySem.W.cellsFrom_some _ _ _ (.inl q)⟩
 refine codeAny_call_function hr.depth (KX _ _ lk) rfl S.co S.gen rfl (PySem.W.codeRec_of KX u8) (hb _ _ _ _ ?_);refine wpAny_newFunctionEnv_cells S.kind pH fun env he s1 x=>?_
 subst he;refine ⟨lim.keeps x.toInCall.keep,codeAny_func ?_⟩;obtain ⟨t,ht,hq⟩:=y8 A outer s H vs Q E (hr.deeper _) fO;have I:Inv (cxOf CX P w K mg base N qual scope f cdv A outer s H E) [] (start N vs) H s1:=ajF S hr.hd e0 hl r x;refine wpAny_mono (ht [] s1 (start N vs) H _ I hq) (fun fl s' hs=>?_) fun e s' hs=>hs
 have fin:∀ {σ':St} {H':Hp} {v:V} {u:Value},Inv (cxOf CX P w K mg base N qual scope f cdv A outer s H E) [] σ' H' s'->RelV v u->Q v H'->CE outer P w H s Q u s':=
  fun {σ' H' v u} J rv q=>⟨v,H',J.os,J.bare,J.base,J.hok,rv,q⟩
 cases fl with
 | ret u=>
  obtain ⟨v,σ',H',J,rv,q⟩:=hs;exact fin J rv q
 | next=>
  obtain ⟨σ',H',J,q⟩:=hs;exact fin (v:=V.non) (u:=Value.none) J rfl q
 | brk=>
  obtain ⟨_,_,_,q⟩:=hs;exact False.elim q
 | cont=>
  obtain ⟨_,_,_,q⟩:=hs;exact False.elim q
end L2
section
variable {C a b f fa fo it ll md ml p r rl:PySem.Addr}{dvs vs xs ys:List L2.V}{Q:L2.VK}{v v' x:L2.V}{cd ct oc pm u vl vu:PySem.Value}{a0 a1 ck i j k m n t' x1:Nat}{items items2:Array PySem.Value}{ds fr ns:List Int}{its its' its2 us:List PySem.Value}{pins:List (PySem.Addr×PySem.Obj)}{Y:L2.St}{H H' H0 H1 H2 H3 Hb zt:L2.Hp}{s zw:PySem.Shared}{A:PySem.Around}{name q qual y z z':PySem.Str}{h h':PySem.Heap}{L L' M M' N N' acc bad g' ks line loose ls ls' ms ps ts zs:List PySem.Str}{K:PySem.W.Frag}{mg:PySem.Str->Option PySem.Value}{fd:PySem.FuncData}{sp:L2.Sp}{X:L2.Cx}{kvs:List (L2.B5×L2.V)}{prog:PySem.Program}{E:PySem.Value->PySem.Shared->Prop}{S ixs l' pre:List Nat}{e elt iter target tg:PySem.Expr}{elts ifs:List PySem.Expr}{g:L2.TG}{c:L2.TT}{td te ti tk tl to tv tx ty:L2.TE}{fp rs:List PySem.Addr}{apos cpos kpos p1 pos1 spos tpos:PySem.Pos}{b' bh calm fg neg:Bool}{st:PySem.Stmt}{an od:Option PySem.Addr}{tb:L2.TS}{D:L2.Ends}{lo:Int}{o:PySem.Obj}{ta:L2.TA}{ss:Array (Option PySem.Value)}
namespace L2
open PySem PySem.Spec PyProof.Rows
section
variable {X:Cx} {x:Str} {p pos:Pos} {e:Expr} {es:List Expr} {t:TA} {id T:String} {r:List V->Hp->VK->Prop}
noncomputable def gT (r:List V->Hp->VK->Prop) (t:TA):TE:=fun Y H Q=>t Y H fun vs H1=>r vs H1 Q
theorem alx(hc:CallR X (.builtin id) r)(hg:Gl X x)(hm:X.mg x=none)(hv:bootBuiltins x=some (.builtin id))(ha:PA X (e::es) t)(hn:x≠"__name__":=by decide)(U0:(x=='o')=false:=by decide)(he:starEach (e::es) X.env=(false,eval e X.env)::starEach es X.env:=by rfl)(Y5:(backTo pos (starEach es X.env)).any (·.1)=false:=by rfl):PE X (.Call (.Name x p) (e::es) [] pos) (gT r t):=by
 sleep 1;refine wpAny_Call_Name_kw (aN I hg hm hv ?_ hn U0);exact PyProof.Rows.callWith_builtin1 (B1 (ha pos pins s Y H _ I h) fun us s1 ⟨vs,H1,I1,r1,q1⟩=>hc pins s1 Y H1 vs us Q I1 r1 q1) he Y5
theorem ajG(hc:CallR X (.type T) r)(hg:Gl X x)(hm:X.mg x=none)(hv:bootBuiltins x=some (.type T))(ha:PA X (e::es) t)(hn:x≠"__name__":=by decide)(U0:(x=='o')=false:=by decide)(he:starEach (e::es) X.env=(false,eval e X.env)::starEach es X.env:=by rfl)(Y5:(backTo pos (starEach es X.env)).any (·.1)=false:=by rfl):PE X (.Call (.Name x p) (e::es) [] pos) (gT r t):=by
 sleep 1;refine wpAny_Call_Name_kw (aN I hg hm hv ?_ hn U0);exact PyProof.Rows.callWith_type1 (B1 (ha pos pins s Y H _ I h) fun us s1 ⟨vs,H1,I1,r1,q1⟩=>hc pins s1 Y H1 vs us Q I1 r1 q1) he Y5
end
end L2
namespace HT
open PySem PyProof.Rows
section
variable {prog:Program} {w:World} {A:Around} {E:Value->Shared->Prop} {s:Shared}
theorem cat_tup{t:Addr}{vs ws:List Value}{Q:Value->Shared->Prop}(ht:IsTup s.heap t vs.toArray)(hb:IsTup s.heap b ws.toArray)(hv:vs≠[])(h1:ws=[]->Q (.ref t) s)(h2:ws≠[]->Q (.ref s.heap.objs.size) { s with heap:=s.heap.push { cls:=.type "tuple",data:=.seq (vs++ws).toArray } })(hsz:vs.length+ws.length<=sizeLine):wpAny 'j' A (binaryOp .Add (.ref t) (.ref b)) Q E s:=by
 obtain ⟨⟨cls,dd,data,sl⟩,ho,hc,n,hd⟩:=id ht;obtain ⟨⟨cls2,m7,data2,e9⟩,bL,P6,n2,V7⟩:=id hb;simp only at hc hd P6 V7;subst hc hd P6 V7;have e:vs.toArray++ws.toArray=(vs++ws).toArray:=by simp
 by_cases hw:ws=[]
 .exact concat_meets ⟨_,ho,rfl⟩ ⟨_,bL,rfl⟩ noFill_tuple_add seq_tuple_add PySem.F.slot_tuple_add PySem.F.entry_tuple_add (PySem.F.args_tuple_add_2 _ _)
   (tuple_addW1 t b vs.toArray ws.toArray n n2 dd m7 sl e9 (by simpa using hv) (by simp [hw])) ⟨ho,bL,h1 hw⟩
 .refine concat_meets ⟨_,ho,rfl⟩ ⟨_,bL,rfl⟩ noFill_tuple_add seq_tuple_add PySem.F.slot_tuple_add PySem.F.entry_tuple_add (PySem.F.args_tuple_add_2 _ _)
   (tuple_addW2 t b vs.toArray ws.toArray n n2 dd m7 sl e9 (by simpa using hv) (by simpa using hw) (by rw [K9,K9];exact hsz)) ⟨ho,bL,?_⟩
  rw [e];exact h2 hw
noncomputable def sIx (n d:Nat):Option Int->Nat
 | none=>d
 | some v=>if v<0 then (v+(n:Int)).toNat else min v.toNat n
theorem sIx_nat(n d k:Nat):sIx n d (some (k:Int))=min k n:=by
 show (if (k:Int)<0 then ((k:Int)+(n:Int)).toNat else min (k:Int).toNat n)=min k n;rw [if_neg 'a',Int.toNat_natCast]
theorem sIx_le(n d:Nat)(hd:d<=n)(o:Option Int):sIx n d o<=n:=by
 cases o with
 | none=>exact hd
 | some v=>
  show (if v<0 then (v+(n:Int)).toNat else min v.toNat n)<=n
  by_cases hv:v<0
  .rw [if_pos hv];lia
  .rw [if_neg hv];exact Nat.min_le_right _ _
theorem clip_eq(v:Int)(n d:Nat):(if v<0 then max (v+(n:Int)) 0 else min v (n:Int))=((sIx n d (some v):Nat):Int):=by
 show (if v<0 then max (v+(n:Int)) 0 else min v (n:Int))=(((if v<0 then (v+(n:Int)).toNat else min v.toNat n):Nat):Int)
 by_cases hv:v<0
 .simp only [if_pos hv];lia
 .simp only [if_neg hv];lia
theorem aiK(lo hi:Option Int)(n:Nat):Builtin.Slice.sliceAdjust lo hi 1 (n:Int)=(((sIx n 0 lo:Nat):Int),((sIx n n hi:Nat):Int)):=by
 have h1:¬ ((1:Int)<0):=by lia
 unfold Builtin.Slice.sliceAdjust;simp only [h1,if_false];refine Prod.ext ?_ ?_
 .cases lo with
  | none=>rfl
  | some v=>exact clip_eq v n 0
 .cases hi with
  | none=>rfl
  | some v=>exact clip_eq v n n
theorem aiL(i j:Nat):Builtin.Slice.slicePlaces (i:Int) (j:Int) 1=j-i:=by
 unfold Builtin.Slice.slicePlaces;have h1:(1:Int) > 0:=by lia
 simp only [h1,if_true,Int.ediv_one]
 split <;> lia
theorem ae9{v:Value}{o:Option Int}{Q:Option Int->Shared->Prop}(p:IsPart v o)(h:Q o s):wpAny 'j' A (Builtin.Slice.slicePartIndex v) Q E s:=by
 cases p with
 | none=>exact slicePart_none h
 | int i t=>exact slicePart_int h
theorem sliceApplied_gen{sl:Addr}{lo hi:Option Int}{Q:Int×Int×Nat->Shared->Prop}(hs:s.heap.IsSliceOf sl vl vu .none)(pl:IsPart vl lo)(pu:IsPart vu hi)(h:Q (((sIx n 0 lo:Nat):Int),1,sIx n n hi-sIx n 0 lo) s):wpAny 'j' A (Builtin.Slice.sliceApplied (.ref sl) (pure (n:Int))) Q E s:=by
 obtain ⟨os,iR,tT,fP⟩:=id hs;unfold Builtin.Slice.sliceApplied Builtin.Slice.sliceFields;refine wpAny_bind (wpAny_bind (wpAny_field iR fP (x:=vl) rfl (wpAny_bind (wpAny_field iR fP (x:=vu) rfl (wpAny_bind (wpAny_field iR fP (x:=.none) rfl (wpAny_pure ?_)))))));refine wpAny_bind (slicePart_none ?_);show wpAny _ _ (if ((1:Int)==0)=true then _ else _) _ _ s;rw [if_neg 'h'];refine wpAny_bind (ae9 pl (wpAny_bind (ae9 pu (wpAny_bind (wpAny_pure ?_)))));show wpAny _ _ (match Builtin.Slice.sliceAdjust lo hi 1 (n:Int) with | (lo,hi)=>pure (lo,(1:Int),Builtin.Slice.slicePlaces lo hi 1)) _ _ s;rw [aiK lo hi n];show wpAny _ _ (pure (((sIx n 0 lo:Nat):Int),(1:Int),Builtin.Slice.slicePlaces ((sIx n 0 lo:Nat):Int) ((sIx n n hi:Nat):Int) 1)) _ _ s;rw [aiL];exact wpAny_pure h
theorem aly(xs:Array Value)(i k:Nat):((U9 k).filterMap fun (m:Nat)=>xs[((i:Int)+(m:Int)*1).toNat]?).toArray=((xs.toList.drop i).take k).toArray:=by
 have e:(fun (m:Nat)=>xs[((i:Int)+(m:Int)*1).toNat]?)=fun m=>xs[i+m]?:=by
  funext m
  have:((i:Int)+(m:Int)*1).toNat=i+m:=by lia
  rw [this]
 rw [e]
 have:=pick_run xs i k
 rw [List.filterMap_map] at this;have e2:((fun x=>xs[x]?)∘fun x=>i+x)=fun m=>xs[i+m]?:=rfl
 rw [e2] at this;rw [this]
theorem getItem_tuple_cut{t sl:Addr}{lo hi:Option Int}{Q:Value->Shared->Prop}(ht:IsTup s.heap t items)(hs:s.heap.IsSliceOf sl vl vu .none)(pl:IsPart vl lo)(pu:IsPart vu hi)(hw:¬ (sIx items.size 0 lo=0/\sIx items.size items.size hi=items.size))(h:Q (.ref s.heap.objs.size) { s with heap:=s.heap.push { cls:=.type "tuple",data:=.seq ((items.toList.drop (sIx items.size 0 lo)).take (sIx items.size items.size hi-sIx items.size 0 lo)).toArray } })(hsz:items.size<=sizeLine):wpAny 'j' A (getItem (.ref t) (.ref sl)) Q E s:=by
 have i5:sizeOk (.seq ((items.toList.drop (sIx items.size 0 lo)).take (sIx items.size items.size hi-sIx items.size 0 lo)).toArray):=by
  show ((items.toList.drop (sIx items.size 0 lo)).take (sIx items.size items.size hi-sIx items.size 0 lo)).toArray.size<=sizeLine;rw [K9,G7,aK,eP];lia
 have hj:sIx items.size items.size hi<=items.size:=sIx_le _ _ (C3 _) hi;obtain ⟨os,iR,tT,fP⟩:=id hs;have hTs:s.TypeIs (.ref sl) "slice":=⟨os,iR,tT⟩
 unfold getItem
 try with_reducible refine wpAny_holding ?_
 first | refine wpAny_bind (wpAny_pure ?_) | skip
 refine wpAny_bind (wpAny_sequenceKey ht.typeIs 'h' ?_);refine wpAny_bind (wpAny_callSpecial?_slot (name:=Str.ofString "__getitem__") ht.typeIs PyProof.Rows.slot_tuple_getitem
  (wpAny_call_entry PyProof.Rows.slot_tuple_getitem ht.typeIs entry_tuple_getitem ?_ (args_tuple_getitem _ _)))
 show wpAny _ _ (Builtin.Tuple.tupleItemsOf (.ref t) >>= _) _ _ s;refine wpAny_bind (tupleItemsOf_ ht ?_);refine wpAny_bind (wpAny_typeOf hTs ?_);rw [if_pos 'h'];refine wpAny_bind (sliceApplied_gen hs pl pu ?_);have iS:¬ ((((sIx items.size 0 lo:Nat):Int)==0&&(1:Int)==1&&(sIx items.size items.size hi-sIx items.size 0 lo)==items.size)=true):=by
  intro q;rw [e8,e8] at q;have q1:((sIx items.size 0 lo:Nat):Int)=0:=eq_of_beq q.1.1;have q2:sIx items.size items.size hi-sIx items.size 0 lo=items.size:=eq_of_beq q.2;exact hw ⟨by lia,by lia⟩
 show wpAny _ _ (if (((sIx items.size 0 lo:Nat):Int)==0&&(1:Int)==1&&(sIx items.size items.size hi-sIx items.size 0 lo)==items.size)=true then _ else _) _ _ s;rw [if_neg iS,aly]
 first
  | exact wpAny_bind (m:=Builtin.Tuple.tupleExact _) (wpAny_newObj_type (wpAny_pure ⟨_,rfl,wpAny_pure h⟩) i5)
  | exact wpAny_bind (m:=Builtin.Tuple.tupleExact _) (wpAny_newObj_type (wpAny_bind (wpAny_pure (wpAny_pure ⟨_,rfl,wpAny_pure h⟩))) i5)
  | exact wpAny_bind (wpAny_bind (m:=Builtin.Tuple.tupleExact _) (wpAny_newObj_type (wpAny_pure (wpAny_pure ⟨_,rfl,wpAny_pure h⟩)) i5))
  | exact wpAny_bind (wpAny_bind (m:=Builtin.Tuple.tupleExact _) (wpAny_newObj_type (wpAny_pure ⟨_,rfl,wpAny_pure h⟩) i5))
end
end HT
namespace L2
open PySem PySem.Spec PyProof.Rows
noncomputable abbrev TO:=St->Hp->(Option Int->Hp->Prop)->Prop
noncomputable def PO (X:Cx) (e:Option Expr) (t:TO):Prop:=
 ∀ (pins:List 'l') (s:Shared) (Y:St) (H:Hp) (Q:Option Int->Hp->Prop),Inv X pins Y H s->t Y H Q->
  wpAny 'b' X.A (evalPart e X.env) (fun u s'=>∃ o H',Inv X pins Y H' s'/\IsPart u o/\Q o H') X.xe s
noncomputable def vK:TO:=fun _ H Q=>Q none H
noncomputable def tPart (t:TE):TO:=fun Y H Q=>t Y H fun x H1=>∃ i,x=.int i/\Q (some i) H1
theorem qV : ∀ {us:List Value},Vals (ns.map V.int) us->IntsAre us ns:=by
 induction ns with
 | nil=>intro us r;rw [List.map_nil] at r;cases r;exact .nil
 | cons n ns ih=>
  intro us r;rw [F6] at r
  cases r with
  | cons r1 r2=>
   obtain ⟨t,e⟩:=r1;subst e;exact .cons n t (ih r2)
section
variable {X:Cx} {e:Expr} {te:TE} {lo hi:Option Expr} {tl th:TO} {pos p2:Pos}
theorem anV:PO X none vK:=by
 sleep 1;rw [evalPart_none];exact wpAny_pure ⟨none,H,I,.none,h⟩
theorem anW(h:PE X e te):PO X (some e) (tPart te):=by
 intro pins s Y H Q I hw;rw [evalPart_some];refine B1 (h pins s Y H _ I hw) fun u s1 ⟨x,H1,I1,r1,q1⟩=>?_
 obtain ⟨i,rfl,q⟩:=q1;obtain ⟨t,rfl⟩:=r1;exact ⟨some i,H1,I1,.int i t,q⟩
noncomputable def kG (X:Cx) (r:V->Option Int->Option Int->Hp->VK->Prop):Prop:=
 ∀ (pins:List 'l') (s:Shared) (Y:St) (H:Hp) (x:V) (v vl vu:Value) (lo hi:Option Int) (sl:Addr) (Q:VK),Inv X pins Y H s->RelV x v->s.heap.IsSliceOf sl vl vu .none->IsPart vl lo->IsPart vu hi->r x lo hi H Q->
  ∃ T id,typeLookup (.type T) "__getitem__"=pure (some (.builtin id))/\s.TypeIs v T/\wpAny 'b' X.A (getItem v (.ref sl)) (EP X pins Y Q) X.xe s
noncomputable def vL (r:V->Option Int->Option Int->Hp->VK->Prop) (te:TE) (tl th:TO):TE:=fun Y H Q=>te Y H fun x H1=>tl Y H1 fun l H2=>th Y H2 fun u H3=>r x l u H3 Q
theorem alz{r:V->Option Int->Option Int->Hp->VK->Prop}(hr:kG X r)(he:PE X e te)(hl:PO X lo tl)(hu:PO X hi th):PE X (.Subscript e (.Slice lo hi none p2) pos) (vL r te tl th):=by
 sleep 1;refine Subscript_ (B1 (he pins s Y H _ I h) fun v s1 ⟨x,H1,I1,r1,q1⟩=>?_);refine wpAny_Slice (B1 (hl pins s1 Y H1 _ I1 q1) fun vl s2 ⟨l,H2,I2,pl,q2⟩=>B1 (hu pins s2 Y H2 _ I2 q2) fun vu s3 ⟨u,H3,I3,pu,q3⟩=>?_);rw [evalPart_none];refine wpAny_pure ?_;have I4:Inv X pins Y H3 { s3 with heap:=s3.heap.push { cls:=.type "slice",data:=.fields #[vl,vu,.none] } }:=I3.kept (t':=s3.toks) fun b ob q=>Heap.get?_push_of_some _ q
 obtain ⟨T,id,hT,ht,hg⟩:=hr pins { s3 with heap:=s3.heap.push { cls:=.type "slice",data:=.fields #[vl,vu,.none] } } Y H3 x v vl vu l u s3.heap.objs.size Q I4 r1 (Heap.IsSliceOf.new ..) pl pu q3;show wpAny 'b' X.A (subscriptTail e (.Slice lo hi none p2) v (.ref s3.heap.objs.size)) (EP X pins Y Q) X.xe { s3 with heap:=s3.heap.push { cls:=.type "slice",data:=.fields #[vl,vu,.none] } };exact tail_any (ops:=[.ref s3.heap.objs.size,v]) ht hT hg (by with_unfolding_all rfl)
noncomputable def cutV (xs:List V) (lo hi:Option Int):List V:=(xs.drop (HT.sIx xs.length 0 lo)).take (HT.sIx xs.length xs.length hi-HT.sIx xs.length 0 lo)
theorem aep(xs:List V)(lo hi:Option Int):(cutV xs lo hi).length<=xs.length:=by
 unfold cutV;rw [G7,aK];lia
noncomputable def rSlT (K:PySem.W.Frag):V->Option Int->Option Int->Hp->VK->Prop:=fun x lo hi H Q=>∃ a xs,x=.ref a/\A8 K H a xs/\
 ¬ (HT.sIx xs.length 0 lo=0/\HT.sIx xs.length xs.length hi=xs.length)/\∀ p,H p=none->Q (.ref p) (A0 H p (.tup (cutV xs lo hi)))
theorem aqP:kG X (rSlT X.K):=by
 intro pins s Y H x v vl vu lo hi sl Q I rx hs pl pu h;obtain ⟨a,xs,rfl,hx,hw,q⟩:=h
 cases rx
 obtain ⟨its,r,ht,hz⟩:=I.tuple hx;have A9:its.toArray.size=xs.length:=by rw [K9];exact r.length.symm
 refine ⟨"tuple",_,PyProof.Rows.slot_tuple_getitem.lookup,ht.typeIs,?_⟩;refine HT.getItem_tuple_cut ht hs pl pu (by rw [A9];exact hw) ?_ (by rw [A9];exact hz);rw [A9];refine ⟨.ref s.heap.objs.size,_,I.laid (t':=s.toks) (o:=.tup (cutV xs lo hi)) (fun b ob q=>Heap.get?_push_of_some _ q) (C3 _) ?_,rfl,q _ (I.hok.fresh (C3 _))⟩;exact ⟨N8 (aep xs lo hi) hz,_,(r.drop (HT.sIx xs.length 0 lo)).take (HT.sIx xs.length xs.length hi-HT.sIx xs.length 0 lo),IsTup.new _ _⟩
noncomputable def rCatT (K:PySem.W.Frag):R2:=fun x y H Q=>∃ a b xs ys,x=.ref a/\y=.ref b/\A8 K H a xs/\A8 K H b ys/\xs≠[]/\xs.length+ys.length<=sizeLine/\
 (ys=[]->Q (.ref a) H)/\(ys≠[]->∀ p,H p=none->Q (.ref p) (A0 H p (.tup (xs++ys))))
theorem Vals.nil_iff(r:Vals xs us):us=[]↔xs=[]:=by
 cases r with
 | nil=>simp
 | cons _ _=>simp
theorem anX:J9 X (binaryOp .Add) (rCatT X.K):=by
 sleep 0;obtain ⟨a,b,xs,ys,rfl,rfl,ha,hb,hx,hz,q1,q2⟩:=h
 cases rx
 cases ry
 obtain ⟨its,r1,p1,_⟩:=I.tuple ha;obtain ⟨its2,r2,p2,_⟩:=I.tuple hb;refine HT.cat_tup p1 p2 (fun z=>hx (r1.nil_iff.mp z)) (fun z=>⟨.ref a,H,I,rfl,q1 (r2.nil_iff.mp z)⟩) (fun z=>?_) (by rw [<- r1.length,<- r2.length];exact hz);refine ⟨.ref s.heap.objs.size,_,I.laid (t':=s.toks) (o:=.tup (xs++ys)) (fun b ob q=>Heap.get?_push_of_some _ q) (C3 _) ?_,rfl,q2 (fun w=>z (r2.nil_iff.mpr w)) _ (I.hok.fresh (C3 _))⟩;exact ⟨by rw [D9];exact hz,_,r1.append r2,IsTup.new _ _⟩
end
noncomputable def Y0 (n:Nat) (i:Int):Option Nat:=if 0<=i then (if i<n then some i.toNat else none) else if -(n:Int)<=i then some (i+n).toNat else none
noncomputable def F8 {α:Type} (xs:List α) (i:Int):Option α:=(Y0 xs.length i).bind fun j=>xs[j]?
theorem ajH{i:Int}(h:Y0 n i=some j):seqIndex? i n=some j/\j<n/\-(n:Int)<=i/\i<n:=by
 unfold Y0 at h
 by_cases h0:0<=i
 .rw [if_pos h0] at h
  by_cases h1:i<n
  .rw [if_pos h1] at h;have e:i.toNat=j:=Option.some.inj h;exact ⟨by rw [seqIndex_of h0 h1,e],by lia,by lia,h1⟩
  .rw [if_neg h1] at h;cases h
 .rw [if_neg h0] at h
  by_cases h1:-(n:Int)<=i
  .rw [if_pos h1] at h;have e:(i+n).toNat=j:=Option.some.inj h;exact ⟨by rw [seqIndex_neg 'a' h1,e],by lia,h1,by lia⟩
  .rw [if_neg h1] at h;cases h
theorem vM{α:Type}{xs:List α}{i:Int}{v:α}(h:F8 xs i=some v):∃ j,seqIndex? i xs.length=some j/\xs[j]?=some v/\j<xs.length/\-(xs.length:Int)<=i/\i<xs.length:=by
 unfold F8 at h;cases e:Y0 xs.length i with
 | none=>rw [e] at h;cases h
 | some j=>
  rw [e] at h;obtain ⟨h1,h2,h3,h4⟩:=ajH e;exact ⟨j,h1,h,h2,h3,h4⟩
theorem G8{α:Type}{xs:List α}{v:α}(h:xs[j]?=some v):F8 xs (j:Int)=some v:=by
 have hj:j<xs.length:=(E5.mp h).1;have e:Y0 xs.length (j:Int)=some j:=by
  unfold Y0;rw [if_pos 'a',if_pos 'a'];simp
 unfold F8;rw [e];exact h
theorem alA{α:Type}(xs:List α)(v:α):F8 (xs++[v]) (-1)=some v:=by
 have hl:(xs++[v]).length=xs.length+1:=by simp
 have e:Y0 (xs++[v]).length (-1)=some xs.length:=by
  unfold Y0;rw [hl,if_neg 'h',if_pos 'a']
  congr 1
  lia
 unfold F8;rw [e];show (xs++[v])[xs.length]?=some v
 simp
noncomputable def ajI (b:Expr):Prop:=∀ o i,subscripted b false o i=operate [o,i] (getItem o i)
noncomputable def cG (X:Cx) (r:R2):Prop:=
 ∀ (value slice:Expr) (pins:List 'l') (s:Shared) (Y:St) (H:Hp) (x y:V) (v u:Value) (Q:VK),Inv X pins Y H s->RelV x v->RelV y u->r x y H Q->
  subscripted slice false v u=operate [v,u] (getItem v u)->wpAny 'b' X.A (subscriptTail value slice v u) (EP X pins Y Q) X.xe s
noncomputable def qW (X:Cx) (id:String) (r:V->List V->Hp->VK->Prop):Prop:=
 ∀ (pins:List 'l') (s:Shared) (Y:St) (H:Hp) (x:V) (xs:List V) (v:Value) (us:List Value) (Q:VK),Inv X pins Y H s->RelV x v->Vals xs us->r x xs H Q->
  wpAny 'b' X.A (call (.builtin id) (v::us)) (EP X pins Y Q) X.xe s
section
variable {X:Cx} {a b:Expr} {ta tb:TE} {pos:Pos}
theorem cG.or{r r':R2}(h:cG X r)(h':cG X r'):cG X (fun x y H Q=>r x y H Q\/r' x y H Q):=by
 intro value slice pins s Y H x y v u Q I rx ry q hs
 rcases q with q | q
 .exact h value slice pins s Y H x y v u Q I rx ry q hs
 .exact h' value slice pins s Y H x y v u Q I rx ry q hs
theorem pe_ix{r:R2}(hr:cG X r)(ha:PE X a ta)(hb:PE X b tb)(hs:ajI b):PE X (.Subscript a b pos) (cF r ta tb):=by
 sleep 1;exact Subscript_ (binT ha hb I h fun v u s2 x y H2 I2 rx ry q=>hr a b pins s2 Y H2 x y v u Q I2 rx ry q (hs _ _))
noncomputable def rIxL (K:PySem.W.Frag):R2:=fun x y H Q=>∃ p xs i v,x=.ref p/\y=.int i/\D1 K H p xs/\F8 xs i=some v/\Q v H
noncomputable def rIxT (K:PySem.W.Frag):R2:=fun x y H Q=>∃ p xs i v,x=.ref p/\y=.int i/\A8 K H p xs/\F8 xs i=some v/\Q v H
noncomputable def rIxS:R2:=fun x y H Q=>∃ z i c,x=.str z/\y=.int i/\z.length<=sizeLine/\F8 z.cps.toList i=some c/\Q (.str ⟨#[c]⟩) H
theorem ix_list:cG X (rIxL X.K):=by
 intro value slice pins s Y H x y v u Q I rx ry h hs;obtain ⟨p,xs,i,z,rfl,rfl,hq,he,q⟩:=h
 cases rx
 obtain ⟨t,rfl⟩:=ry;obtain ⟨its,r,pl,hz⟩:=I.list hq;obtain ⟨j,h1,h2,h3,h4,h5⟩:=vM he;obtain ⟨w,ew,rw'⟩:=r.get h2;have hl:=r.length;have hn:=kF;have fin:EP X pins Y Q w s:=⟨z,H,I,rw',q⟩
 by_cases h0:0<=i
 .have hj:i.toNat=j:=by
   rw [seqIndex_of h0 h5] at h1;exact Option.some.inj h1
  exact item_listR pl.isList h0 'a' (by rw [hj];simpa using ew) fin hs
 .have hj:(i+(its.toArray.size:Int)).toNat=j:=by
   rw [seqIndex_neg 'a' h4] at h1;rw [K9,<- hl];exact Option.some.inj h1
  exact subscriptTail_builtinR (x:=w) pl.isList.typeIs slot_list_getitem.lookup
   (wpAny_getItem_list_neg (Q:=fun r s'=>r=w/\EP X pins Y Q r s') pl.isList 'a' (by rw [K9] <;> lia) 'a' (by rw [hj];simpa using ew) ⟨rfl,fin⟩) hs
theorem ix_tup:cG X (rIxT X.K):=by
 intro value slice pins s Y H x y v u Q I rx ry h hs;obtain ⟨p,xs,i,z,rfl,rfl,hq,he,q⟩:=h
 cases rx
 obtain ⟨t,rfl⟩:=ry;obtain ⟨its,r,pl,hz⟩:=I.tuple hq;obtain ⟨j,h1,h2,h3,h4,h5⟩:=vM he;obtain ⟨w,ew,rw'⟩:=r.get h2;have hl:=r.length;have hn:=kF;have fin:EP X pins Y Q w s:=⟨z,H,I,rw',q⟩
 exact subscriptTail_builtinR (x:=w) pl.typeIs slot_tuple_getitem.lookup
  (getItem_tuple (j:=j) (Q:=fun r s'=>r=w/\EP X pins Y Q r s') pl 'a' 'a' (by rw [K9,<- hl];exact h1) (by simpa using ew) ⟨rfl,fin⟩) hs
theorem aqQ:cG X rIxS:=by
 intro value slice pins s Y H x y v u Q I rx ry h hs;obtain ⟨z,i,c,rfl,rfl,hz,he,q⟩:=h;obtain ⟨t,rfl⟩:=rx;obtain ⟨t',rfl⟩:=ry;obtain ⟨j,h1,h2,h3,h4,h5⟩:=vM he;have hl:z.cps.toList.length=z.length:=by simp [Str.length]
 rw [hl] at h1 h4 h5;have hn:=kF;exact tail_any (typeIs_str s z t) slot_str_getitem.lookup (getItem_str (c:=c) (by
  have e1:decide (i < -(2 ^ 63:Int))=false:=decide_eq_false 'a';have e2:decide (i≥2 ^ 63)=false:=decide_eq_false 'a';rw [e1,e2,Bool.or_false]) (by rw [h1];simpa using h2) ⟨.str ⟨#[c]⟩,H,I.tok _,⟨_,rfl⟩,q⟩) hs
noncomputable def kH (K:PySem.W.Frag):R2:=fun x y H Q=>rIxL K x y H Q\/rIxT K x y H Q\/rIxS x y H Q
theorem aqR:cG X (kH X.K):=ix_list.or (ix_tup.or aqQ)
theorem aiM(its:List Value)(n j:Nat)(u:Value):Obj.mapSeq (·.setIfInBounds j u) { cls:=.type "list",data:=.seq its.toArray n }={ cls:=.type "list",data:=.seq (its.set j u).toArray n }:=by
 simp [Obj.mapSeq]
theorem Inv.lst(I:Inv X pins Y H s)(h:H p=some (.lst xs)) :
  ∃ (its:List Value) (n:Nat),Vals xs its/\s.heap.get? p=some { cls:=.type "list",data:=.seq its.toArray n }/\xs.length<=sizeLine:=by
 obtain ⟨z,its,n,r,e⟩:=I.hok p _ h;exact ⟨its,n,r,e,z⟩
theorem Inv.lstUpd{n':Nat}{f:Obj->Obj}(I:Inv X pins Y H s)(h:H p=some (.lst xs))(ho:s.heap.get? p=some { cls:=.type "list",data:=.seq its.toArray n })(hf:f { cls:=.type "list",data:=.seq its.toArray n }={ cls:=.type "list",data:=.seq its'.toArray n' })(r:Vals ys its')(hz:ys.length<=sizeLine)(t:Nat) :
  Inv X pins Y (A0 H p (.lst ys)) { s with heap:=s.heap.update p f,toks:=t }:=by
 have e:(s.heap.update p f).get? p=some { cls:=.type "list",data:=.seq its'.toArray n' }:=by
  rw [Heap.get?_update_self f ho (by rw [hf] <;> rfl),hf]
 refine I.write (x:=p) (e:=p) (by rw [h];trivial) 'f' (fun b u hb q=>(Heap.get?_update_other _ _ (Ne.symm hb)).trans q) ⟨_,e⟩ ?_;exact ⟨hz,its',n',r,e⟩
noncomputable def rSetL:V->V->V->Hp->(Hp->Prop)->Prop:=fun o i v H Q=>∃ p xs k j,o=.ref p/\i=.int k/\H p=some (.lst xs)/\Y0 xs.length k=some j/\Q (A0 H p (.lst (xs.set j v)))
theorem alB:PSet X rSetL:=by
 intro pins s Y H o i v ov iv u Q I ro ri rv h;obtain ⟨p,xs,k,j,rfl,rfl,hp,hj,q⟩:=h
 cases ro
 obtain ⟨t,rfl⟩:=ri;obtain ⟨its,n,r,ho,hz⟩:=I.lst hp;obtain ⟨h1,h2,h3,h4⟩:=ajH hj;have hl:=r.length;have hn:=kF;have I':Inv X pins Y (A0 H p (.lst (xs.set j v))) { s with heap:=s.heap.update p (Obj.mapSeq (·.setIfInBounds j u)) }:=
  I.lstUpd hp ho (aiM its n j u) (r.set rv j) (by rw [List.length_set];exact hz) s.toks
 by_cases h0:0<=k
 .have hk:k.toNat=j:=by
   rw [seqIndex_of h0 h4] at h1;exact Option.some.inj h1
  exact PySem.W.ki_setAt ho h0 'a' (by rw [K9,<- hl];exact h4) (by rw [hk];exact ⟨_,I',q⟩)
 .have hk:(k+(its.toArray.size:Int)).toNat=j:=by
   rw [seqIndex_neg 'a' h3] at h1;rw [K9,<- hl];exact Option.some.inj h1
  exact PySem.W.ki_setBack ho 'a' (by rw [K9,<- hl];exact h3) 'a' (by rw [hk];exact ⟨_,I',q⟩)
theorem af8(lo hi:Option Int)(n:Nat):(sliceBounds lo hi none n).1=((HT.sIx n 0 lo:Nat):Int)/\(sliceBounds lo hi none n).2.1=((HT.sIx n n hi:Nat):Int)/\(sliceBounds lo hi none n).2.2=1:=by
 refine ⟨?_,?_,rfl⟩
 .cases lo with
  | none=>simp [sliceBounds,HT.sIx]
  | some i=>
   simp only [sliceBounds,HT.sIx,Option.getD_none,show (1:Int) > 0 by decide,if_true]
   by_cases h:i<0
   .simp only [h,if_true] <;> lia
   .simp only [h,if_false] <;> lia
 .cases hi with
  | none=>simp [sliceBounds,HT.sIx]
  | some i=>
   simp only [sliceBounds,HT.sIx,Option.getD_none,show (1:Int) > 0 by decide,if_true]
   by_cases h:i<0
   .simp only [h,if_true] <;> lia
   .simp only [h,if_false] <;> lia
theorem afB(its:List Value)(lo hi:Option Int):slicePick its.toArray lo hi none=((its.drop (HT.sIx its.length 0 lo)).take (HT.sIx its.length its.length hi-HT.sIx its.length 0 lo)).toArray:=by
 obtain ⟨h1,h2,h3⟩:=af8 lo hi its.toArray.size;unfold slicePick;rw [h1,h2,h3];simp only [sliceRange_one,pick_run,K9] <;> rfl
noncomputable def rSlL (K:PySem.W.Frag):V->Option Int->Option Int->Hp->VK->Prop:=fun x lo hi H Q=>∃ a xs,x=.ref a/\D1 K H a xs/\∀ p,H p=none->Q (.ref p) (A0 H p (.lst (cutV xs lo hi)))
theorem anY:kG X (rSlL X.K):=by
 intro pins s Y H x v vl vu lo hi sl Q I rx hs pl pu h;obtain ⟨a,xs,rfl,hx,q⟩:=h
 cases rx
 obtain ⟨its,r,ht,hz⟩:=I.list hx;have A9:=r.length;refine ⟨"list",_,slot_list_getitem.lookup,ht.isList.typeIs,?_⟩;refine wpAny_getItem_list_slice ht.isList hs pl pu .none 'd' ?_ (by rw [K9] <;> lia);rw [afB,<- A9];refine ⟨.ref s.heap.objs.size,_,I.laid (t':=s.toks) (o:=.lst (cutV xs lo hi)) (fun b ob q=>Heap.get?_push_of_some _ q) (C3 _) ?_,rfl,q _ (I.hok.fresh (C3 _))⟩;exact ⟨N8 (aep xs lo hi) hz,_,0,(r.drop (HT.sIx xs.length 0 lo)).take (HT.sIx xs.length xs.length hi-HT.sIx xs.length 0 lo),Heap.get?_push_size _ rfl⟩
noncomputable def flatV:V->Bool
 | .non=>true
 | .bl _=>true
 | .int _=>true
 | .str _=>true
 | _=>false
noncomputable def eT:V->V->Bool
 | .non,.non=>true
 | .bl a,.bl b=>a==b
 | .bl a,.int b=>(if a then 1 else 0)==b
 | .int a,.bl b=>a==(if b then 1 else 0)
 | .int a,.int b=>a==b
 | .str a,.str b=>a==b
 | _,_=>false
theorem aqS{y:V}{v:Value}(ry:RelV y u)(rx:RelV x v)(fy:flatV y=true)(fx:flatV x=true):SeqAt.EqAt A s u v (eT y x):=by
 cases y with
 | non=>
  cases ry
  cases x with
  | non=>cases rx;exact SeqAt.EqAt.same _
  | bl b=>cases rx;exact SeqAt.EqAt.none_bool b
  | int b=>obtain ⟨t,rfl⟩:=rx;exact SeqAt.EqAt.none_int b t
  | str b=>obtain ⟨t,rfl⟩:=rx;exact SeqAt.EqAt.none_str b t
  | _=>exact absurd (show false=true from fx) L9
 | bl a=>
  cases ry
  cases x with
  | non=>cases rx;exact SeqAt.EqAt.bool_none a
  | bl b=>cases rx;exact SeqAt.EqAt.bool_bool a b
  | int b=>obtain ⟨t,rfl⟩:=rx;exact SeqAt.EqAt.bool_int a b t
  | str b=>obtain ⟨t,rfl⟩:=rx;exact SeqAt.EqAt.bool_str a b t
  | _=>exact absurd (show false=true from fx) L9
 | int a=>
  obtain ⟨t',rfl⟩:=ry
  cases x with
  | non=>cases rx;exact SeqAt.EqAt.int_none a t'
  | bl b=>cases rx;exact SeqAt.EqAt.int_bool a t' b
  | int b=>obtain ⟨t,rfl⟩:=rx;exact SeqAt.EqAt.int_int a t' b t
  | str b=>obtain ⟨t,rfl⟩:=rx;exact SeqAt.EqAt.int_str a t' b t
  | _=>exact absurd (show false=true from fx) L9
 | str a=>
  obtain ⟨t',rfl⟩:=ry
  cases x with
  | non=>cases rx;exact SeqAt.EqAt.str_none a t'
  | bl b=>cases rx;exact SeqAt.EqAt.str_bool a t' b
  | int b=>obtain ⟨t,rfl⟩:=rx;exact SeqAt.EqAt.str_int a t' b t
  | str b=>obtain ⟨t,rfl⟩:=rx;exact SeqAt.EqAt.str_str a t' b t
  | _=>exact absurd (show false=true from fx) L9
 | _=>exact absurd (show false=true from fy) L9
noncomputable def Z4 (x:V) (u:Value):Bool:=match u with
 | .none=>eT .non x
 | .bool b=>eT (.bl b) x
 | .int i _=>eT (.int i) x
 | .str z _=>eT (.str z) x
 | _=>false
theorem amV{y:V}(r:RelV y u)(f:flatV y=true):Z4 x u=eT y x:=by
 cases y with
 | non=>cases r;rfl
 | bl b=>cases r;rfl
 | int i=>obtain ⟨t,rfl⟩:=r;rfl
 | str z=>obtain ⟨t,rfl⟩:=r;rfl
 | _=>exact absurd (show false=true from f) L9
theorem nJ : ∀ {xs:List V} {us:List Value},Vals xs us->xs.all flatV=true->us.any (Z4 x)=xs.any fun y=>eT y x
 | _,_,.nil,_=>rfl
 | y::xs,u::us,.cons r t,f=>by
  rw [List.all_cons,e8] at f;rw [aL,aL,amV r f.1,nJ t f.2]
theorem nK{v:Value}(rx:RelV x v)(fx:flatV x=true):∀ {xs:List V} {us:List Value},Vals xs us->xs.all flatV=true->∀ u∈us,SeqAt.EqAt A s u v (Z4 x u)
 | _,_,.nil,_=>fun u hu=>by cases hu
 | y::xs,u::us,.cons r t,f=>fun u' hu=>by
  rw [List.all_cons,e8] at f
  rcases L4.mp hu with rfl | hu
  .rw [amV r f.1];exact aqS r rx f.1 fx
  .exact nK rx fx t f.2 u' hu
noncomputable def eU (x:V) (xs:List V):Bool:=xs.any fun y=>eT y x
noncomputable def vN (K:PySem.W.Frag) (neg:Bool):R2:=fun x y H Q=>∃ p xs,y=.ref p/\(D1 K H p xs\/A8 K H p xs)/\flatV x=true/\xs.all flatV=true/\Q (.bl (if neg then !eU x xs else eU x xs)) H
theorem ajJ:J9 X (compareOp .In) (vN X.K false):=by
 sleep 0;obtain ⟨p,xs,rfl,hq,fx,fs,q⟩:=h
 cases ry
 rcases hq with hq | hq
 .obtain ⟨its,r,pl,hz⟩:=I.list hq;refine SeqAt.in_listAt (Z4 x) pl.isList (fun w hw=>nK rx fx r fs w (by simpa using hw)) ⟨.bl _,H,I,rfl,?_⟩;rw [show its.toArray.any (Z4 x)=its.any (Z4 x) by simp,nJ r fs];exact q
 .obtain ⟨its,r,pl,hz⟩:=I.tuple hq;refine SeqAt.in_tupleAt (Z4 x) pl (fun w hw=>nK rx fx r fs w (by simpa using hw)) ⟨.bl _,H,I,rfl,?_⟩;rw [show its.toArray.any (Z4 x)=its.any (Z4 x) by simp,nJ r fs];exact q
theorem af9:J9 X (compareOp .NotIn) (vN X.K true):=by
 sleep 0;obtain ⟨p,xs,rfl,hq,fx,fs,q⟩:=h
 cases ry
 rcases hq with hq | hq
 .obtain ⟨its,r,pl,hz⟩:=I.list hq;refine SeqAt.notIn_listAt (Z4 x) pl.isList (fun w hw=>nK rx fx r fs w (by simpa using hw)) ⟨.bl _,H,I,rfl,?_⟩;rw [show its.toArray.any (Z4 x)=its.any (Z4 x) by simp,nJ r fs];exact q
 .obtain ⟨its,r,pl,hz⟩:=I.tuple hq;refine SeqAt.notIn_tupleAt (Z4 x) pl (fun w hw=>nK rx fx r fs w (by simpa using hw)) ⟨.bl _,H,I,rfl,?_⟩;rw [show its.toArray.any (Z4 x)=its.any (Z4 x) by simp,nJ r fs];exact q
theorem aga:J9 X (compareOp .NotIn) (fun x y H Q=>∃ i j,x=.str i/\y=.str j/\Q (.bl (!(!(Builtin.Str.occurrences j i 0 j.length 1).isEmpty))) H):=by
 sleep 0;obtain ⟨i,j,rfl,rfl,q⟩:=h;obtain ⟨t,rfl⟩:=rx;obtain ⟨t',rfl⟩:=ry;exact notIn_str ⟨.bl _,H,I,rfl,q⟩
theorem agb:CallR X (.type "list") (fun xs H Q=>∃ p ys,xs=[.ref p]/\(D1 X.K H p ys\/A8 X.K H p ys)/\∀ l,H l=none->Q (.ref l) (A0 H l (.lst ys))):=by
 intro pins s Y H xs us Q I r h;obtain ⟨p,ys,rfl,hq,q⟩:=h;obtain ⟨u,rfl,rx⟩:=vals1 r
 cases rx
 have fin:∀ (its:List Value),Vals ys its->ys.length<=sizeLine->∀ (h':Heap) (c':Nat),(∀ b o',s.heap.get? b=some o'->h'.get? b=some o')->
   h'.get? s.heap.objs.size=some { cls:=.type "list",dict:=none,data:=.seq its.toArray c',slots:=#[] }->EP X pins Y Q (.ref s.heap.objs.size) { s with heap:=h' }:=fun its r' hz h' c' kp e=>
  ⟨.ref s.heap.objs.size,_,I.laid (t':=s.toks) kp (C3 _) (show ObjOk X.prog X.w _ h' _ (.lst ys) from ⟨hz,its,c',r',e⟩),rfl,q _ (I.hok.fresh (C3 _))⟩
 rcases hq with hq | hq
 .obtain ⟨its,r',pl,hz⟩:=I.list hq;have A9:=r'.length;obtain ⟨o,ho,hc,n,hd⟩:=pl.isList;exact call_list_seq p 'f' ho hc hd (fun h' c' kp e=>fin its r' hz h' c' kp e) (by simp only [K9] <;> lia)
 .obtain ⟨its,r',pl,hz⟩:=I.tuple hq;have A9:=r'.length;obtain ⟨o,ho,hc,n,hd⟩:=pl;exact call_list_seq p (.inr rfl) ho hc hd (fun h' c' kp e=>fin its r' hz h' c' kp e) (by simp only [K9] <;> lia)
theorem afC:CallR X (.type "tuple") (fun xs H Q=>∃ p ys,xs=[.ref p]/\((D1 X.K H p ys/\∀ l,H l=none->Q (.ref l) (A0 H l (.tup ys)))\/(A8 X.K H p ys/\Q (.ref p) H))):=by
 intro pins s Y H xs us Q I r h;obtain ⟨p,ys,rfl,h⟩:=h;obtain ⟨u,rfl,rx⟩:=vals1 r
 cases rx
 rcases h with ⟨hq,q⟩ | ⟨hq,q⟩
 .obtain ⟨its,r',pl,hz⟩:=I.list hq;have A9:=r'.length;refine call_tuple_list pl.isList (fun h' kp=>?_) (by simp only [K9] <;> lia);have I1:Inv X pins Y H { s with heap:=h' }:=I.kept (t':=s.toks) kp;have I2:Inv X pins Y (A0 H h'.objs.size (.tup ys)) { s with heap:=h'.push { cls:=.type "tuple",data:=.seq its.toArray } }:=
   I1.laid (t':=s.toks) (fun b o e=>Heap.get?_push_of_some _ e) (C3 _) (show ObjOk X.prog X.w _ _ _ (.tup ys) from ⟨hz,its,r',IsTup.new _ _⟩)
  exact ⟨.ref h'.objs.size,_,I2,rfl,q _ (I1.hok.fresh (C3 _))⟩
 .obtain ⟨its,r',pl,hz⟩:=I.tuple hq;exact call_tuple_same pl ⟨.ref p,H,I,rfl,q⟩
noncomputable def eV (K:PySem.W.Frag) (T:String) (x:V) (H:Hp):Prop:=match x with
 | .str _=>T="str"
 | .int _=>T="int"
 | .ref p=>(T="list"/\∃ xs,D1 K H p xs)\/(T="tuple"/\∃ o,K.lookup p=some o/\o.cls=.type "tuple"/\o.dict=none)\/
   (T="dict"/\((∃ kvs,H p=some (.dK kvs))\/∃ kvs,H p=some (.dT kvs)))\/(T="set"/\∃ S n,H p=some (.set S n))
 | _=>False
theorem amW{T:String}{v:Value}(I:Inv X pins Y H s)(r:RelV x v)(ty:eV X.K T x H) :
  s.TypeIs v T/\∀ a,v=.ref a->∃ ob,s.heap.get? a=some ob/\ob.dict=none:=by
 cases x with
 | str z=>
  obtain ⟨t,rfl⟩:=r
  cases (show T="str" from ty)
  exact ⟨typeIs_str s z t,fun _ e=>nomatch e⟩
 | int i=>
  obtain ⟨t,rfl⟩:=r
  cases (show T="int" from ty)
  exact ⟨typeIs_int s i t,fun _ e=>nomatch e⟩
 | ref p=>
  cases r
  rcases ty with ⟨rfl,xs,hq⟩ | ⟨rfl,o,hk,hc,hd⟩ | ⟨rfl,hk⟩ | ⟨rfl,S,n,hk⟩
  .obtain ⟨its,_,pl,_⟩:=I.list hq;refine ⟨pl.isList.typeIs,fun a e=>?_⟩;cases e;obtain ⟨o,n,e,c,hd,_⟩:=pl;exact ⟨o,e,hd⟩
  .refine ⟨⟨o,I.kIn p o hk,hc⟩,fun a e=>?_⟩;cases e;exact ⟨o,I.kIn _ o hk,hd⟩
  .have z:∃ o,s.heap.get? p=some o/\o.ExactDict:=by
    rcases hk with ⟨kvs,hk⟩ | ⟨kvs,hk⟩
    .obtain ⟨_,_,_,_,o,_,_,e,ex,_⟩:=I.hok p _ hk;exact ⟨o,e,ex⟩
    .obtain ⟨_,_,_,_,o,_,_,e,ex,_⟩:=I.hok p _ hk;exact ⟨o,e,ex⟩
   obtain ⟨o,e,ex⟩:=z;refine ⟨⟨o,e,ex.1⟩,fun a e2=>?_⟩;cases e2;exact ⟨o,e,ex.2.1⟩
  .obtain ⟨o,_,_,_,e,ex,_⟩:=I.hok p _ hk;refine ⟨⟨o,e,ex.1⟩,fun a e2=>?_⟩;cases e2;exact ⟨o,e,ex.2.1⟩
 | _=>exact False.elim ty
noncomputable def tBM0 (K:PySem.W.Frag) (T:String) (r:V->List V->Hp->VK->Prop) (to:TE):TE:=fun Y H Q=>to Y H fun x H1=>eV K T x H1/\r x [] H1 Q
noncomputable def qX (K:PySem.W.Frag) (T:String) (r:V->List V->Hp->VK->Prop) (to:TE) (t:TA):TE:=fun Y H Q=>to Y H fun x H1=>eV K T x H1/\t Y H1 fun xs H2=>r x xs H2 Q
variable {o e:Expr} {es:List Expr} {to:TE} {t:TA} {name:Str} {apos cpos:Pos} {T id:String} {r:V->List V->Hp->VK->Prop}
theorem aqT(pa:PlainAttrs T)(slot:Slot T name id)(W9:typeOf (.builtin id)=pure (.type "method_descriptor"))(hm:qW X id r)(ho:PE X o to)(G1:attributeBase o name X.env (eval o X.env)=eval o X.env:=by rfl)(G2:(apos.endLine==cpos.line)=true:=by rfl):PE X (.Call (.Attribute o name apos) [] [] cpos) (tBM0 X.K T r to):=by
 sleep 1;refine wpAny_Call_method0_late G1 G2 (B1 (ho pins s Y H _ I h) fun v s1 ⟨x,H1,I1,r1,ty,q1⟩=>?_);obtain ⟨h1,h2⟩:=amW I1 r1 ty;exact ⟨T,id,pa,slot,W9,h1,h2,Calls.callWith_builtin rfl (PySem.evalArgs_none (hm pins s1 Y H1 x [] v [] Q I1 r1 .nil q1))⟩
theorem pe_bm(pa:PlainAttrs T)(slot:Slot T name id)(W9:typeOf (.builtin id)=pure (.type "method_descriptor"))(hm:qW X id r)(ho:PE X o to)(ha:PA X (e::es) t)(G1:attributeBase o name X.env (eval o X.env)=eval o X.env:=by rfl)(dA:((backTo cpos (starEach (e::es) X.env)).all (fun x=>!x.1)&&(backToKw cpos (keywordEach [] X.env)).all (fun x=>x.1.isSome)
   && decide ((e::es).length+([]:List Keyword).length+(if ([]:List Keyword).isEmpty then 0 else 1)<30))=true:=by rfl)(G2:(apos.endLine==cpos.line)=true:=by rfl)(hs:starEach (e::es) X.env=(false,eval e X.env)::starEach es X.env:=by rfl)(hplain:(backTo cpos (starEach es X.env)).any (·.1)=false:=by rfl) :
  PE X (.Call (.Attribute o name apos) (e::es) [] cpos) (qX X.K T r to t):=by
 sleep 1;refine wpAny_Call_method_late G1 dA G2 rfl (B1 (ho pins s Y H _ I h) fun v s1 ⟨x,H1,I1,r1,ty,q1⟩=>?_);obtain ⟨h1,h2⟩:=amW I1 r1 ty;refine ⟨T,id,pa,slot,W9,h1,h2,?_⟩;have hA:=ha cpos pins s1 Y H1 _ I1 q1;rw [hs] at hA ⊢
 refine Calls.callWith_builtin (by show (false || (backTo cpos (starEach es X.env)).any (·.1))=false;rw [hplain] <;> rfl) (Calls.evalArgs_plain ?_);exact B1 hA fun us s2 ⟨vs,H2,I2,r2,q2⟩=>hm pins s2 Y H2 x vs v us Q I2 r1 r2 q2
end
noncomputable def kI (X:Cx) (id:String) (r:V->List V->Hp->VK->Prop):Prop:=
 ∀ (pins:List 'l') (s:Shared) (Y:St) (H:Hp) (x:V) (xs:List V) (v:Value) (us:List Value) (Q:VK),Inv X pins Y H s->RelV x v->Vals xs us->r x xs H Q->
  wpAny 'b' X.A (call (.builtin id) (v::us)) (EP X pins Y Q) X.xe s
theorem Vals.one:∀ {x:V} {us:List Value},Vals [x] us->∃ u,us=[u]/\RelV x u
 | _,_,.cons r .nil=>⟨_,rfl,r⟩
theorem Vals.zero:∀ {us:List Value},Vals [] us->us=[]
 | _,.nil=>rfl
theorem Vals.eraseIdx:∀ {xs:List V} {us:List Value} (i:Nat),Vals xs us->Vals (xs.eraseIdx i) (us.eraseIdx i)
 | _,_,_,.nil=>.nil
 | _,_,0,.cons _ t=>t
 | _,_,i+1,.cons r t=>.cons r (Vals.eraseIdx i t)
theorem Vals.reverse(h:Vals xs us):Vals xs.reverse us.reverse:=by
 induction h with
 | nil=>exact .nil
 | cons r t ih=>rw [jW,jW];exact Vals.append ih (.cons r .nil)
theorem Vals.rep(h:Vals xs us):∀ k:Nat,Vals (X6 k xs).flatten (X6 k us).flatten
 | 0=>.nil
 | k+1=>by
  rw [jT,jT,jX,jX];exact Vals.append h (Vals.rep h k)
theorem agc(its:List Value):∀ (k:Nat) (acc:List Value),
  List.foldl (fun x1 x2=>x1++x2) acc.toArray (X6 k its.toArray)=(acc++(X6 k its).flatten).toArray
 | 0,acc=>by simp
 | k+1,acc=>by
  have e:acc.toArray++its.toArray=(acc++its).toArray:=by simp
  have e2:(acc++its)++(X6 k its).flatten=acc++(X6 (k+1) its).flatten:=by
   rw [jT,jX,W8]
  rw [<- e2,<- agc its k (acc++its),<- e,jT,jZ]
section
variable {X:Cx} {pins:List (Addr×Obj)} {Y:St} {H:Hp} {s:Shared} {l b:Addr} {xs ys zs:List V}
theorem Inv.lset{f:Array Value->Array Value}(I:Inv X pins Y H s)(hH:H l=some (.lst xs))(e:s.heap.get? l=some { cls:=.type "list",data:=.seq its.toArray n })(hf:f its.toArray=its'.toArray)(hv:Vals ys its')(hz:ys.length<=sizeLine) :
  Inv X pins Y (A0 H l (.lst ys)) { s with heap:=s.heap.update l (Obj.mapSeq f),toks:=t' }:=by
 have q:=PySem.IsL.update e f;rw [hf] at q;refine I.write (x:=l) (e:=l) (by rw [hH];exact trivial) 'f' (fun b' u hb hu=>(Heap.get?_update_other s.heap (Obj.mapSeq f) (Ne.symm hb)).trans hu) ⟨_,q⟩ ?_;exact ⟨hz,its',_,hv,q⟩
theorem Inv.lnew(I:Inv X pins Y H s)(hv:Vals ys its)(hz:ys.length<=sizeLine) :
  Inv X pins Y (A0 H s.heap.objs.size (.lst ys)) { s with heap:=s.heap.push { cls:=.type "list",data:=.seq its.toArray },toks:=t' }:=
 I.laid (fun _ _ q=>Heap.get?_push_of_some _ q) (C3 _) ⟨hz,its,0,hv,Heap.get?_push_size _ rfl⟩
theorem Inv.fresh(I:Inv X pins Y H s):H s.heap.objs.size=none:=I.hok.fresh (C3 _)
theorem Inv.lstM(I:Inv X pins Y H s)(hH:H l=some (.lst xs)):xs.length<=sizeLine/\∃ (its:List Value) (n:Nat),Vals xs its/\xs.length=its.length/\s.heap.get? l=some { cls:=.type "list",data:=.seq its.toArray n }:=by
 obtain ⟨z,its,n,r,e⟩:=I.hok l _ hH;exact ⟨z,its,n,r,r.length,e⟩
theorem ahU(h:n<=sizeLine):Builtin.List.listTooLong n=false:=by
 unfold Builtin.List.listTooLong;exact decide_eq_false 'a'
end
section
variable {X:Cx}
noncomputable def vO:V->List V->Hp->VK->Prop:=fun x vs H Q=>∃ l xs y,x=.ref l/\vs=[y]/\H l=some (.lst xs)/\xs.length<sizeLine/\Q .non (A0 H l (.lst (xs++[y])))
theorem agd:kI X "list.append" vO:=by
 intro pins s Y H x vs v us Q I rx rv h;obtain ⟨l,xs,y,rfl,rfl,hH,hz,q⟩:=h
 cases rx
 obtain ⟨u,rfl,ru⟩:=rv.one;obtain ⟨z,its,n,r,hl,e⟩:=I.lstM hH;refine call_meets F.slot_list_append ⟨_,e,rfl⟩ F.entry_list_append (F.args_list_append_2 _ _) (PySem.list_append l its.toArray n u (by rw [K9];lia)) ⟨e,?_⟩;refine ⟨.non,_,I.lset (its':=its++[u]) hH e 'd' (r.append (.cons ru .nil)) ?_,rfl,q⟩;rw [D9,Y8];lia
noncomputable def ahV:V->List V->Hp->VK->Prop:=fun x vs H Q=>∃ l xs,x=.ref l/\vs=[]/\H l=some (.lst xs)/\Q .non (A0 H l (.lst xs.reverse))
theorem aiN:kI X "list.reverse" ahV:=by
 intro pins s Y H x vs v us Q I rx rv h;obtain ⟨l,xs,rfl,rfl,hH,q⟩:=h
 cases rx
 have hus:=rv.zero;subst hus;obtain ⟨z,its,n,r,hl,e⟩:=I.lstM hH;refine call_meets F.slot_list_reverse ⟨_,e,rfl⟩ F.entry_list_reverse (F.args_list_reverse_1 _) (AutoSeq1.list_reverse_list_0 l its.toArray n (by rw [K9];lia)) ⟨e,?_⟩;refine ⟨.non,_,I.lset (its':=its.reverse) hH e 'd' r.reverse ?_,rfl,q⟩;rw [List.length_reverse];lia
noncomputable def vP:V->List V->Hp->VK->Prop:=fun x vs H Q=>∃ l xs,x=.ref l/\vs=[]/\H l=some (.lst xs)/\Q .non (A0 H l (.lst []))
theorem alC:kI X "list.clear" vP:=by
 intro pins s Y H x vs v us Q I rx rv h;obtain ⟨l,xs,rfl,rfl,hH,q⟩:=h
 cases rx
 have hus:=rv.zero;subst hus;obtain ⟨z,its,n,r,hl,e⟩:=I.lstM hH;refine call_meets F.slot_list_clear ⟨_,e,rfl⟩ F.entry_list_clear (F.args_list_clear_1 _) (AutoSeq1.list_clear_list_0 l its.toArray n (by rw [K9];lia)) ⟨e,?_⟩;exact ⟨.non,_,I.lset (its':=[]) (ys:=[]) hH e rfl .nil (F7 _),rfl,q⟩
noncomputable def rCat:R2:=fun x y H Q=>∃ l b xs zs,x=.ref l/\y=.ref b/\H l=some (.lst xs)/\H b=some (.lst zs)/\xs.length+zs.length<=sizeLine/\∀ p,H p=none->Q (.ref p) (A0 H p (.lst (xs++zs)))
theorem aqU:J9 X (binaryOp .Add) rCat:=by
 sleep 0;obtain ⟨l,b,xs,zs,rfl,rfl,hH,hB,hz,q⟩:=h
 cases rx
 cases ry
 obtain ⟨z,its,n,r,hl,e⟩:=I.lstM hH;obtain ⟨z2,its2,n2,r2,i6,e2⟩:=I.lstM hB;refine PySem.P.add_list e e2 ?_ (by rw [K9,K9];lia);have ea:its.toArray++its2.toArray=(its++its2).toArray:=by simp
 rw [ea];exact ⟨.ref _,_,I.lnew (t':=s.toks) (r.append r2) (by rw [D9];lia),rfl,q _ I.fresh⟩
noncomputable def rRep:R2:=fun x y H Q=>∃ l k xs,x=.ref l/\y=.int k/\H l=some (.lst xs)/\-(2 ^ 63)<=k/\k<2 ^ 63/\xs.length*k.toNat<=sizeLine/\
 ∀ p,H p=none->Q (.ref p) (A0 H p (.lst (X6 k.toNat xs).flatten))
theorem anZ{α:Type}(xs:List α)(k:Nat):(X6 k xs).flatten.length=k*xs.length:=by
 induction k with
 | zero=>simp
 | succ k ih=>rw [jT,jX,D9,ih,Nat.succ_mul,Nat.add_comm]
theorem aqV:J9 X (binaryOp .Mult) rRep:=by
 sleep 0;obtain ⟨l,k,xs,rfl,rfl,hH,h1,h2,hz,q⟩:=h
 cases rx
 obtain ⟨t,rfl⟩:=ry;obtain ⟨z,its,n,r,hl,e⟩:=I.lstM hH;have A9:its.toArray.size*k.toNat<=sizeLine:=by rw [K9,<- hl];exact hz
 have hcap:¬ its.toArray.size*k.toNat > (2 ^ 63-1) / 8:=by
  have:(sizeLine:Nat)<=(2 ^ 63-1) / 8:=by decide
  lia
 have hfit:¬ (!Builtin.List.listFitsIndex k)=true:=by
  rw [fitsIndex_both h1 h2];exact L9
 have y9:¬ Builtin.List.listTooLong (its.toArray.size*k.toNat)=true:=by
  rw [ahU A9];exact L9
 have U1:List.foldl (fun x1 x2=>x1++x2) #[] (X6 (if its.toArray.isEmpty=true then 0 else k.toNat) its.toArray)=(X6 k.toNat its).flatten.toArray:=by
  have f0:∀ m:Nat,List.foldl (fun x1 x2=>x1++x2) #[] (X6 m its.toArray)=(X6 m its).flatten.toArray:=fun m=>by
   have:=agc its m []
   rw [eG] at this;exact this
  rw [f0]
  cases its with
  | nil=>simp
  | cons a r'=>rw [if_neg 'd']
 refine wpAny_binaryOp_repeat_ref (T:="list") (U:="int") 'h' ⟨_,e,rfl⟩ (fun s'=>typeIs_int s' k t) noFill_list_mul F.fills_int_mul F.slot_int_rmul repeat_list F.slot_int_index.lookup
  (call_meets F.slot_int_rmul (typeIs_int s k t) F.entry_int_rmul (F.args_int_rmul_2 _ _) (int___rmul___int_list k t l its.toArray n)
   ⟨e,rfl,⟨_,e,rfl⟩,call_meets F.slot_list_mul ⟨_,e,rfl⟩ F.entry_list_mul (F.args_list_mul_2 _ _) (AutoListH.list___mul___list_int_3 l its.toArray n k t hfit hcap y9) ⟨e,?_⟩⟩)
 rw [U1];exact ⟨.ref _,_,I.lnew (t':=s.toks) (r.rep k.toNat) (by rw [anZ,Nat.mul_comm];exact hz),rfl,q _ I.fresh⟩
end
end L2
namespace Att
open PySem PySem.W PySem.Calls PyProof.Rows
theorem aer{P:Params} : ∀ (ns:List Int) (vs:List Value),WellAll P h vs (ns.map WData.int)->IntsAre vs ns:=by
 intro ns
 induction ns with
 | nil=>
  intro vs w;rw [List.map_nil] at w
  cases w
  exact .nil
 | cons n ns ih=>
  intro vs w;rw [F6] at w
  cases w with
  | cons a b=>
   cases a
   exact .cons _ _ (ih _ b)
theorem ajL{l:OpenLaw}(hn:l.most=some n){P:Params}{args:List WData}{vals:List Value}(dB:l.row.toRowW.claim.pre args=true)(hwl:WellAll P h vals args) :
  ∃ a vs ns,vals=[Value.ref a]/\args=[WData.list (ns.map WData.int)]/\h.get? a=some { cls:=.type "list",data:=.seq vs.toArray }/\IntsAre vs ns/\ns.length<=n:=by
 have hsh:WShape.hasAll [] args [.list .int]=true:=(pre_splitW dB).1;have hc:l.pre.holds [] { args:=args }=true:=(pre_splitW dB).2;obtain ⟨d,r,rfl,h1,h2⟩:=hasAllW_cons hsh;obtain rfl:=hasAllW_nil h2;obtain ⟨xs,rfl,h3⟩:=hasW_list h1;obtain ⟨ns,rfl⟩:=items_int h3;have A9:ns.length<=n:=by
  unfold OpenLaw.pre at hc;have h4:(WTm.not (.lt (.lit (.int (n:Int))) (.len (.arg 0)))).holds [] { args:=[.list (ns.map .int)] }=true:=by
   have h4:=(holds_andW hc).1;rw [hn] at h4;exact h4
  have h5:=condW_of h4 (w_not (w_lt w_lit (w_len_list (w_arg rfl))));rw [A6] at h5;refine Nat.le_of_not_lt fun q=>?_
  have q':(n:Int)<((ns.length:Nat):Int):=by lia
  first
   | (rw [decide_eq_true q'] at h5;exact absurd h5 'h')
   | (simp at h5;lia)
 cases hwl with
 | cons w1 w2=>
  cases w2
  cases w1 with
  | list ho dC=>exact ⟨_,_,ns,rfl,rfl,ho,aer ns _ dC,A9⟩
theorem ajM(l:OpenLaw)(args:List WData):l.row.toRowW.claim.post args (.bool true) args=true:=
 postW_of (r:=l.row.toRowW) (X:=(true==true))
  (show WShape.has [] (.bool true) .bool=true by first | rfl | decide | simp [WShape.has,WShape.arms,WShape.armsAll])
  (show (WTm.eq .res (.lit (.bool true))).value [] { args:=args,res:=some (.bool true),after:=args }=some (.bool (true==true)) from w_eq_bool (w_res rfl) w_lit) rfl
theorem attach_call{l:OpenLaw}{q:Program}{XP:(Str->Option Value)->Heap->Prop}{YP:World->Heap->Prop}{d:DefRec}(hn:l.most=some n)(bM:d.params.defaults=[])(call:∀ (w:World) (s₀ zu:Shared) (mg mb:Str->Option Value) (fa:Addr) (o:Obj) (pm cd doc:Value) (a:Addr) (vs:List Value) (ns:List Int),
   Ground q loose [] XP w s₀ mg mb zu.heap->YP w zu.heap->
   zu.heap.get? fa=some o->o.data=.func (docDef d.name d.params d.body d.scope pm cd doc)->zu.heap.CodeRec cd d.name->mg d.name=some (.ref fa)->
   zu.heap.get? a=some { cls:=.type "list",data:=.seq vs.toArray }->IntsAre vs ns->ns.length<=n->zu.gens=#[]->
   codeAny (model l.prog w) callerA (.call (.ref fa) ⟨[.ref a],[]⟩) (fun r s'=>r=.ok (.ret (.bool true))/\OldK zu.heap s'.heap/\s'.os=zu.os/\AllBare s'.gens) zu) :
  WalkO q loose XP YP l.row.toRowW d [] (fun f vs=>PySem.call f vs):=by
 intro w s₀ zu mg mb G zy fa o pm cd doc dV kV ho hd u8 hD pI hg args vals as dB hlay hrd hwl hlo;obtain rfl:dV=.none:=Dflts.none hD bM;obtain rfl:kV=.none:=Dflts.noKw hD;obtain ⟨a,vs,ns,rfl,rfl,iT,z8,A9⟩:=ajL hn dB hwl;refine enter_call (codeAny_mono (call w s₀ zu mg mb fa o pm cd doc a vs ns G zy ho (fd_plain hd) u8 pI iT z8 A9 hg) fun r s' hq=>?_);obtain ⟨rfl,h2,h3,h4⟩:=hq;exact ⟨.inl ⟨.bool true,.bool true,[],rfl,fun _=>rfl,.bool true,ajM l _,fun _=>⟨List.Pairwise.nil,fun _ hm=>(nomatch hm)⟩⟩,h2,h3,h4⟩
end Att
namespace L2
open PySem PySem.Spec PyProof.Rows
theorem age:∀ {vs:List Value} {ns:List Int},IntsAre vs ns->Vals (ns.map V.int) vs
 | _,_,.nil=>.nil
 | _,_,.cons n t h=>.cons ⟨t,rfl⟩ (age h)
noncomputable def Only (H:Hp):Prop:=∀ b,H b=none\/∃ o xs,H b=some (.frz o (.lst xs))
theorem alD{P:Program}{w:World}{mb:Str->Option Value}{CX:k5}{x:Str}{zu:Shared}{vs:List Value}(KX:K.In zu.heap)(fQ:zu.heap.Ns mainGlobals mg)(hb:zu.heap.Ns builtinsNs mb)(hbb:∀ x:Str,x≠"__name__"->mb x=bootBuiltins x)(hlim:zu.heap.NoLimit)(hg:zu.gens=#[])(ha:zu.heap.get? a=some { cls:=.type "list",data:=.seq vs.toArray })(hi:IntsAre vs ns)(hl:ns.length<=sizeLine)(hr:Room k callerA)(F:∀ base:Heap,K.In base->base.Ns mainGlobals mg->FnOk P w K mg base CX k fa fd [x] sp)(pJ:∀ (s:Shared) (u:Value),BindsTo s fd ⟨[u],[]⟩ [(x,u)])(fO:∀ H:Hp,Only H->D1 K H a (ns.map V.int)->sp [.ref a] H (fun v _=>v=.bl true) fun _ _ _=>False)(hCX:∀ H e s',CX [] H zu (fun _ _ _=>False) e s'->False) :
  codeAny (model P w) callerA (.call (.ref fa) ⟨[.ref a],[]⟩) (fun r s'=>r=.ok (.ret (.bool true))/\OldK zu.heap s'.heap/\s'.os=zu.os/\AllBare s'.gens) zu:=by
 have rv:=age hi;have lenV:=hi.length;have core:∀ H:Hp,Only H->D1 K H a (ns.map V.int)->N4 P w H zu.heap->(∀ b,H b≠none->b=a)->(H a≠none->K.lookup a=none)->
   codeAny (model P w) callerA (.call (.ref fa) ⟨[.ref a],[]⟩) (fun r s'=>r=.ok (.ret (.bool true))/\OldK zu.heap s'.heap/\s'.os=zu.os/\AllBare s'.gens) zu:=by
  intro H hO hS hok hA hK;have base_of:∀ {b:Addr} {o:Obj},zu.heap.get? b=some o->H b=none->(hidT zu.heap H).get? b=some o:=fun e n=>alj e n
  have noA:∀ {b:Addr} {o:Obj} {es:Array DictEntry} {ep:Nat},zu.heap.get? b=some o->o.data=.dict es ep->H b=none:=fun {b o es ep} e d=>by
   cases q:H b with
   | none=>rfl
   | some u=>
    have e':b=a:=hA b (by rw [q];simp);subst e';rw [ha] at e;cases e;have d':Data.seq vs.toArray _=Data.dict es ep:=d
    cases d'
  have nsK:∀ {b:Addr} {m:Str->Option Value},zu.heap.Ns b m->(hidT zu.heap H).Ns b m:=fun {b m} ⟨o,es,ep,e,d,r⟩=>⟨o,es,ep,base_of e (noA e d),d,r⟩
  have hKb:K.In (hidT zu.heap H):=fun b o e=>base_of (KX b o e) (by
   cases q:H b with
   | none=>rfl
   | some u=>
    have e':b=a:=hA b (by rw [q];simp);subst e';rw [hK (by rw [q];simp)] at e;cases e)
  have hM:Mod K mg (hidT zu.heap H):=⟨hKb,nsK fQ,⟨mb,nsK hb,hbb⟩,let ⟨mc,h1,h2⟩:=hlim;⟨mc,nsK h1,h2⟩⟩
  have e0:Env0 P w K mg (hidT zu.heap H) callerA [] zu H:=⟨rfl,hM,fun b o e=>anx e,Nat.le_of_eq (ajm _ _),trivial,fun b hb=>absurd (show b∈([]:List Addr) from hb) 'd',hok,.of_eq hg⟩
  refine codeAny_mono ((F _ hKb (nsK fQ)).run callerA [] zu H ⟨[.ref a],[]⟩ [.ref a] [.ref a] _ _ hr e0 (pJ zu (.ref a)) (.cons rfl .nil) (fO H hO hS)) fun r s' h=>?_
  cases r with
  | error e=>exact (hCX H e s' h).elim
  | ok fl=>
   cases fl with
   | next=>exact False.elim h
   | brk=>exact False.elim h
   | cont=>exact False.elim h
   | ret u=>
    obtain ⟨v,H',os,bare,un,hok',r',q⟩:=h;have q':v=.bl true:=q;subst q';obtain rfl:u=Value.bool true:=r';refine ⟨rfl,OldK.of_keep fun b o e=>?_,os,bare⟩
    cases q:H b with
    | none=>exact un.keep b o e q (by intro z;exact absurd (show b∈([]:List Addr) from z) 'd') 'd'
    | some u=>
     rcases hO b with z | ⟨ob,xs,z⟩
     .rw [q] at z;cases z
     .have z2:=un.frzs b ob _ z;obtain ⟨e1,_⟩:=hok b _ z;obtain ⟨e2,_⟩:=hok' b _ z2;rw [e] at e1;cases e1;exact e2
 cases hk:K.lookup a with
 | some o=>
  have e:=KX a o hk;rw [ha] at e;cases e;refine core (fun _=>none) (fun _=>.inl rfl) (.inr ⟨_,vs.toArray,_,hk,rfl,rfl,rfl,by rw [K9,lenV];exact hl,by simpa using rv⟩) (fun b u z=>by have z':(none:Option HO)=some u:=z;cases z') (fun b z=>absurd rfl z) fun z=>absurd rfl z
 | none=>
  refine core (fun b=>if b=a then some (.frz { cls:=.type "list",data:=.seq vs.toArray } (.lst (ns.map V.int))) else none) (fun b=>?_) (.inl (.inr ⟨{ cls:=.type "list",data:=.seq vs.toArray },if_pos rfl⟩)) (fun b u z=>?_) (fun b z=>?_) fun _=>hk
  .by_cases hb:b=a
   .exact .inr ⟨_,_,if_pos hb⟩
   .exact .inl (if_neg hb)
  .by_cases hb:b=a
   .have z':=(if_pos hb).symm.trans z
    cases z'
    subst hb;exact ⟨ha,by rw [A6];exact hl,vs,_,rv,ha⟩
   .have z':=(if_neg hb).symm.trans z
    cases z'
  .by_cases hb:b=a
   .exact hb
   .exact absurd (if_neg hb) z
theorem walk_of{l:PySem.W.OpenLaw}{q:Program}{XP:(Str->Option Value)->Heap->Prop}{YP:World->Heap->Prop}{d:DefRec}{K:Params->PySem.W.Frag}{CX:World->k5}{sp:World->Sp}{x:Str}(hn:l.most=some n)(tS:n<=sizeLine)(bM:d.params.defaults=[])(hr:Room k callerA)(hY:∀ (w:World) (h:Heap),YP w h->(K w.params).In h)(F:∀ (w:World) (mg:Str->Option Value) (fa:Addr) (h:Heap),(K w.params).In h->h.Ns mainGlobals mg->mg d.name=some (.ref fa)->
   ∃ fd:FuncData,(∀ (s:Shared) (u:Value),BindsTo s fd ⟨[u],[]⟩ [(x,u)])/\
    ∀ base:Heap,(K w.params).In base->base.Ns mainGlobals mg->FnOk l.prog w (K w.params) mg base (CX w) k fa fd [x] (sp w))(fO:∀ (w:World) (H:Hp) (a:Addr) (ns:List Int),ns.length<=n->Only H->D1 (K w.params) H a (ns.map V.int)->sp w [.ref a] H (fun v _=>v=.bl true) fun _ _ _=>False)(hCX:∀ (w:World) (H:Hp) (s:Shared) (e:Value) (s':Shared),CX w [] H s (fun _ _ _=>False) e s'->False) :
  PySem.W.WalkO q loose XP YP l.row.toRowW d [] (fun f vs=>PySem.call f vs):=by
 refine Att.attach_call hn bM fun w s₀ zu mg mb fa o pm cd doc a vs ns G zy ho hd u8 pI iT z8 A9 hg=>?_
 have KX:=hY w _ zy;obtain ⟨fd,hb,hF⟩:=F w mg fa _ KX G.T.g pI;exact alD KX G.T.g G.T.b G.T.builtins G.T.nolimit hg iT z8 (N8 A9 tS) hr hF hb (fun H hO hS=>fO w H a ns A9 hO hS) fun H e s'=>hCX w H zu e s'
noncomputable def qY (s:Stmt) (j:Nat):Stmt:=match s with
 | .ClassDef _ _ _ body _ _ _ _ _ _ _=>body.getD j (.Pass ⟨0,0,0,0⟩)
 | _=>.Pass ⟨0,0,0,0⟩
noncomputable def W4 (s:Stmt):Arguments:=match s with
 | .FunctionDef _ a _ _ _ _ _ _ _ _=>a
 | _=>{ posonlyargs:=[],args:=[],vararg:=none,kwonlyargs:=[],kw_defaults:=[],kwarg:=none,defaults:=[] }
noncomputable def V1 (s:Stmt):List Stmt:=match s with
 | .FunctionDef _ _ b _ _ _ _ _ _ _=>b
 | _=>[]
noncomputable def C1 (s:Stmt):Scope:=match s with
 | .FunctionDef _ _ _ _ _ _ sc _ _ _=>sc
 | _=>{ kind:=.function,names:=[],isGenerator:=false,isCoroutine:=false }
noncomputable abbrev E2:k5:=fun _ _ _ _ _ _=>False
noncomputable abbrev E0:XK:=fun _ _ _=>False
theorem pass0 : gR E2 X E0:=fun _ _ _ _ _ _ _ h=>h.elim
structure Fun(K:PySem.W.Frag)(x qual:Str)(st:Stmt)(f:Addr)(fd:FuncData):Prop where
 ex:∃ (oc:Value) (od:Option Addr) (kV doc pm:Value) (an:Option Addr) (cdv ct:Value) (osl:Array (Option Value)),
  fd=U5 x qual (W4 st) (V1 st) (C1 st) .none kV doc pm an cdv ct/\K.lookup f=some ⟨oc,od,.func fd,osl⟩/\X7 K cdv qual=true
 kp:W3 K (.ref f)=true
theorem hu_of(hr:Room k A):A.units+1<cLine:=Nat.lt_of_le_of_lt (Nat.add_le_add_left (by decide:1<=64) _) hr.units
theorem iteF{A B:Prop}(h:B):if false=true then A else B:=by
 rw [if_neg L9];exact h
theorem iteT{A B:Prop}(h:A):if true=true then A else B:=by
 rw [if_pos rfl];exact h
theorem iteNS{c A B:Prop}[Decidable c](hc:c)(h:B):if (!decide c)=true then A else B:=by
 rw [decide_eq_true hc];exact iteF h
noncomputable def Same (H H':Hp):Prop:=∀ b o,H b=some o->H' b=some o
theorem aQ(H:Hp):Same H H:=fun _ _ h=>h
theorem Same.trans(a:Same H H1)(b:Same H1 H2):Same H H2:=fun c o h=>b c o (a c o h)
theorem Same.free(e:Same H H'){l:Addr}(h:H' l=Option.none):H l=Option.none:=by
 cases q:H l with
 | none=>rfl
 | some o=>
  rw [e l o q] at h;cases h
theorem Same.seq(e:Same H H')(h:D1 K H a xs):D1 K H' a xs:=by
 rcases h with (h | ⟨o,h⟩) | h
 .exact .inl (.inl (e _ _ h))
 .exact .inl (.inr ⟨o,e _ _ h⟩)
 .exact .inr h
section
variable {κ:Type} [DecidableEq κ]
noncomputable def valV (kvs:List (κ×V)) (k:κ):Option V:=(kvs.find? fun kv=>decide (kv.1=k)).map (·.2)
noncomputable def putK (kvs:List (κ×V)) (k:κ) (v:V):List (κ×V):=
 if (kvs.any fun kv=>decide (kv.1=k))=true then kvs.map (fun kv=>if kv.1=k then (kv.1,v) else kv) else kvs++[(k,v)]
theorem qZ{p:κ×V}{r:List (κ×V)}{k:κ}(e:p.1=k):valV (p::r) k=some p.2:=by simp [valV,X5,e]
theorem cH{p:κ×V}{r:List (κ×V)}{k:κ}(e:¬ p.1=k):valV (p::r) k=valV r k:=by simp [valV,X5,e]
theorem vQ(k:κ):∀ kvs:List (κ×V),(kvs.any fun kv=>decide (kv.1=k))=(valV kvs k).isSome
 | []=>rfl
 | p::r=>by
  rw [aL]
  by_cases e:p.1=k
  .simp only [qZ e,decide_eq_true e,Bool.true_or,Option.isSome_some]
  .rw [cH e,decide_eq_false e,Bool.false_or];exact vQ k r
theorem vR(kvs:List (κ×V))(k:κ)(v:V):(putK kvs k v).length<=kvs.length+1:=by
 unfold putK
 split
 .rw [A6];lia
 .rw [D9,L3,Z0];lia
theorem alE{kvs:List (κ×V)}{k:κ}(v:V)(h:valV kvs k=none):putK kvs k v=kvs++[(k,v)]:=by
 unfold putK;rw [vQ,h];exact if_neg 'h'
theorem RelO.isSome_eq{o:Option V}{u:Option Value}(r:RelO o u):o.isSome=u.isSome:=by
 cases o with
 | none=>cases u with
  | none=>rfl
  | some _=>exact (show False from r).elim
 | some _=>cases u with
  | none=>exact (show False from r).elim
  | some _=>rfl
theorem RelO.getD{o:Option V}{u:Option Value}{d:V}{d':Value}(r:RelO o u)(rd:RelV d d'):RelV (o.getD d) (u.getD d'):=by
 cases o with
 | none=>cases u with
  | none=>exact rd
  | some _=>exact (show False from r).elim
 | some _=>cases u with
  | none=>exact (show False from r).elim
  | some _=>exact r
theorem KV.val{kvs:List (κ×V)}{vs:List (κ×Value)}(r:KV kvs vs)(k:κ):RelO (valV kvs k) (valueAt vs k):=by
 unfold KV at r
 induction r with
 | nil=>exact True.intro
 | @cons p q ps qs h t ih=>
  obtain ⟨h1,h2⟩:=h
  by_cases e:p.1=k
  .have e':q.1=k:=h1.symm.trans e;have b:valueAt (q::qs) k=some q.2:=by simp [valueAt,X5,e']
   rw [qZ e,b];exact h2
  .have e':¬ q.1=k:=fun z=>e (h1.trans z)
   have b:valueAt (q::qs) k=valueAt qs k:=by simp [valueAt,X5,e']
   rw [cH e,b];exact ih
theorem KV.any{kvs:List (κ×V)}{vs:List (κ×Value)}(r:KV kvs vs)(k:κ):(kvs.any fun kv=>decide (kv.1=k))=vs.any fun kv=>decide (kv.1=k):=by
 unfold KV at r
 induction r with
 | nil=>rfl
 | cons h t ih=>rw [aL,aL,ih,h.1]
theorem KV.repl{kvs:List (κ×V)}{vs:List (κ×Value)}(r:KV kvs vs)(k:κ){y:V}(ry:RelV y u) :
  KV (kvs.map fun kv=>if kv.1=k then (kv.1,y) else kv) (vs.map fun kv=>if kv.1=k then (kv.1,u) else kv):=by
 unfold KV at r ⊢
 induction r with
 | nil=>exact .nil
 | @cons p q ps qs h t ih=>
  rw [F6,F6];refine .cons ?_ ih;obtain ⟨h1,h2⟩:=h
  by_cases e:p.1=k
  .rw [if_pos e,if_pos (h1.symm.trans e)];exact ⟨h1,ry⟩
  .rw [if_neg e,if_neg (fun z=>e (h1.trans z))];exact ⟨h1,h2⟩
theorem KV.put{kvs:List (κ×V)}{vs:List (κ×Value)}(r:KV kvs vs)(k:κ){y:V}(ry:RelV y u):KV (putK kvs k y) (stored vs k u):=by
 unfold putK stored;rw [r.any k]
 by_cases e:(vs.any fun kv=>decide (kv.1=k))=true
 .rw [if_pos e,if_pos e];exact r.repl k ry
 .rw [if_neg e,if_neg e];exact Paired.snoc r ⟨rfl,ry⟩
theorem KV.keys{kvs:List (κ×V)}{vs:List (κ×Value)}(r:KV kvs vs):kvs.map (·.1)=vs.map (·.1):=by
 unfold KV at r
 induction r with
 | nil=>rfl
 | cons h t ih=>rw [F6,F6,ih,h.1]
theorem KV.length{kvs:List (κ×V)}{vs:List (κ×Value)}(r:KV kvs vs):kvs.length=vs.length:=Paired.length r
end
theorem kV_is{P:Program}{w:World}{k:B5}(r:RelV (kV k) u):(N3 P w).is k u=true:=by
 cases k with
 | inl i=>obtain ⟨t,e⟩:=(show ∃ t,u=Value.int i t from r);subst e;exact agZ P w i t
 | inr x=>obtain ⟨t,e⟩:=(show ∃ t,u=Value.str x t from r);subst e;exact ag0 P w x t
theorem vS{P:Program}{w:World} : ∀ {ks:List B5} {us:List Value},Vals (ks.map kV) us->ItemsAre (N3 P w) ks us
 | [],_,r=>by rw [List.map_nil] at r;cases r;exact .nil
 | k::ks,_,r=>by
  rw [F6] at r
  cases r with
  | cons h t=>exact .cons (kV_is h) (vS t)
noncomputable abbrev KT (H:Hp):List (List B5×V)->List (List B5×Addr×Value)->Prop:=Paired fun p q=>p.1=q.1/\H q.2.1=some (.tup (p.1.map kV))/\RelV p.2 q.2.2
theorem KT.val{kvs:List (List B5×V)}{xs:List (List B5×Addr×Value)}(r:KT H kvs xs)(k:List B5):RelO (valV kvs k) ((atKey xs k).map (·.2)):=by
 induction r with
 | nil=>exact True.intro
 | @cons p q ps qs h t ih=>
  obtain ⟨h1,_,h2⟩:=h
  by_cases e:p.1=k
  .have e':q.1=k:=h1.symm.trans e;have b:atKey (q::qs) k=some q.2:=by simp [atKey,X5,e']
   rw [qZ e,b];exact h2
  .have e':¬ q.1=k:=fun z=>e (h1.trans z)
   have b:atKey (q::qs) k=atKey qs k:=by simp [atKey,X5,e']
   rw [cH e,b];exact ih
theorem KT.repl{kvs:List (List B5×V)}{xs:List (List B5×Addr×Value)}(r:KT H kvs xs)(k:List B5){y:V}(ry:RelV y u) :
  KT H (kvs.map fun kv=>if kv.1=k then (kv.1,y) else kv) (xs.map (putAt k u)):=by
 induction r with
 | nil=>exact .nil
 | @cons p q ps qs h t ih=>
  rw [F6,F6];refine .cons ?_ ih;obtain ⟨h1,h2,h3⟩:=h;unfold putAt
  by_cases e:p.1=k
  .rw [if_pos e,if_pos (h1.symm.trans e)];exact ⟨h1,h2,ry⟩
  .rw [if_neg e,if_neg (fun z=>e (h1.trans z))];exact ⟨h1,h2,h3⟩
theorem KT.put{kvs:List (List B5×V)}{xs:List (List B5×Addr×Value)}(r:KT H kvs xs)(k:List B5){y:V}(hb:H b=some (.tup (k.map kV)))(ry:RelV y u) :
  KT H (putK kvs k y) (storedH xs k b u):=by
 have e:(kvs.any fun kv=>decide (kv.1=k))=(atKey xs k).isSome:=by
  rw [vQ,(r.val k).isSome_eq,eQ]
 unfold putK storedH;rw [e]
 by_cases q:(atKey xs k).isSome=true
 .rw [if_pos q,if_pos q];exact r.repl k ry
 .rw [if_neg q,if_neg q];exact Paired.snoc r ⟨rfl,hb,ry⟩
theorem KT.keeps{kvs:List (List B5×V)}{xs:List (List B5×Addr×Value)}(r:KT H kvs xs)(ht:∀ b ys,H b=some (.tup ys)->H' b=some (.tup ys)):KT H' kvs xs:=
 N9 r fun _ _ z=>⟨z.1,ht _ _ z.2.1,z.2.2⟩
section
variable {P:Program} {w:World} {H:Hp} {h:Heap} {a:Addr}
theorem rd_of{u:HO}(ok:N4 P w H h)(e:Rd H a u):ObjOk P w H h a u:=e.ok ok
theorem dk_rd(ok:N4 P w H h)(e:Rd H a (.dK kvs)):kvs.length<=sizeLine/\(a==sysModules)=false/\∃ vs,KV kvs vs/\h.DictOf (N3 P w) a vs:=
 show ObjOk P w H h a (.dK kvs) from rd_of ok e
theorem dk_of(ok:N4 P w H h)(e:H a=some (.dK kvs)):kvs.length<=sizeLine/\(a==sysModules)=false/\∃ vs,KV kvs vs/\h.DictOf (N3 P w) a vs:=dk_rd ok (.inl e)
theorem gU{ks:List B5}(ok:N4 P w H h)(e:H a=some (.tup (ks.map kV))):(tupleKind (N3 P w)).is h ks a:=by
 obtain ⟨_,its,r,o,h1,h2,n,h3⟩:=(show ObjOk P w H h a (.tup (ks.map kV)) from ok a _ e)
 exact ⟨o,its.toArray,n,h1,h2,h3,by simpa using vS r⟩
theorem dt_rd{kvs:List (List B5×V)}(ok:N4 P w H h)(e:Rd H a (.dT kvs)):kvs.length<=sizeLine/\(a==sysModules)=false/\
  ∃ xs,KT H kvs xs/\h.DictOfH (tupleKind (N3 P w)) a xs:=by
 obtain ⟨z,y,xs,r,o,es,ep,h1,h2,h3,h4,h5⟩:=(show ObjOk P w H h a (.dT kvs) from rd_of ok e)
 refine ⟨z,y,xs,r,o,es,ep,h1,h2,h3,h4,fun x hx=>?_,h5⟩;have all:∀ {l:List (List B5×V)} {m:List (List B5×Addr×Value)},KT H l m->∀ x∈m,(tupleKind (N3 P w)).is h x.1 x.2.1:=by
  intro l m q
  induction q with
  | nil=>intro x hx;exact nomatch hx
  | @cons p q ps qs hq t ih=>
   intro x hx
   rcases L4.mp hx with e | hx
   .subst e;exact gU ok (by rw [<- hq.1];exact hq.2.1)
   .exact ih x hx
 exact all r x hx
theorem dt_of{kvs:List (List B5×V)}(ok:N4 P w H h)(e:H a=some (.dT kvs)):kvs.length<=sizeLine/\(a==sysModules)=false/\
  ∃ xs,KT H kvs xs/\h.DictOfH (tupleKind (N3 P w)) a xs:=dt_rd ok (.inl e)
end
noncomputable def DGet (H:Hp) (a:Addr) (y:V) (r:Option V):Prop:=
 (∃ kvs k,Rd H a (.dK kvs)/\y=kV k/\r=valV kvs k)\/∃ kvs k b,Rd H a (.dT kvs)/\y=.ref b/\H b=some (.tup (k.map kV))/\r=valV kvs k
noncomputable def DPut (H:Hp) (a:Addr) (y v:V) (H':Hp):Prop:=
 (∃ kvs k,H a=some (.dK kvs)/\y=kV k/\kvs.length<sizeLine/\H'=A0 H a (.dK (putK kvs k v)))\/
 ∃ kvs k b,H a=some (.dT kvs)/\y=.ref b/\H b=some (.tup (k.map kV))/\kvs.length<sizeLine/\H'=A0 H a (.dT (putK kvs k v))
theorem f6{k:B5}(e:H a=some (.dK kvs)):DGet H a (kV k) (valV kvs k):=.inl ⟨kvs,k,.inl e,rfl,rfl⟩
theorem cI{k:B5}(e:H a=some (.dK kvs))(hl:kvs.length<sizeLine):DPut H a (kV k) v (A0 H a (.dK (putK kvs k v))):=.inl ⟨kvs,k,e,rfl,hl,rfl⟩
section
variable {X:Cx} {pins:List (Addr×Obj)} {Y:St} {H:Hp} {s:Shared} {a:Addr} {y v:V} {u r:Value} {o:Option V} {A:Around} {E:Value->Shared->Prop}
theorem Inv.big(I:Inv X pins Y H s):sysModules<s.heap.objs.size:=by
 have h:mainGlobals<s.heap.objs.size:=(I.mod.glob.keeps I.bk).lt;exact Nat.lt_trans 'h' h
theorem agf{Q:Value->Shared->Prop}(hu:A.units+1<cLine)(I:Inv X pins Y H s)(g:DGet H a y (some v))(ry:RelV y u)(h:∀ w' s',Inv X pins Y H s'->RelV v w'->Q w' s') :
  wpAny 'b' A (getItem (.ref a) u) Q E s:=by
 rcases g with ⟨kvs,k,e,ey,l⟩ | ⟨kvs,k,b,e,ey,eb,l⟩
 .subst ey;obtain ⟨z,hd,vs,rel,dd⟩:=dk_rd I.hok e;obtain ⟨w',hw,rw'⟩:=nI (v:=v) (o:=valueAt vs k) (by rw [l];exact rel.val k);exact wpAny_getItem_of (kV_is ry) dd.mapOf hw (h w' _ (I.tok _) rw')
 .subst ey
  cases (show u=Value.ref b from ry)
  obtain ⟨z,hd,xs,rel,dd⟩:=dt_rd I.hok e;obtain ⟨w',hw,rw'⟩:=nI (v:=v) (o:=(atKey xs k).map (·.2)) (by rw [l];exact rel.val k);obtain ⟨p,hp,bN⟩:=Option.map_eq_some_iff.mp hw;refine wpAny_getItem_heap (tupleKind_room_in1 hu) (gU I.hok eb) dd hp ?_;rw [bN];exact h w' _ (I.tok _) rw'
theorem d_in{Q:Value->Shared->Prop}(hu:A.units+1<cLine)(I:Inv X pins Y H s)(g:DGet H a y o)(ry:RelV y u)(h:∀ s',Inv X pins Y H s'->Q (.bool o.isSome) s') :
  wpAny 'b' A (compareOp .In u (.ref a)) Q E s:=by
 rcases g with ⟨kvs,k,e,ey,l⟩ | ⟨kvs,k,b,e,ey,eb,l⟩
 .subst ey;obtain ⟨z,hd,vs,rel,dd⟩:=dk_rd I.hok e;refine wpAny_in_of (kV_is ry) hd dd.mapOf ?_;rw [<- (rel.val k).isSome_eq,<- l];exact h _ (I.tok _)
 .subst ey
  cases (show u=Value.ref b from ry)
  obtain ⟨z,hd,xs,rel,dd⟩:=dt_rd I.hok e;refine wpAny_in_heap (tupleKind_room_in1 hu) (gU I.hok eb) hd dd ?_;have q:=(rel.val k).isSome_eq;rw [eQ] at q;rw [<- q,<- l];exact h _ (I.tok _)
theorem an0{Q:Value->Shared->Prop}(hu:A.units+1<cLine)(I:Inv X pins Y H s)(g:DGet H a y o)(ry:RelV y u)(h:∀ s',Inv X pins Y H s'->Q (.bool (!o.isSome)) s') :
  wpAny 'b' A (compareOp .NotIn u (.ref a)) Q E s:=by
 rcases g with ⟨kvs,k,e,ey,l⟩ | ⟨kvs,k,b,e,ey,eb,l⟩
 .subst ey;obtain ⟨z,hd,vs,rel,dd⟩:=dk_rd I.hok e;refine wpAny_notIn_of (kV_is ry) hd dd.mapOf ?_;rw [<- (rel.val k).isSome_eq,<- l];exact h _ (I.tok _)
 .subst ey
  cases (show u=Value.ref b from ry)
  obtain ⟨z,hd,xs,rel,dd⟩:=dt_rd I.hok e;refine wpAny_notIn_heap (tupleKind_room_in1 hu) (gU I.hok eb) hd dd ?_;have q:=(rel.val k).isSome_eq;rw [eQ] at q;rw [<- q,<- l];exact h _ (I.tok _)
theorem rA{ob:HO}(I:Inv X pins Y H s)(mu:nF (H a))(hs:Heap.SameBut a s.heap h')(he:∃ q,h'.get? a=some q)(new:ObjOk X.prog X.w (A0 H a ob) h' a ob) :
  Inv X pins Y (A0 H a ob) { s with heap:=h',toks:=t' }:=
 I.write (x:=a) (e:=a) mu 'f' (fun b q hb z=>(hs.2 b hb).trans z) he new
theorem vT{P:Program}{w:World}{vs:List (B5×Value)}(z:kvs.length<=sizeLine)(hd:(a==sysModules)=false)(rel:KV kvs vs)(dd:h'.DictOf (N3 P w) a vs) :
  ObjOk P w H' h' a (.dK kvs):=⟨z,hd,vs,rel,dd⟩
theorem agg{Q:Unit->Shared->Prop}(hu:A.units+1<cLine)(I:Inv X pins Y H s)(g:DPut H a y v H')(ry:RelV y u)(rv:RelV v r)(h:∀ s',Inv X pins Y H' s'->Q () s') :
  wpAny 'b' A (setItem (.ref a) u r) Q E s:=by
 rcases g with ⟨kvs,k,e,ey,l,eH⟩ | ⟨kvs,k,b,e,ey,eb,l,eH⟩
 .subst ey eH;obtain ⟨z,hd,vs,rel,dd⟩:=dk_of I.hok e;have hz:vs.length<=sizeLine:=by rw [<- rel.length];exact z
  have hl:(putK kvs k v).length<=sizeLine:=by have:=vR kvs k v;lia
  refine wpAny_setItem_pairs (hsz:=hz) (kV_is ry) dd fun h' dd' hs=>h _ ?_
  have he:∃ q,h'.get? a=some q:=let ⟨q,_,_,hq,_⟩:=dd';⟨q,hq⟩
  exact rA I (by rw [e];exact True.intro) hs he (vT hl hd (rel.put k rv) dd')
 .subst ey eH
  cases (show u=Value.ref b from ry)
  obtain ⟨z,hd,xs,rel,dd⟩:=dt_of I.hok e;have hz:xs.length<=sizeLine:=by rw [<- Paired.length rel];exact z
  have hl:(putK kvs k v).length<=sizeLine:=by have:=vR kvs k v;lia
  refine wpAny_setItem_heap (hsz:=hz) (tupleKind_room_in1 hu) (gU I.hok eb) dd fun h' dd' hs=>h _ ?_
  obtain ⟨q,es,ep,hq,h2,h3,h4,_,h5⟩:=dd';refine rA I (by rw [e];exact True.intro) hs ⟨q,hq⟩ ⟨hl,hd,_,(rel.put k eb rv).keeps fun c ys ec=>?_,q,es,ep,hq,h2,h3,h4,h5⟩;rw [A7 (ne_of ec e (fun z=>nomatch z))];exact ec
end
section
variable {X:Cx} {pins:List (Addr×Obj)} {Y:St} {H:Hp} {s:Shared} {a:Addr} {kvs:List (B5×V)} {k:B5} {u:Value} {A:Around} {E:Value->Shared->Prop}
theorem d_len{Q:Value->Shared->Prop}(I:Inv X pins Y H s)(e:Rd H a (.dK kvs))(h:∀ t s',Inv X pins Y H s'->Q (.int kvs.length t) s'):wpAny 'b' A (call (.builtin "len") [.ref a]) Q E s:=by
 obtain ⟨z,hd,vs,rel,dd⟩:=dk_rd I.hok e;refine call_len_dict hd dd (by rw [<- rel.length];rw [sizeLine_eq] at z;lia) ?_;rw [<- rel.length];exact h _ _ (I.tok _)
end
noncomputable def NoSl (i:Expr):Prop:=∀ ov iv,subscripted i false ov iv=operate [ov,iv] (getItem ov iv)
theorem vU{w:World}{env:Env}{value slice:Expr}{pos:Pos}{T id:String}{Q:Value->Shared->Prop}(hl:typeLookup (.type T) "__getitem__"=pure (some (.builtin id)))(hs:NoSl slice)(h:wpAny 'j' A (eval value env) (fun o zu=>wpAny 'j' A (eval slice env) (fun i zx=>zx.TypeIs o T/\wpAny 'j' A (getItem o i) Q E zx) E zu) E s) :
  wpAny 'j' A (eval (.Subscript value slice pos) env) Q E s:=by
 refine Subscript_ (wpAny_mono h (fun o zu zr=>wpAny_mono zr (fun i zx zq=>?_) fun _ _ x=>x) fun _ _ x=>x);obtain ⟨hT,zq⟩:=zq;unfold subscriptTail;refine wpAny_bind ?_;rw [getitemInPython_of_ne hT.not_modules];refine wpAny_bind (wpAny_specialOf hT hl ?_);have fin:wpAny 'j' A (subscripted slice false o i) (fun r zw=>wpAny 'j' A (letTemporaryGo value o r >>= fun _=>pure r) Q E zw) E zx:=by
  rw [hs o i];exact wpAny_operating (wpAny_mono zq (fun r zw zp=>wpAny_bind (wpAny_letTemporaryGo (wpAny_pure zp))) fun _ _ x=>x)
 first
  | exact wpAny_pure (wpAny_bind fin)
  | exact wpAny_bind (wpAny_pure (wpAny_bind fin))
  | exact wpAny_bind fin
theorem ag6{y:V}{o:Option V}(I:Inv X pins Y H s)(g:DGet H a y o):s.TypeIs (.ref a) "dict":=by
 rcases g with ⟨kvs,k,e,_,_⟩ | ⟨kvs,k,b,e,_,_,_⟩
 .obtain ⟨_,_,vs,_,dd⟩:=dk_rd I.hok e;exact dd.typeIs
 .obtain ⟨_,_,xs,_,dd⟩:=dt_rd I.hok e;exact dd.typeIs
noncomputable def tDGet (td ty:TE):TE:=fun Y H Q=>td Y H fun x H1=>ty Y H1 fun y H2=>∃ a v,x=.ref a/\DGet H2 a y (some v)/\Q v H2
noncomputable def sDPut (td ty tv:TE):TS:=fun D Y H=>tv Y H fun v H1=>td Y H1 fun x H2=>ty Y H2 fun y H3=>∃ a H4,x=.ref a/\DPut H3 a y v H4/\D.nx Y H4
noncomputable def sDAug (td ty tv:TE) (rd:V->V->Hp->VK->Prop):TS:=fun D Y H=>td Y H fun x H1=>ty Y H1 fun y H2=>∃ a v,x=.ref a/\DGet H2 a y (some v)/\
 tv Y H2 fun y2 H3=>rd v y2 H3 fun z H4=>∃ H5,DPut H4 a y z H5/\D.nx Y H5
section
variable {X:Cx} {o i e value:Expr} {pos pos' tpos:Pos} {td ty tv:TE}
theorem an1(hu:X.A.units+1<cLine)(ho:PE X o td)(hi:PE X i ty)(hs:NoSl i):PE X (.Subscript o i pos) (tDGet td ty):=by
 sleep 1;refine vU PySem.F.slot_dict_getitem.lookup hs (B1 (ho pins s Y H _ I h) fun u s1 ⟨x,H1,I1,rx,q1⟩=>B1 (hi pins s1 Y H1 _ I1 q1) fun iv s2 ⟨y,H2,I2,ry,a,v,ex,g,q2⟩=>?_);subst ex;obtain rfl:u=Value.ref a:=rx;exact ⟨ag6 I2 g,agf hu I2 g ry fun w' s3 I3 rw'=>⟨v,H2,I3,rw',q2⟩⟩
theorem an2(hu:X.A.units+1<cLine)(ho:PE X o td)(hi:PE X i ty)(hv:PE X value tv)(hs:swapsWith value (some (.Subscript o i pos')) pos.line X.env=pure false) :
  PS X (.Assign [.Subscript o i pos'] value pos) (sDPut td ty tv):=by
 intro pins s Y H D I h;refine wpAny_Assign_Subscript (B1 (hv pins s Y H _ I h) fun r s1 ⟨v,H1,I1,rv,q1⟩=>B1 (ho pins s1 Y H1 _ I1 q1) fun u s2 ⟨x,H2,I2,rx,q2⟩=>B1 (hi pins s2 Y H2 _ I2 q2) fun iv s3 ⟨y,H3,I3,ry,a,H4,ex,g,q3⟩=>?_) hs;subst ex;obtain rfl:u=Value.ref a:=rx;exact agg hu I3 g ry rv fun s4 I4=>⟨Y,H4,I4,q3⟩
theorem an3{op:Operator}{rd:V->V->Hp->VK->Prop}(hu:X.A.units+1<cLine)(ho:PE X o td)(hi:PE X i ty)(hv:PE X value tv)(hop:InOp X op rd)(ha:∀ ov iv new,augStore i ov iv new=(do holding [new,ov,iv] (setItem ov iv new);release [new,ov,iv] [];pure .next)):PS X (.AugAssign (.Subscript o i tpos) op value pos) (sDAug td ty tv rd):=by
 intro pins s Y H D I h;refine wpAny_AugAssign_SubscriptAny (B1 (ho pins s Y H _ I h) fun u s1 ⟨x,H1,I1,rx,q1⟩=>B1 (hi pins s1 Y H1 _ I1 q1) fun iv s2 ⟨y,H2,I2,ry,a,v,ex,g,q2⟩=>?_) ha;subst ex;obtain rfl:u=Value.ref a:=rx;refine agf hu I2 g ry fun w' s3 I3 rw'=>B1 (hv pins s3 Y H2 _ I3 q2) fun w2 s4 ⟨y2,H3,I4,ry2,q3⟩=>B1 (hop pins s4 Y H3 v y2 w' w2 _ I4 rw' ry2 q3) fun w3 s5 ⟨z,H4,I5,rz,H5,g5,q4⟩=>?_
 exact agg hu I5 g5 ry rz fun s6 I6=>⟨Y,H5,I6,q4⟩
end
theorem alF{P:Program}{w:World}(h:Heap)(hb:sysModules<h.objs.size):ObjOk P w H (h.push { cls:=.type "dict",data:=.dict #[] }) h.objs.size (.dK []):=
 ⟨F7 _,beq_eq_false_iff_ne.mpr (Ne.symm (M5 hb)),[],.nil,Heap.DictOf.new h⟩
noncomputable def vV:TE:=fun _ H Q=>∀ p,H p=none->Q (.ref p) (A0 H p (.dK []))
section
variable {X:Cx} {pos:Pos}
theorem alG:PE X (.Dict [] [] pos) vV:=fun pins s Y H Q I h=>
 wpAny_Dict_empty ⟨.ref s.heap.objs.size,_,I.laid (a:=s.heap.objs.size) (o:=.dK []) (t':=s.toks) (fun _ _ q=>Heap.get?_push_of_some _ q) (C3 _) (alF s.heap I.big),rfl,h _ (I.hok.fresh (C3 _))⟩
end
noncomputable def kJ:List (TE×TE)->St->Hp->(List (V×V)->Hp->Prop)->Prop
 | [],_,H,Q=>Q [] H
 | (tk,tv)::r,Y,H,Q=>tk Y H fun x H1=>tv Y H1 fun y H2=>kJ r Y H2 fun ps H3=>Q ((x,y)::ps) H3
noncomputable def Y1 (kvs more:List (B5×V)):List (B5×V):=more.foldl (fun acc kv=>putK acc kv.1 kv.2) kvs
theorem adF:∀ (more kvs:List (B5×V)),(Y1 kvs more).length<=kvs.length+more.length
 | [],kvs=>by show kvs.length<=kvs.length+0;lia
 | p::r,kvs=>by
  have h1:=adF r (putK kvs p.1 p.2);have h2:=vR kvs p.1 p.2;show (Y1 (putK kvs p.1 p.2) r).length<=_;rw [L3];lia
noncomputable def tDisp (trs:List (TE×TE)):TE:=fun Y H Q=>∀ p,H p=none->kJ trs Y (A0 H p (.dK [])) fun ps H2=>H2 p=some (.dK [])/\∃ kvs:List (B5×V),ps=kvs.map (fun kv=>(kV kv.1,kv.2))/\kvs.length<=15/\Q (.ref p) (A0 H2 p (.dK (Y1 [] kvs)))
structure M1(X:Cx)(o:Expr)(m:Str)(apos:Pos)(e:Expr)(cpos:Pos):Prop where
 base:attributeBase o m X.env (eval o X.env)=eval o X.env
 few:((backTo cpos (starEach [e] X.env)).all (fun x=>!x.1)&&(backToKw cpos (keywordEach [] X.env)).all (fun x=>x.1.isSome)
  && decide (([e]:List Expr).length+([]:List Keyword).length+(if ([]:List Keyword).isEmpty then 0 else 1)<30))=true
 line:(apos.endLine==cpos.line)=true
 trees:backTo cpos (starEach [e] X.env)=[(false,eval e X.env)]
structure M2(X:Cx)(o:Expr)(m:Str)(apos:Pos)(e f:Expr)(cpos:Pos):Prop where
 base:attributeBase o m X.env (eval o X.env)=eval o X.env
 few:((backTo cpos (starEach [e,f] X.env)).all (fun x=>!x.1)&&(backToKw cpos (keywordEach [] X.env)).all (fun x=>x.1.isSome)
  && decide (([e,f]:List Expr).length+([]:List Keyword).length+(if ([]:List Keyword).isEmpty then 0 else 1)<30))=true
 line:(apos.endLine==cpos.line)=true
 trees:backTo cpos (starEach [e,f] X.env)=[(false,eval e X.env),(false,eval f X.env)]
noncomputable def gW (H:Hp) (a:Addr):Prop:=(∃ kvs,Rd H a (.dK kvs))\/∃ kvs,Rd H a (.dT kvs)
theorem vW(I:Inv X pins Y H s)(d:gW H a) :
  s.TypeIs (.ref a) "dict"/\(∀ b,Value.ref a=.ref b->∃ ob,s.heap.get? b=some ob/\ob.dict=none)/\(a==sysModules)=false:=by
 rcases d with ⟨kvs,e⟩ | ⟨kvs,e⟩
 .obtain ⟨_,hd,vs,_,dd⟩:=dk_rd I.hok e;refine ⟨dd.typeIs,fun b q=>?_,hd⟩
  cases q
  obtain ⟨ob,_,_,h1,h2,_⟩:=dd;exact ⟨ob,h1,h2.2.1⟩
 .obtain ⟨_,hd,xs,_,dd⟩:=dt_rd I.hok e;refine ⟨dd.typeIs,fun b q=>?_,hd⟩
  cases q
  obtain ⟨ob,_,_,h1,h2,_⟩:=dd;exact ⟨ob,h1,h2.2.1⟩
section
variable {X:Cx} {pins:List (Addr×Obj)} {Y:St} {H:Hp} {s:Shared} {a:Addr} {y d:V} {u r:Value} {o:Option V} {A:Around} {E:Value->Shared->Prop}
theorem aqW{Q:Value->Shared->Prop}(hu:A.units+1<cLine)(I:Inv X pins Y H s)(g:DGet H a y o)(ry:RelV y u)(h:∀ w' s',Inv X pins Y H s'->RelV (o.getD .non) w'->Q w' s') :
  wpAny 'b' A (call (.builtin "dict.get") [.ref a,u]) Q E s:=by
 rcases g with ⟨kvs,k,e,ey,l⟩ | ⟨kvs,k,b,e,ey,eb,l⟩
 .subst ey;obtain ⟨z,hd,vs,rel,dd⟩:=dk_rd I.hok e;refine call_meetsIn kB dd.typeIs qP (PySem.F.args_dict_get_2 _ _) (meets_dict_get (N3 X.prog X.w) a (kV_is ry) hd) ⟨_,dd.mapOf,h _ _ (I.tok _) ?_⟩;rw [l];exact (rel.val k).getD rfl
 .subst ey
  cases (show u=Value.ref b from ry)
  obtain ⟨z,hd,xs,rel,dd⟩:=dt_rd I.hok e;refine call_meetsIn kB dd.typeIs qP (PySem.F.args_dict_get_2 _ _) (meetsH_dict_get (tupleKind (N3 X.prog X.w)) a b hd) ⟨tupleKind_room_in1 hu,k,xs,gU I.hok eb,dd,h _ _ (I.tok _) ?_⟩;rw [l];exact (rel.val k).getD rfl
theorem aqX{Q:Value->Shared->Prop}(hu:A.units+1<cLine)(I:Inv X pins Y H s)(g:DGet H a y o)(ry:RelV y u)(rd:RelV d r)(h:∀ w' s',Inv X pins Y H s'->RelV (o.getD d) w'->Q w' s') :
  wpAny 'b' A (call (.builtin "dict.get") [.ref a,u,r]) Q E s:=by
 rcases g with ⟨kvs,k,e,ey,l⟩ | ⟨kvs,k,b,e,ey,eb,l⟩
 .subst ey;obtain ⟨z,hd,vs,rel,dd⟩:=dk_rd I.hok e;refine call_meetsIn kB dd.typeIs qP (PySem.F.args_dict_get_3 _ _ _) (meets_dict_get_default (N3 X.prog X.w) a (kV_is ry) hd r) ⟨_,dd.mapOf,h _ _ (I.tok _) ?_⟩;rw [l];exact (rel.val k).getD rd
 .subst ey
  cases (show u=Value.ref b from ry)
  obtain ⟨z,hd,xs,rel,dd⟩:=dt_rd I.hok e;refine call_meetsIn kB dd.typeIs qP (PySem.F.args_dict_get_3 _ _ _) (meetsH_dict_get_default (tupleKind (N3 X.prog X.w)) a b hd r) ⟨tupleKind_room_in1 hu,k,xs,gU I.hok eb,dd,h _ _ (I.tok _) ?_⟩;rw [l];exact (rel.val k).getD rd
end
noncomputable def vX (td ty:TE):TE:=fun Y H Q=>td Y H fun x H1=>∃ a,x=.ref a/\gW H1 a/\ty Y H1 fun y H2=>∃ o,DGet H2 a y o/\Q (o.getD .non) H2
noncomputable def vY (td ty tx:TE):TE:=fun Y H Q=>td Y H fun x H1=>∃ a,x=.ref a/\gW H1 a/\ty Y H1 fun y H2=>tx Y H2 fun z H3=>∃ o,DGet H3 a y o/\Q (o.getD z) H3
section
variable {X:Cx} {o e f:Expr} {apos cpos:Pos} {td ty tx:TE}
theorem alH(hu:X.A.units+1<cLine)(ho:PE X o td)(he:PE X e ty)(m:M1 X o "get" apos e cpos):PE X (.Call (.Attribute o "get" apos) [e] [] cpos) (vX td ty):=by
 sleep 1;refine wpAny_Call_method m.base m.few m.line PySem.F.plainAttrs_dict kB PySem.F.type_dict_get (B1 (ho pins s Y H _ I h) fun u s1 ⟨x,H1,I1,rx,a,ex,d,q1⟩=>?_);subst ex;obtain rfl:u=Value.ref a:=rx;obtain ⟨t1,t2,_⟩:=vW I1 d;refine ⟨t1,t2,?_⟩;rw [m.trees];refine Calls.callWith_builtin rfl (Calls.evalArgs_plain (Calls.spliced_cons (B1 (he pins s1 Y H1 _ I1 q1) fun iv s2 ⟨y,H2,I2,ry,ov,g,q2⟩=>Calls.spliced_nil ?_)));exact aqW hu I2 g ry fun w' s3 I3 rw'=>⟨_,H2,I3,rw',q2⟩
theorem alI(hu:X.A.units+1<cLine)(ho:PE X o td)(he:PE X e ty)(hf:PE X f tx)(m:M2 X o "get" apos e f cpos):PE X (.Call (.Attribute o "get" apos) [e,f] [] cpos) (vY td ty tx):=by
 sleep 1;refine wpAny_Call_method m.base m.few m.line PySem.F.plainAttrs_dict kB PySem.F.type_dict_get (B1 (ho pins s Y H _ I h) fun u s1 ⟨x,H1,I1,rx,a,ex,d,q1⟩=>?_);subst ex;obtain rfl:u=Value.ref a:=rx;obtain ⟨t1,t2,_⟩:=vW I1 d;refine ⟨t1,t2,?_⟩;rw [m.trees];refine Calls.callWith_builtin rfl (Calls.evalArgs_plain (Calls.spliced_cons (B1 (he pins s1 Y H1 _ I1 q1) fun iv s2 ⟨y,H2,I2,ry,q2⟩=>
  Calls.spliced_cons (B1 (hf pins s2 Y H2 _ I2 q2) fun fv s3 ⟨z,H3,I3,rz,ov,g,q3⟩=>Calls.spliced_nil ?_))))
 exact aqX hu I3 g ry rz fun w' s4 I4 rw'=>⟨_,H3,I4,rw',q3⟩
end
section
variable {κ:Type} [DecidableEq κ]
theorem vZ:∀ {l:List κ} {k:κ},l.Nodup->¬ k∈l->(l++[k]).Nodup
 | [],k,_,_=>by simp
 | a::r,k,h,hk=>by
  obtain ⟨h1,h2⟩:=W0.mp h;show (a::(r++[k])).Nodup;refine W0.mpr ⟨fun m=>?_,vZ h2 fun m=>hk (L4.mpr (Or.inr m))⟩
  rcases G3.mp m with q | q
  .exact h1 q
  .exact hk (L4.mpr (Or.inl (E7.mp q).symm))
end
noncomputable def cloOf (cells:List (Str×Addr)):List (Str×NameKind)->List (Str×Addr)->List (Str×Addr)
 | [],acc=>acc
 | (n,k)::r,acc=>if k=.free then cloOf cells r ((n,(cells.lookup n).getD 0)::acc) else cloOf cells r acc
theorem wA{env:Env} : ∀ (names:List (Str×NameKind)) (acc:List (Str×Addr)),(∀ x∈names,x.2=.free->∃ c,env.cells.lookup x.1=some c)->
  (forIn names acc fun (x:Str×NameKind) (cs:List (Str×Addr))=>(if (x.2==NameKind.free)=true then do
   let c <- cellOf env x.1
   pure (ForInStep.yield ((x.1,c)::cs)) else pure (ForInStep.yield cs):Sem (ForInStep (List (Str×Addr)))))=(pure (cloOf env.cells names acc):Sem (List (Str×Addr)))
 | [],acc,_=>rfl
 | (n,k)::r,acc,h=>by
  rw [List.forIn_cons];have hr:∀ x∈r,x.2=.free->∃ c,env.cells.lookup x.1=some c:=fun x hx=>h x (O7 _ hx)
  by_cases hk:k=.free
  .subst hk;obtain ⟨c,hc⟩:=h (n,.free) N2 rfl;have e1:cellOf env n=pure c:=by unfold cellOf;rw [show env.cells.lookup n=some c from hc]
   simp only [beq_self_eq_true,if_true];rw [e1];show (forIn r ((n,c)::acc) _:Sem _)=_;rw [wA r _ hr];show _=pure (if NameKind.free=.free then cloOf env.cells r ((n,(env.cells.lookup n).getD 0)::acc) else _);rw [if_pos rfl,show env.cells.lookup n=some c from hc];rfl
  .have hb:(k==NameKind.free)=false:=by simpa using hk
   simp only [hb,mZ,if_false];show (forIn r acc _:Sem _)=_;rw [wA r _ hr];show _=pure (if k=.free then _ else cloOf env.cells r acc);rw [if_neg hk]
theorem adn{scope:Scope}{env:Env}(h:∀ x∈scope.names,x.2=.free->∃ c,env.cells.lookup x.1=some c):closureFor scope env=pure (cloOf env.cells scope.names []):=by
 simp only [closureFor];have e:=wA (env:=env) scope.names [] h;rw [e];rfl
theorem rB{cells:List (Str×Addr)}{x:Str} : ∀ (names:List (Str×NameKind)) (acc:List (Str×Addr)),
  (cloOf cells names acc).lookup x=if (x,NameKind.free)∈names then some ((cells.lookup x).getD 0) else acc.lookup x
 | [],acc=>by simp [cloOf]
 | (n,k)::r,acc=>by
  show (if k=.free then cloOf cells r ((n,(cells.lookup n).getD 0)::acc) else cloOf cells r acc).lookup x=_
  by_cases hk:k=.free
  .subst hk;rw [if_pos rfl,rB r]
   by_cases hm:(x,NameKind.free)∈r
   .rw [if_pos hm,if_pos (O7 _ hm)]
   .rw [if_neg hm,List.lookup_cons]
    by_cases hx:x=n
    .subst hx;rw [if_pos N2]
     simp
    .have e:(x==n)=false:=by simpa using hx
     rw [e,if_neg];intro z
     rcases L4.mp z with z | z
     .exact hx (Prod.mk.inj z).1
     .exact hm z
  .rw [if_neg hk,rB r]
   by_cases hm:(x,NameKind.free)∈r
   .rw [if_pos hm,if_pos (O7 _ hm)]
   .rw [if_neg hm,if_neg];intro z
    rcases L4.mp z with z | z
    .exact hk (Prod.mk.inj z).2.symm
    .exact hm z
theorem wB{α:Type}{x:Str} : ∀ {l:List (Str×α)} {k:α},l.lookup x=some k->(x,k)∈l
 | [],_,h=>by simp at h
 | (n,a)::r,k,h=>by
  rw [List.lookup_cons] at h
  by_cases hx:x=n
  .subst hx;simp at h;subst h;exact N2
  .have e:(x==n)=false:=by simpa using hx
   rw [e] at h;exact O7 _ (wB h)
theorem ad8{sc:Scope}{env:Env}{x:Str}{k:NameKind}(hc:∀ y∈sc.names,y.2≠.cell)(h:(relabel sc env).names.lookup x=some k)(hk:k=.cell\/k=.free):(x,NameKind.free)∈sc.names:=by
 have m:=wB h;unfold relabel at m;obtain ⟨⟨n,k'⟩,hm,e⟩:=C6.mp m;have G9:=hc _ hm
 by_cases hf:k'=.free
 .subst hf
  have:n=x:=by
   dsimp only at e
   split at e
   .exact (Prod.mk.inj e).1
   .exact (Prod.mk.inj e).1
  subst this;exact hm
 .have hb:(k'==NameKind.free)=false:=by simpa using hf
  simp only [hb,Bool.false_and,mZ,if_false] at e;obtain ⟨e1,e2⟩:=Prod.mk.inj e;subst e1 e2
  rcases hk with z | z
  .exact absurd z G9
  .subst z;exact absurd rfl hf
structure CompOk(N:List Str)(kn:List (Str×NameKind))(sc:Scope)(N':List Str)(k:Nat)(ixs:List Nat):Prop where
 kind:sc.kind=.function
 cell:∀ x∈sc.names,x.2≠.cell
 names:∀ x∈sc.names,x.2=.local->sc.names.lookup x.1=some .local
 free:∀ x∈sc.names,x.2=.free->kn.lookup x.1=some .cell\/kn.lookup x.1=some .free
 clean:∀ x∈sc.names,x.2=.free->sc.names.lookup x.1=some .free
 len:N'.length=k+ixs.length
 at_:ixs.map (fun i=>N[i]?)=(N'.drop k).map some
 fr:∀ x∈N'.drop k,(x,NameKind.free)∈sc.names
noncomputable def N5 (X:Cx) (sc:Scope) (N':List Str) (C:Addr) (zw:Shared) (zt:Hp) (fp:List Addr) (pins:List 'l'):Cx:=
 {prog:=X.prog,w:=X.w,K:=X.K,mg:=X.mg,base:=X.base,A:=X.A,N:=N',s₀:=zw,H₀:=zt,
  env:=compEnvC sc (cloOf X.env.cells sc.names []) C X.env,outer:=X.stack,stack:=X.stack,ex:=fp,fn:=fun _=>false,calm:=X.calm,
  pn:=X.pn++pins,xe:=fun _ _=>False }
noncomputable def compStart (k:Nat) (ixs:List Nat) (Y:St):St:=X6 k none++ixs.map fun i=>(Y[i]?).join
theorem afG : (compStart k ixs Y).length=k+ixs.length:=by simp [compStart]
section
variable {X:Cx} {sc:Scope} {N':List Str} {k:Nat} {ixs:List Nat} {pins:List (Addr×Obj)} {Y:St} {H:Hp} {s:Shared} {fp:List Addr}
theorem kK(C:CompOk X.N X.env.scope.names sc N' k ixs)(I:Inv X pins Y H s){x:Str}{c:Addr}(e:(cloOf X.env.cells sc.names []).lookup x=some c):X.env.cells.lookup x=some c/\(x,NameKind.free)∈sc.names:=by
 rw [rB] at e
 by_cases hm:(x,NameKind.free)∈sc.names
 .rw [if_pos hm] at e;obtain ⟨c',bK⟩:=I.ok.has x (C.free _ hm rfl);rw [bK] at e;exact ⟨bK.trans e,hm⟩
 .rw [if_neg hm] at e;cases e
theorem ajS(C:CompOk X.N X.env.scope.names sc N' k ixs)(I:Inv X pins Y H s){x:Str}(hm:(x,NameKind.free)∈sc.names):∃ c,(cloOf X.env.cells sc.names []).lookup x=some c/\X.env.cells.lookup x=some c:=by
 obtain ⟨c',bK⟩:=I.ok.has x (C.free _ hm rfl);refine ⟨c',?_,bK⟩;rw [rB,if_pos hm,bK];rfl
theorem aqY(C:CompOk X.N X.env.scope.names sc N' k ixs)(I:Inv X pins Y H s)(hf:∀ b∈fp,FpOk X pins H b)(ho:∀ b∈fp,∃ o,s.heap.get? b=some o):(N5 X sc N' s.heap.objs.size s H fp pins).Ok where
 mod:=I.ok.mod
 kind:=C.kind
 glob:=I.ok.glob
 blt:=I.ok.blt
 above:=C3 _
 inj:=fun x y c e1 e2=>I.ok.inj x y c (kK C I e1).1 (kK C I e2).1
 has:=fun x hx=>by
  have hm:(x,NameKind.free)∈sc.names:=by
   rcases hx with z | z
   .exact ad8 C.cell z 'f'
   .exact ad8 C.cell z (.inr rfl)
  obtain ⟨c,h1,_⟩:=ajS C I hm;exact ⟨c,h1⟩
 cab:=fun x c h _=>by cases h
 hd:=I.ok.hd
 frames:=I.ok.frames
 stk:=.inl rfl
 exf:=fun b hb=>by
  obtain ⟨o,e⟩:=ho b hb;exact ⟨M5 (Heap.lt_size e),fun x c e1=>(hf b hb).2.2.2.2.1 x c (kK C I e1).1⟩
 bs:=I.bs
 bsz:=N8 I.ok.bsz I.sz
 noex:=fun b o e hb=>by
  rcases (hf b hb).2.2.2.1 with z | z
  .exact I.ok.noex b o e z
  .exact absurd (W1 (Heap.lt_size e) (N8 I.ok.bsz z)) (c9 _)
 exfs:=fun b hb hm=>by
  rcases L4.mp (I.stkSub b hm) with z | z
  .exact (hf b hb).2.1 z
  .exact (hf b hb).2.2.1 z
 funs:=I.stack
 frf:=I.stkFree
theorem an4(C:CompOk X.N X.env.scope.names sc N' k ixs)(I:Inv X pins Y H s)(hf:∀ b∈fp,FpOk X pins H b)(ho:∀ b∈fp,∃ o,s.heap.get? b=some o){m:Str->Option Value}(hn:h'.Ns s.heap.objs.size m)(hk:∀ b o,s.heap.get? b=some o->h'.get? b=some o):Inv (N5 X sc N' s.heap.objs.size s H fp pins) [] (compStart k ixs Y) H { s with heap:=h',toks:=t' } where
 ok:=aqY C I hf ho
 os:=rfl
 bare:=I.bare
 base:=Un.kept hk
 loc:=by
  refine ⟨m,hn,fun i x v e1 e2 e3=>?_⟩;unfold compStart at e2
  by_cases hi:i<k
  .rw [eD (by simpa using hi)] at e2;rw [List.getElem?_replicate_of_lt hi] at e2;cases e2
  .rw [gG (by simpa using hi),List.length_replicate] at e2;rw [U4] at e2;cases e4:ixs[i-k]? with
   | none=>rw [e4] at e2;cases e2
   | some j=>
    rw [e4] at e2;have e5:(Y[j]?).join=some v:=Option.some.inj e2;have e6:Y[j]?=some (some v):=by
     cases e7:Y[j]? with
     | none=>rw [e7] at e5;cases e5
     | some o=>rw [e7] at e5;exact congrArg some e5
    have e1':N'[i]?=some x:=e1;have ed:(N'.drop k)[i-k]?=some x:=by rw [List.getElem?_drop,show k+(i-k)=i by lia];exact e1'
    have n3:(x,NameKind.free)∈sc.names:=C.fr x (G6 ed);have n2:X.N[j]?=some x:=by
     have q:=congrArg (fun l=>l[i-k]?) C.at_;simp only [U4,e4,ed,Option.map_some] at q;exact Option.some.inj q
    obtain ⟨m0,mE,iU⟩:=I.loc;have pK:X.env.scope.names.lookup x=some .cell\/X.env.scope.names.lookup x=some .free:=C.free _ n3 rfl;obtain ⟨u,r,l⟩:=iU j x v n2 e6 (.inr pK);refine ⟨u,r,.inr ?_⟩
    rcases l with ⟨l,_⟩ | ⟨_,c,hc,N0⟩
    .have l':X.env.scope.names.lookup x=some .local:=l
     rcases pK with z | z
     .rw [l'] at z;cases z
     .rw [l'] at z;cases z
    .obtain ⟨c',h1,h2⟩:=ajS C I n3;rw [hc] at h2;cases h2;refine ⟨?_,c,h1,?_⟩
     .have e3':(relabel sc X.env).names.lookup x=some .local\/(relabel sc X.env).names.lookup x=some .cell\/(relabel sc X.env).names.lookup x=some .free:=e3
      rcases e3' with z | z
      .exfalso
       have mm:=wB z;unfold relabel at mm;obtain ⟨⟨n,k'⟩,hm,e⟩:=C6.mp mm;have m8:k'=.local/\n=x:=by
        dsimp only at e
        split at e
        .obtain ⟨_,q⟩:=Prod.mk.inj e
         cases q
        .exact ⟨(Prod.mk.inj e).2,(Prod.mk.inj e).1⟩
       obtain ⟨z1,z2⟩:=m8;subst z1 z2;have q1:=C.names _ hm rfl;rw [C.clean _ n3 rfl] at q1
       cases q1
      .exact z
     .exact N0.keeps hk
 cell:=fun x c e=>by
  obtain ⟨v,z⟩:=I.cell x c (kK C I e).1;exact ⟨v,z.keeps hk⟩
 free:=I.hok.fresh (C3 _)
 freeC:=fun x c e=>I.freeC x c (kK C I e).1
 pin:=fun p hp=>by
  have hp':p∈X.pn++pins:=by simpa [N5] using hp
  obtain ⟨e,n,ne,nf,d⟩:=I.pin p hp';refine ⟨hk _ _ e,n,M5 (Heap.lt_size e),fun hm=>?_,d⟩
  rcases L4.mp (I.stkSub _ hm) with z | z
  .exact ne z
  .exact nf z
 hok:=I.hok.kept hk
 len:=by rw [afG];exact C.len.symm
end
section
variable {prog:Program} {w:World} {A:Around} {R:Result->Shared->Prop} {s:Shared}
theorem agh{scope:Scope}{pos:Pos}{it acc:Value}{env:Env}(I:Nat->Shared->Prop)(turn:∀ n s,I n s->wpAny 'j' A (pyNext it) (fun r zu=>match r with
   | none=>R (.ok .next) zu
   | some v=>wpAny 'j' A (letOwnedTupleGo target it v) (fun _ zu=>wpAny 'j' A (assign target env v) (fun _ zx=>
     wpAny 'j' A (forIn ifs true fun c r=>if r=true then do let ok <- isTrue c env (eval c env);pure (ForInStep.yield ok) else pure (ForInStep.yield r)) (fun ok zw=>
      if ok=true then wpAny 'j' A (eval elt env) (fun x zo=>
       wpAny 'j' A (call (.builtin "list.append") [acc,x]) (fun _ zn=>∃ m,m<n/\I m zn) (notedBy 'j' A env fun e s'=>R (.error e) s') zo) (notedBy 'j' A env fun e s'=>R (.error e) s') zw
      else ∃ m,m<n/\I m zw) (notedBy 'j' A env fun e s'=>R (.error e) s') zx) (notedBy 'j' A env fun e s'=>R (.error e) s') zu) (notedBy 'j' A env fun e s'=>R (.error e) s') zu) (notedBy 'j' A env fun e s'=>R (.error e) s') s)(n:Nat)(h:I n s) :
  codeAny 'j' A (.compLoop (.ListComp elt [⟨target,iter,ifs,0⟩] scope pos) 0 it acc env) R s:=by
 refine codeAny_loop rfl I (fun n s hI=>?_) n h;show wpAny _ A ((compTurn (.ListComp elt [⟨target,iter,ifs,0⟩] scope pos) 0 it acc env).onRaise (fun x=>do noteFrame x env;theTreesLotGoes x)) _ _ s;refine wpAny_noted ?_;rw [compTurn_list];refine wpAny_bind (wpAny_standAt (wpAny_bind (wpAny_mono (turn n s hI) (fun r zu zr=>?_) fun _ _ h'=>h')))
 cases r with
 | none=>exact wpAny_pure zr
 | some v=>
  refine wpAny_bind (wpAny_mono zr (fun _ zu zr=>?_) fun _ _ h'=>h');refine wpAny_bind (wpAny_mono zr (fun _ zx zq=>wpAny_bind (wpAny_mono zq (fun ok zw zp=>?_) fun _ _ h'=>h')) fun _ _ h'=>h')
  cases ok with
  | false=>exact wpAny_pure ⟨rfl,zp⟩
  | true=>
   exact wpAny_bind (wpAny_bind (wpAny_mono zp (fun x zo zm=>wpAny_bind (wpAny_mono zm (fun _ zn zk=>wpAny_pure (wpAny_pure ⟨rfl,zk⟩)) fun _ _ h'=>h')) fun _ _ h'=>h'))
end
noncomputable def PIfs (X:Cx) (ifs:List Expr) (t:TT):Prop:=
 ∀ (pins:List 'l') (s:Shared) (Y:St) (H:Hp) (Q:Bool->Hp->Prop),Inv X pins Y H s->t Y H Q->
  wpAny 'b' X.A (forIn ifs true fun c r=>if r=true then do let ok <- isTrue c X.env (eval c X.env);pure (ForInStep.yield ok) else pure (ForInStep.yield r)) (TP X pins Y Q) X.xe s
noncomputable def tYes:TT:=fun _ H Q=>Q true H
theorem alJ : PIfs X [] tYes:=fun _ _ _ H _ I h=>wpAny_tests_nil ⟨H,I,h⟩
theorem alK{c:Expr}{t:TT}(hc:PT X c t):PIfs X [c] t:=fun pins s Y H Q I h=>wpAny_tests_one (hc pins s Y H Q I h)
noncomputable def tComp (wi:TI) (k:Nat) (ixs:List Nat) (g:TG) (c:TT) (te:TE):TE:=fun Y H Q=>wi Y H fun J H1=>∀ D,H1 D=none->
 ∃ (n:Nat) (W:Nat->List V->St->Hp->Prop),W 0 [] (compStart k ixs Y) (A0 H1 D (.lst []))/\∀ i ys σ2 H2,W i ys σ2 H2->H2 D=some (.lst ys)->
  (J.stop i H2/\Q (.ref D) H2)\/
  (i<n/\J.go i H2/\∀ x H',J.yld i H2 x H'->g x σ2 H' fun σ3 H3=>c σ3 H3 fun b H4=>
   if b=true then te σ3 H4 fun y H5=>H5 D=some (.lst ys)/\ys.length<sizeLine/\W (i+1) (ys++[y]) σ3 (A0 H5 D (.lst (ys++[y])))
   else H4 D=some (.lst ys)/\W (i+1) ys σ3 H4)
section
variable {X:Cx} {sc:Scope} {N':List Str} {k:Nat} {ixs:List Nat}
theorem afb{pos:Pos}{J:It}(C:CompOk X.N X.env.scope.names sc N' k ixs)(N1:X.calm=true)(hg:∀ C zw zt fp pins,PG 'm' target g)(hc:∀ C zw zt fp pins,PIfs 'm' ifs c)(he:∀ C zw zt fp pins,PE 'm' elt te){tn:Nat->Heap->Prop}(I:Inv X pins Y H s)(T:Turn X.prog X.w X.K target J fp it tn)(st:tn 0 s.heap)(hf:∀ b∈fp,FpOk X pins H b)(h:∀ D,H D=none->∃ (n:Nat) (W:Nat->List V->St->Hp->Prop),W 0 [] (compStart k ixs Y) (A0 H D (.lst []))/\∀ i ys σ2 H2,W i ys σ2 H2->H2 D=some (.lst ys)->
   (J.stop i H2/\Q (.ref D) H2)\/
   (i<n/\J.go i H2/\∀ x H',J.yld i H2 x H'->g x σ2 H' fun σ3 H3=>c σ3 H3 fun b H4=>
    if b=true then te σ3 H4 fun y H5=>H5 D=some (.lst ys)/\ys.length<sizeLine/\W (i+1) (ys++[y]) σ3 (A0 H5 D (.lst (ys++[y])))
    else H4 D=some (.lst ys)/\W (i+1) ys σ3 H4)){RR:Value->Addr->Result->Shared->Prop}(hRR:∀ D Cc (H':Hp) (s':Shared) (o:Obj) m,Inv X pins Y H' s'->Inv X (pins++[(Cc,o)]) Y H' s'->s'.heap.get? Cc=some o->s'.heap.Ns Cc m->H' Cc=none->Cc≠X.env.locals->X.s₀.heap.objs.size<=Cc->
   (∀ x c,X.env.cells.lookup x=some c->c≠Cc)->(∀ p∈X.pn++pins,p.1≠Cc)->Q (.ref D) H'->RR (.ref D) Cc (.ok .next) s') :
  wpAny 'b' X.A (newList []) (fun acc zw=>wpAny 'b' X.A (newFunctionEnv sc X.env.globals (cloOf X.env.cells sc.names []) [] X.env.qual none .none (some X.env)) (fun cenv zo=>
   codeAny 'b' X.A (.compStart (.ListComp elt [⟨target,iter,ifs,0⟩] sc pos) 0 (.ref it) acc { cenv with scope:=relabel sc X.env }) (RR acc cenv.locals) zo) E zw) E s:=by
 have fresh:=I.hok.fresh (C3 s.heap.objs.size);obtain ⟨n,W,w0,turn⟩:=h s.heap.objs.size fresh;have hfD:∀ b∈fp,b≠s.heap.objs.size:=fun b hb z=>by
  obtain ⟨o,e,_⟩:=T.obj _ _ st b hb;rw [z] at e;exact absurd (Heap.lt_size e) (c9 _)
 have hf3:∀ b∈fp,FpOk X pins (A0 H s.heap.objs.size (.lst [])) b:=fun b hb=>⟨by rw [A7 (hfD b hb)];exact (hf b hb).1,(hf b hb).2⟩
 have main:∀ (s3:Shared) (zr:Heap) (t1:Nat),Inv X pins Y (A0 H s.heap.objs.size (.lst [])) s3->(∀ b o,s.heap.get? b=some o->s3.heap.get? b=some o)->zr.Ns s3.heap.objs.size (fun x=>([]:List (Str×Value)).reverse.lookup x)->
   (∀ b o,s3.heap.get? b=some o->zr.get? b=some o)->
   tn 0 zr/\codeAny 'b' X.A (.compLoop (.ListComp elt [⟨target,iter,ifs,0⟩] sc pos) 0 (.ref it) (.ref s.heap.objs.size) (N5 X sc N' s3.heap.objs.size s3 (A0 H s.heap.objs.size (.lst [])) fp pins).env) (RR (.ref s.heap.objs.size) s3.heap.objs.size) { s3 with heap:=zr,toks:=t1 }:=by
  intro s3 zr t1 I3 k3 fQ keep3;have fN:tn 0 s3.heap:=T.keep _ _ _ st fun b hb o e=>k3 b o e
  have ho3:∀ b∈fp,∃ o,s3.heap.get? b=some o:=fun b hb=>let ⟨o,e,_⟩:=T.obj _ _ fN b hb;⟨o,e⟩
  have tU:tn 0 zr:=T.keep _ _ _ fN fun b hb o e=>keep3 b o e
  have B0:Inv (N5 X sc N' s3.heap.objs.size s3 (A0 H s.heap.objs.size (.lst [])) fp pins) [] (compStart k ixs Y) (A0 H s.heap.objs.size (.lst [])) { s3 with heap:=zr,toks:=t1 }:=an4 C I3 hf3 ho3 fQ keep3;refine ⟨tU,?_⟩;have fpX:∀ {H':Hp},(∀ b∈fp,H' b=none)->∀ b∈fp,FpOk (N5 X sc N' s3.heap.objs.size s3 (A0 H s.heap.objs.size (.lst [])) fp pins) [] H' b:=fun {H'} hn b hb=>by
   obtain ⟨o,eo⟩:=ho3 b hb;refine ⟨hn b hb,M5 (Heap.lt_size eo),?_,.inl hb,?_,?_⟩
   .intro hm
    rcases L4.mp (I3.stkSub b hm) with z | z
    .exact (hf b hb).2.1 z
    .exact (hf b hb).2.2.1 z
   .intro x cc ec;exact (hf b hb).2.2.2.2.1 x cc (kK C I3 ec).1
   .intro p hp;exact (hf b hb).2.2.2.2.2 p (by simpa [N5] using hp)
  refine agh (fun m s'=>∃ i ys σ' H',m=n-i/\Inv (N5 X sc N' s3.heap.objs.size s3 (A0 H s.heap.objs.size (.lst [])) fp pins) [] σ' H' s'/\tn i s'.heap/\(∀ b∈fp,H' b=none)/\H' s.heap.objs.size=some (.lst ys)/\W i ys σ' H') ?_ n ⟨0,[],_,_,rfl,B0,tU,fun b hb=>(hf3 b hb).1,A3,w0⟩;rintro m s4 ⟨i,ys,σ4,H4,rfl,I4,st4,fr4,hD4,w4⟩;have again:∀ {i':Nat} {ys':List V} {σ7:St} {H7:Hp} {s6 s7:Shared},i<n->i'=i+1->tn i' s6.heap->Inv (N5 X sc N' s3.heap.objs.size s3 (A0 H s.heap.objs.size (.lst [])) fp pins) ([]++kD fp s6.heap) σ7 H7 s7->H7 s.heap.objs.size=some (.lst ys')->W i' ys' σ7 H7->
    ∃ m,m<n-i/\∃ i ys σ' H',m=n-i/\Inv (N5 X sc N' s3.heap.objs.size s3 (A0 H s.heap.objs.size (.lst [])) fp pins) [] σ' H' s7/\tn i s7.heap/\(∀ b∈fp,H' b=none)/\H' s.heap.objs.size=some (.lst ys)/\W i ys σ' H':=fun {i' ys' σ7 H7 s6 s7} C4 ei mF I7 hD w=>by
   subst ei;refine ⟨n-(i+1),by lia,i+1,ys',σ7,H7,rfl,I7.unpinned,T.keep _ _ _ mF fun b hb o e=>(I7.pin (b,o) (N7 _ (N7 _ (kE hb e)))).1,fun b hb=>?_,hD,w⟩;obtain ⟨o,e,_⟩:=T.obj _ _ mF b hb;exact (I7.pin (b,o) (N7 _ (N7 _ (kE hb e)))).2.1
  rcases turn i ys σ4 H4 w4 hD4 with ⟨stop,q⟩ | ⟨C4,go,step⟩
  .refine B1 (T.done (N5 X sc N' s3.heap.objs.size s3 (A0 H s.heap.objs.size (.lst [])) fp pins) rfl rfl rfl N1 i [] s4 σ4 H4 _ I4 (fpX fr4) st4 stop) fun r s5 mG=>?_
   obtain ⟨hr,I5⟩:=mG;subst hr;have back:Inv X pins Y H4 s5:=I3.call' (ch:=fp) I5.os I5.base I5.hok I5.bare fun b hb=>⟨(hf b hb).2.2.2.1,(hf b hb).2.1,(hf b hb).2.2.2.2.1,(hf b hb).2.2.2.2.2⟩
   obtain ⟨mm,hn5,_⟩:=I5.loc;obtain ⟨o,es,ep,ho,hd,i7⟩:=id hn5;have hC:s3.heap.objs.size≠X.env.locals:=Nat.ne_of_gt I3.lt;refine hRR s.heap.objs.size s3.heap.objs.size H4 s5 o mm back ?_ ho hn5 I5.free hC I3.sz ?_ ?_ q
   .refine back.pins_of fun p hp=>?_
    rcases G3.mp hp with z | z
    .exact back.pin p (N7 _ z)
    .have e:p=(s3.heap.objs.size,o):=by simpa using z
     subst e;exact ⟨ho,I5.free,hC,I3.nofs (C3 _),fun v z=>by rw [hd] at z;cases z⟩
   .intro x c e z;obtain ⟨v,q⟩:=I3.cell x c e
    have:=q.lt
    rw [z] at this;exact c9 _ this
   .intro p hp z
    have:=Heap.lt_size (I3.pin p hp).1
    rw [z] at this;exact c9 _ this
  .refine B1 (T.item (N5 X sc N' s3.heap.objs.size s3 (A0 H s.heap.objs.size (.lst [])) fp pins) rfl rfl rfl N1 i [] s4 σ4 H4 _ I4 (fpX fr4) st4 go) fun r s5 mG=>?_
   obtain ⟨u,hr,h5⟩:=mG;subst hr;refine B1 h5 fun _ s6 h6=>?_
   obtain ⟨x,H6,I6,r6,y6,mF,fr6⟩:=h6;have I6':=I6.pinned (fpX fr6) (T.obj _ _ mF);refine wpAny_mono (hg _ _ _ _ _ _ s6 σ4 H6 x u _ I6' r6 (step x H6 y6)) (fun _ s7 h7=>?_) fun _ _ z=>False.elim z
   obtain ⟨σ7,H7,I7,q7⟩:=h7;refine wpAny_mono (hc _ _ _ _ _ _ s7 σ7 H7 _ I7 q7) (fun ok s8 h8=>?_) fun _ _ z=>False.elim z
   obtain ⟨H8,I8,q8⟩:=h8
   cases ok with
   | false=>
    rw [if_neg L9] at q8 ⊢
    exact again C4 rfl mF I8 q8.1 q8.2
   | true=>
    rw [if_pos rfl] at q8 ⊢
    refine wpAny_mono (he _ _ _ _ _ _ s8 σ7 H8 _ I8 q8) (fun y s9 h9=>?_) fun _ _ z=>False.elim z
    obtain ⟨yv,H9,I9,r9,hD9,hz9,w9⟩:=h9;refine wpAny_mono (agd (X:=(N5 X sc N' s3.heap.objs.size s3 (A0 H s.heap.objs.size (.lst [])) fp pins)) _ s9 σ7 H9 (.ref s.heap.objs.size) [yv] (.ref s.heap.objs.size) [y] (fun _ H'=>H'=A0 H9 s.heap.objs.size (.lst (ys++[yv]))) I9 rfl (.cons r9 .nil) ⟨_,ys,yv,rfl,rfl,hD9,hz9,rfl⟩) (fun _ s10 h10=>?_) fun _ _ z=>False.elim z
    obtain ⟨_,m9,I10,_,e10⟩:=h10;subst e10;exact again C4 rfl mF I10 A3 w9
 have I3:=I.lnew (ys:=[]) (its:=[]) (t':=s.toks) .nil (F7 _);refine wpAny_newObj_type (wpAny_newFunctionEnv C.cell (by intro y hy;simp at hy) (fun zr zf ze=>?_) C.kind);obtain ⟨tU,loop⟩:=main _ zr (s.toks+([]:List (Str×Value)).length) I3 (fun b o e=>Heap.get?_push_of_some _ e) zf fun b o e=>ze.extBut b o (M5 (Heap.lt_size e)) (Heap.get?_push_of_some _ e)
 exact codeAny_compStart_list loop (T.self X.A 0 _ _ _ tU loop)
theorem an5{pos:Pos}{wi:TI}(C:CompOk X.N X.env.scope.names sc N' k ixs)(N1:X.calm=true)(hi:PI X target iter wi)(hg:∀ C zw zt fp pins,PG 'm' target g)(hc:∀ C zw zt fp pins,PIfs 'm' ifs c)(he:∀ C zw zt fp pins,PE 'm' elt te)(hs:∀ x,foldedSetIterable iter X.env x=pure x:=by intro _;rfl):PE X (.ListComp elt [⟨target,iter,ifs,0⟩] sc pos) (tComp wi k ixs g c te):=by
 sleep 1;rw [eval_ListComp];refine wpAny_comprehension_free (use:=none) rfl hs (adn fun x hx hf=>I.ok.has x.1 (C.free x hx hf)) C.kind C.names (B1 (hi pins s Y H _ I h) fun v s1 h1=>B1 h1 fun itv s2 h2=>?_);obtain ⟨it,fp,tn,J,H2,e,I2,T,pF,f2,q2⟩:=h2;subst e;refine afb (RR:=fun acc C=>compPost 'b' X.A X.xe none (EP X pins Y Q) acc C) C N1 hg hc he I2 T pF f2 q2 ?_;intro D Cc H' s' o m I' _ ho hn hC hL Y6 N0 iV q;exact ⟨m,hn,fun h'' hs''=>⟨.ref D,H',I'.turned (t':=s'.toks) (fun b o hb e=>hs''.extBut b o hb e) hC hL (.inr Y6) N0 iV,rfl,q⟩⟩
theorem aiO{pos py:Pos}{wi:TI}(hN:X.N.Nodup)(hiN:X.N[i]?=some y)(hx:v9 X.env.scope y)(C:CompOk X.N X.env.scope.names sc N' k ixs)(N1:X.calm=true)(hi:PI X target iter wi)(hg:∀ C zw zt fp pins,PG 'm' target g)(hc:∀ C zw zt fp pins,PIfs 'm' ifs c)(he:∀ C zw zt fp pins,PE 'm' elt te)(hsw:swapsWith (.ListComp elt [⟨target,iter,ifs,0⟩] sc pos) (some (.Name y py)) spos.line X.env=pure true:=by rfl)(hf:X.fn y=true\/X.env.scope.names.lookup y=some .local:=by first | exact .inl rfl | exact .inr rfl | assumption)(hs:∀ x,foldedSetIterable iter X.env x=pure x:=by intro _;rfl):PS X (.Assign [.Name y py] (.ListComp elt [⟨target,iter,ifs,0⟩] sc pos) spos) (tAsg (tComp wi k ixs g c te) (gName i)):=by
 intro pins s Y H D I h;rw [exec_Assign_Name_used _ _ _ _ hsw];refine wpAny_bind (wpAny_standAt (wpAny_bind ?_));show wpAny _ X.A (do let _ <- comprehension (.ListComp elt [⟨target,iter,ifs,0⟩] sc pos) sc X.env _ (newList []) false (eval iter X.env) (some (assign (.Name y py) X.env))) _ _ s;refine wpAny_bind (wpAny_mono (wpAny_comprehension_free (use:=some (assign (.Name y py) X.env)) (Q:=fun _ s'=>SP X pins D .next s') rfl hs (adn fun x hx hf=>I.ok.has x.1 (C.free x hx hf)) C.kind C.names
  (B1 (hi pins s Y H _ I h) fun v s1 h1=>B1 h1 fun itv s2 h2=>?_)) (fun _ s' hq=>wpAny_pure (wpAny_pure hq)) fun _ _ e=>e)
 obtain ⟨it,fp,tn,J,H2,e,I2,T,pF,f2,q2⟩:=h2;subst e;refine afb (Q:=fun x H1=>gName i x Y H1 D.nx) (RR:=fun acc C=>compPost 'b' X.A X.xe (some (assign (.Name y py) X.env)) (fun _ s'=>SP X pins D .next s') acc C) C N1 hg hc he I2 T pF f2 q2 ?_;intro Da Cc H' s' o m _ Ip ho hn hC hL Y6 N0 iV q;show wpAny _ X.A (assign (.Name y py) X.env (.ref Da)) _ _ _;refine wpAny_assign_Name (qR (v:=.ref Da) Ip hN hiN hx rfl (fun s'' I''=>?_) hf);have hC2:=(I''.pin (Cc,o) (N7 _ (N7 _ (E7.mpr rfl)))).1;refine ⟨m,hn.at' fun o' e'=>?_,fun h'' hs''=>?_⟩
 .rw [ho] at e';cases e';exact hC2
 .have I3:Inv X pins (Y.set i (some (.ref Da))) H' s'':=I''.unpinned;exact ⟨_,H',I3.turned (t':=s''.toks) (fun b o hb e=>hs''.extBut b o hb e) hC hL (.inr Y6) N0 iV,q⟩
end
end L2
end
namespace L2
open PySem PySem.Spec PyProof.Rows
section
variable {X:Cx} {a b:Expr} {ta tb:TE} {pos:Pos} {rest:List Expr}
noncomputable def tTru (K:PySem.W.Frag) (te:TE):TT:=fun Y H Q=>te Y H fun x H1=>∃ k,TruV K x H1 k/\Q k H1
theorem aqZ(ha:PE X a ta)(he:∀ whole,isTrue a X.env whole=(do let v <- whole;standAt a.pos;holding [v] (truthy v)):=by intro _;rfl):PT X a (tTru X.K ta):=als ha he
noncomputable def tNotT (K:PySem.W.Frag) (te:TE):TE:=fun Y H Q=>te Y H fun x H1=>∃ k,TruV K x H1 k/\Q (.bl (!k)) H1
end
mutual
inductive Dn (K:PySem.W.Frag) (H:Hp):V->PyData->Prop
 | non:Dn K H .non .none
 | bl (b):Dn K H (.bl b) (.bool b)
 | int (i):Dn K H (.int i) (.int i)
 | str (x):k0 x=true->Dn K H (.str x) (.str x)
 | lst {a xs ds} : D1 K H a xs->DnAll K H xs ds->Dn K H (.ref a) (.list ds)
 | tup {a xs ds} : A8 K H a xs->DnAll K H xs ds->Dn K H (.ref a) (.tuple ds)
inductive DnAll (K:PySem.W.Frag) (H:Hp):List V->List PyData->Prop
 | nil:DnAll K H [] []
 | cons {x xs d ds} : Dn K H x d->DnAll K H xs ds->DnAll K H (x::xs) (d::ds)
end
section
variable {X:Cx} {pins:List (Addr×Obj)} {Y:St} {H:Hp} {s:Shared}
mutual
theorem Dn.reads{K:PySem.W.Frag}{x:V}{d:PyData}(I:Inv X pins Y H s)(hK:X.K=K):Dn K H x d->∀ {u:Value},RelV x u->d.canLay0=true/\∃ as,Reads s.heap u d as
 | .non,u,r=>by cases r;exact ⟨rfl,_,.none⟩
 | .bl b,u,r=>by cases r;exact ⟨rfl,_,.bool b⟩
 | .int i,u,r=>by obtain ⟨t,rfl⟩:=r;exact ⟨rfl,_,.int i t⟩
 | .str x hx,u,r=>by obtain ⟨t,rfl⟩:=r;exact ⟨hx,_,.str x t⟩
 | .lst (a:=a) q hs,u,r=>by
  cases r
  subst hK;obtain ⟨its,rv,⟨o,n,e,c,_,dd⟩,_⟩:=I.list q;obtain ⟨h1,as,h2⟩:=DnAll.reads I rfl hs rv;exact ⟨h1,_,.list e c dd (by simpa using h2)⟩
 | .tup (a:=a) q hs,u,r=>by
  cases r
  subst hK;obtain ⟨its,rv,⟨o,e,c,n,dd⟩,_⟩:=I.tuple q;obtain ⟨h1,as,h2⟩:=DnAll.reads I rfl hs rv;exact ⟨h1,_,.tuple e c dd (by simpa using h2)⟩
theorem DnAll.reads{K:PySem.W.Frag}{xs:List V}{ds:List PyData}(I:Inv X pins Y H s)(hK:X.K=K):DnAll K H xs ds->∀ {us:List Value},Vals xs us->PyData.canLayAll0 ds=true/\∃ as,ReadsAll s.heap us ds as
 | .nil,us,r=>by cases r;exact ⟨rfl,_,.nil⟩
 | .cons h t,us,r=>by
  cases r with
  | cons r1 r2=>
   obtain ⟨c1,a1,q1⟩:=Dn.reads I hK h r1;obtain ⟨c2,a2,q2⟩:=DnAll.reads I hK t r2;exact ⟨by simp [PyData.canLayAll0,c1,c2],_,.cons q1 q2⟩
end
end
mutual
theorem Dn.same{K:PySem.W.Frag}{H H':Hp}(hs:Same H H'){x:V}{d:PyData} : Dn K H x d->Dn K H' x d
 | .non=>.non
 | .bl b=>.bl b
 | .int i=>.int i
 | .str x h=>.str x h
 | .lst q h=>.lst (hs.seq q) (DnAll.same hs h)
 | .tup (a:=a) (xs:=xs) q h=>.tup (by
   rcases q with (q | ⟨o,q⟩) | q
   .exact .inl (.inl (hs _ _ q))
   .exact .inl (.inr ⟨o,hs _ _ q⟩)
   .exact .inr q) (DnAll.same hs h)
theorem DnAll.same{K:PySem.W.Frag}{H H':Hp}(hs:Same H H'){xs:List V}{ds:List PyData} : DnAll K H xs ds->DnAll K H' xs ds
 | .nil=>.nil
 | .cons h t=>.cons (Dn.same hs h) (DnAll.same hs t)
end
theorem wC{K:PySem.W.Frag}{H:Hp} : ∀ {zs:List Str},(∀ z∈zs,k0 z=true)->DnAll K H (zs.map V.str) (zs.map PyData.str)
 | [],_=>.nil
 | z::zs,h=>.cons (.str z (h z N2)) (wC fun y hy=>h y (O7 _ hy))
theorem kL{K:PySem.W.Frag}{H:Hp} : ∀ {zs:List Int},DnAll K H (zs.map V.int) (zs.map cD)
 | []=>.nil
 | z::zs=>.cons (.int z) kL
theorem aev:∀ (xs ys:List Str),Z2 (xs.map PyData.str) (ys.map PyData.str)=decide (xs=ys)
 | [],[]=>by simp [Z2]
 | [],_::_=>by simp [Z2]
 | _::_,[]=>by simp [Z2]
 | x::xs,y::ys=>by
  rw [F6,F6,Z2,aev xs ys];rw [show X9 (.str x) (.str y)=(x==y) by simp [X9]]
  by_cases h1:x=y
  .subst h1;simp
  .simp [h1]
theorem rC:∀ (xs ys:List Int),Z2 (xs.map cD) (ys.map cD)=decide (xs=ys)
 | [],[]=>by simp [Z2]
 | [],_::_=>by simp [Z2]
 | _::_,[]=>by simp [Z2]
 | x::xs,y::ys=>by
  rw [F6,F6,Z2,rC xs ys];rw [show X9 (.int x) (.int y)=(x==y) by simp [X9]]
  by_cases h1:x=y
  .subst h1;simp
  .simp [h1]
noncomputable def rAddR (K:PySem.W.Frag) (a b:Addr) (H:Hp) (Q:VK):Prop:=rCat (.ref a) (.ref b) H Q\/rCatT K (.ref a) (.ref b) H Q
theorem rAddR.l{K:PySem.W.Frag}{a b:Addr}{H:Hp}{Q:VK}{xs ys:List V}(h1:H a=some (.lst xs))(h2:H b=some (.lst ys))(h3:xs.length+ys.length<=sizeLine)(h:∀ p,H p=none->Q (.ref p) (A0 H p (.lst (xs++ys)))):rAddR K a b H Q:=.inl ⟨a,b,xs,ys,rfl,rfl,h1,h2,h3,h⟩
theorem rAddR.t{K:PySem.W.Frag}{a b:Addr}{H:Hp}{Q:VK}{xs ys:List V}(h1:A8 K H a xs)(h2:A8 K H b ys)(h0:xs≠[])(h3:xs.length+ys.length<=sizeLine)(he:ys=[]->Q (.ref a) H)(h:ys≠[]->∀ p,H p=none->Q (.ref p) (A0 H p (.tup (xs++ys)))):rAddR K a b H Q:=.inr ⟨a,b,xs,ys,rfl,rfl,h1,h2,h0,h3,he,h⟩
noncomputable def rAddU (K:PySem.W.Frag):V->V->Hp->VK->Prop
 | .int i,.int j,H,Q=>Q (.int (i+j)) H
 | .str i,.str j,H,Q=>i.length+j.length<=sizeLine/\Q (.str (i++j)) H
 | .ref a,.ref b,H,Q=>rAddR K a b H Q
 | _,_,_,_=>False
noncomputable def rMulU:V->V->Hp->VK->Prop
 | .int i,.int j,H,Q=>CMul i j/\Q (.int (i*j)) H
 | .ref a,.int j,H,Q=>rRep (.ref a) (.int j) H Q
 | _,_,_,_=>False
noncomputable def rEqU (K:PySem.W.Frag):V->V->Hp->VK->Prop
 | .int i,.int j,H,Q=>Q (.bl (decide (i=j))) H
 | .str i,.str j,H,Q=>Q (.bl (decide (i=j))) H
 | .bl i,.bl j,H,Q=>Q (.bl (decide (i=j))) H
 | x,y,H,Q=>∃ d e,Dn K H x d/\Dn K H y e/\min d.depth e.depth<=60/\Q (.bl (X9 d e)) H
noncomputable def rNeU (K:PySem.W.Frag):V->V->Hp->VK->Prop
 | .int i,.int j,H,Q=>Q (.bl (!decide (i=j))) H
 | .str i,.str j,H,Q=>Q (.bl (!decide (i=j))) H
 | .bl i,.bl j,H,Q=>Q (.bl (!decide (i=j))) H
 | x,y,H,Q=>∃ d e,Dn K H x d/\Dn K H y e/\min d.depth e.depth<=60/\Q (.bl (!PyData.eqv d e)) H
noncomputable def rLtU:V->V->Hp->VK->Prop
 | .int i,.int j,H,Q=>Q (.bl (decide (i<j))) H
 | .str i,.str j,H,Q=>Q (.bl (decide (i.cps.toList<j.cps.toList))) H
 | _,_,_,_=>False
noncomputable def rLeU:V->V->Hp->VK->Prop
 | .int i,.int j,H,Q=>Q (.bl (decide (i<=j))) H
 | .str i,.str j,H,Q=>Q (.bl (!decide (j.cps.toList<i.cps.toList))) H
 | _,_,_,_=>False
noncomputable def rGtU:V->V->Hp->VK->Prop
 | .int i,.int j,H,Q=>Q (.bl (decide (j<i))) H
 | .str i,.str j,H,Q=>Q (.bl (decide (j.cps.toList<i.cps.toList))) H
 | _,_,_,_=>False
noncomputable def rGeU:V->V->Hp->VK->Prop
 | .int i,.int j,H,Q=>Q (.bl (decide (j<=i))) H
 | .str i,.str j,H,Q=>Q (.bl (!decide (i.cps.toList<j.cps.toList))) H
 | _,_,_,_=>False
noncomputable def rInR (K:PySem.W.Frag) (neg:Bool) (x:V) (p:Addr) (H:Hp) (Q:VK):Prop:=vN K neg x (.ref p) H Q\/∃ o,DGet H p x o/\Q (.bl (neg.xor o.isSome)) H
theorem rInR.l{K:PySem.W.Frag}{neg:Bool}{x:V}{p:Addr}{H:Hp}{Q:VK}{xs:List V}(h1:D1 K H p xs\/A8 K H p xs)(h2:flatV x=true)(h3:xs.all flatV=true)(h:Q (.bl (neg.xor (eU x xs))) H):rInR K neg x p H Q:=.inl ⟨p,xs,rfl,h1,h2,h3,by cases neg <;> simpa using h⟩
theorem rInR.d{K:PySem.W.Frag}{neg:Bool}{x:V}{p:Addr}{H:Hp}{Q:VK}{o:Option V}(h1:DGet H p x o)(h:Q (.bl (neg.xor o.isSome)) H):rInR K neg x p H Q:=.inr ⟨o,h1,h⟩
noncomputable def rInU (K:PySem.W.Frag) (neg:Bool) (x:V):V->Hp->VK->Prop
 | .str j,H,Q=>∃ i,x=.str i/\Q (.bl (neg.xor (!(Builtin.Str.occurrences j i 0 j.length 1).isEmpty))) H
 | .ref p,H,Q=>rInR K neg x p H Q
 | _,_,_=>False
section
variable {X:Cx} {pins:List (Addr×Obj)} {Y:St} {H:Hp} {s:Shared}
theorem p_add:J9 X (binaryOp .Add) (rAddU X.K):=by
 sleep 0
 cases x <;> cases y <;> try exact h.elim
 .exact aqA pins s Y H _ _ v u Q I rx ry ⟨_,_,rfl,rfl,h⟩
 .exact aiF pins s Y H _ _ v u Q I rx ry ⟨_,_,rfl,rfl,h⟩
 .rcases h with h | h
  .exact aqU pins s Y H _ _ v u Q I rx ry h
  .exact anX pins s Y H _ _ v u Q I rx ry h
theorem p_sub:J9 X (binaryOp .Sub) (aP fun i j=>.int (i-j)):=aqB
theorem p_mul:J9 X (binaryOp .Mult) rMulU:=by
 sleep 0
 cases x <;> cases y <;> try exact h.elim
 .exact aqC pins s Y H _ _ v u Q I rx ry ⟨_,_,rfl,rfl,h⟩
 .exact aqV pins s Y H _ _ v u Q I rx ry h
theorem aq0:J9 X (binaryOp .FloorDiv) (rI CDiv fun i j=>.int (i / j)):=anJ
theorem p_mod:J9 X (binaryOp .Mod) (rI (fun _ j=>0<j) fun i j=>.int (i % j)):=aqD
theorem rD(hu:X.A.units+64<cLine){x y:V}{v u:Value}{Q:VK}(I:Inv X pins Y H s)(rx:RelV x v)(ry:RelV y u)(h:∃ d e,Dn X.K H x d/\Dn X.K H y e/\min d.depth e.depth<=60/\Q (.bl (X9 d e)) H):wpAny 'b' X.A (compareOp .Eq v u) (EP X pins Y Q) X.xe s:=by
 obtain ⟨d,e,h1,h2,hd,q⟩:=h;obtain ⟨c1,as,r1⟩:=h1.reads I rfl rx;obtain ⟨c2,bs,r2⟩:=h2.reads I rfl ry;exact SeqAt.compareEq_reads r1 r2 c1 c2 'a' ⟨.bl _,H,I,rfl,q⟩
theorem rE(hu:X.A.units+64<cLine){x y:V}{v u:Value}{Q:VK}(I:Inv X pins Y H s)(rx:RelV x v)(ry:RelV y u)(h:∃ d e,Dn X.K H x d/\Dn X.K H y e/\min d.depth e.depth<=60/\Q (.bl (!PyData.eqv d e)) H):wpAny 'b' X.A (compareOp .NotEq v u) (EP X pins Y Q) X.xe s:=by
 obtain ⟨d,e,h1,h2,hd,q⟩:=h;obtain ⟨c1,as,r1⟩:=h1.reads I rfl rx;obtain ⟨c2,bs,r2⟩:=h2.reads I rfl ry;exact SeqAt.compareNe_reads r1 r2 c1 c2 'a' ⟨.bl _,H,I,rfl,q⟩
theorem p_eq(hu:X.A.units+64<cLine):J9 X (compareOp .Eq) (rEqU X.K):=by
 sleep 0;have sc:∀ {x y:V},rEq x y H Q->RelV x v->RelV y u->wpAny 'b' X.A (compareOp .Eq v u) (EP X pins Y Q) X.xe s:=fun {x y} h rx ry=>op_eq pins s Y H x y v u Q I rx ry h
 cases x with
 | int i=>cases y with
  | int j=>exact sc (x:=.int i) (y:=.int j) ⟨rfl,by simpa using (show Q (.bl (decide (i=j))) H from h)⟩ rx ry
  | _=>exact rD hu I rx ry h
 | str i=>cases y with
  | str j=>exact sc (x:=.str i) (y:=.str j) ⟨rfl,by simpa using (show Q (.bl (decide (i=j))) H from h)⟩ rx ry
  | _=>exact rD hu I rx ry h
 | bl i=>cases y with
  | bl j=>exact sc (x:=.bl i) (y:=.bl j) ⟨rfl,by simpa using (show Q (.bl (decide (i=j))) H from h)⟩ rx ry
  | _=>exact rD hu I rx ry h
 | _=>cases y <;> exact rD hu I rx ry h
theorem p_ne(hu:X.A.units+64<cLine):J9 X (compareOp .NotEq) (rNeU X.K):=by
 sleep 0;have sc:∀ {x y:V},rNe x y H Q->RelV x v->RelV y u->wpAny 'b' X.A (compareOp .NotEq v u) (EP X pins Y Q) X.xe s:=fun {x y} h rx ry=>op_ne pins s Y H x y v u Q I rx ry h
 cases x with
 | int i=>cases y with
  | int j=>exact sc (x:=.int i) (y:=.int j) ⟨rfl,by simpa using (show Q (.bl (!decide (i=j))) H from h)⟩ rx ry
  | _=>exact rE hu I rx ry h
 | str i=>cases y with
  | str j=>exact sc (x:=.str i) (y:=.str j) ⟨rfl,by simpa using (show Q (.bl (!decide (i=j))) H from h)⟩ rx ry
  | _=>exact rE hu I rx ry h
 | bl i=>cases y with
  | bl j=>exact sc (x:=.bl i) (y:=.bl j) ⟨rfl,by simpa using (show Q (.bl (!decide (i=j))) H from h)⟩ rx ry
  | _=>exact rE hu I rx ry h
 | _=>cases y <;> exact rE hu I rx ry h
theorem p_lt:J9 X (compareOp .Lt) rLtU:=by
 sleep 0
 cases x <;> cases y <;> try exact h.elim
 .exact op_lt pins s Y H _ _ v u Q I rx ry ⟨_,_,rfl,rfl,h⟩
 .exact af3 pins s Y H _ _ v u Q I rx ry ⟨_,_,rfl,rfl,h⟩
theorem p_le:J9 X (compareOp .LtE) rLeU:=by
 sleep 0
 cases x <;> cases y <;> try exact h.elim
 .exact op_le pins s Y H _ _ v u Q I rx ry ⟨_,_,rfl,rfl,h⟩
 .obtain ⟨t,rfl⟩:=rx;obtain ⟨t',rfl⟩:=ry;exact PySem.P.le_str ⟨.bl _,H,I,by simp [RelV],h⟩
theorem p_gt:J9 X (compareOp .Gt) rGtU:=by
 sleep 0
 cases x <;> cases y <;> try exact h.elim
 .exact op_gt pins s Y H _ _ v u Q I rx ry ⟨_,_,rfl,rfl,h⟩
 .obtain ⟨t,rfl⟩:=rx;obtain ⟨t',rfl⟩:=ry;exact PySem.P.gt_str ⟨.bl _,H,I,rfl,h⟩
theorem p_in(hu:X.A.units+64<cLine):J9 X (compareOp .In) (rInU X.K false):=by
 sleep 0
 cases y with
 | str j=>
  obtain ⟨i,rfl,q⟩:=h;exact ajy pins s Y H _ _ v u Q I rx ry ⟨i,j,rfl,rfl,by simpa using q⟩
 | ref p=>
  rcases h with h | ⟨o,g,q⟩
  .exact ajJ pins s Y H _ _ v u Q I rx ry h
  .obtain rfl:u=Value.ref p:=ry;exact d_in 'a' I g rx fun s3 I3=>⟨.bl o.isSome,H,I3,rfl,by simpa using q⟩
 | _=>exact h.elim
theorem an6(hu:X.A.units+64<cLine):J9 X (compareOp .NotIn) (rInU X.K true):=by
 sleep 0
 cases y with
 | str j=>
  obtain ⟨i,rfl,q⟩:=h;exact aga pins s Y H _ _ v u Q I rx ry ⟨i,j,rfl,rfl,by simpa using q⟩
 | ref p=>
  rcases h with h | ⟨o,g,q⟩
  .exact af9 pins s Y H _ _ v u Q I rx ry h
  .obtain rfl:u=Value.ref p:=ry;exact an0 'a' I g rx fun s3 I3=>⟨.bl (!o.isSome),H,I3,rfl,by simpa using q⟩
 | _=>exact h.elim
noncomputable def cutS (x:Str) (lo hi:Option Int):Str:=⟨((x.cps.toList.drop (HT.sIx x.length 0 lo)).take (HT.sIx x.length x.length hi-HT.sIx x.length 0 lo)).toArray⟩
noncomputable def rSlS:V->Option Int->Option Int->Hp->VK->Prop:=fun x lo hi H Q=>∃ z,x=.str z/\z.length<=sizeLine/\Q (.str (cutS z lo hi)) H
end
end L2
variable {C a b f fa fo it ll md ml p r rl:PySem.Addr}{dvs vs xs ys:List L2.V}{Q:L2.VK}{v v' x:L2.V}{cd ct oc pm u vl vu:PySem.Value}{a0 a1 ck i j k m n t' x1:Nat}{items items2:Array PySem.Value}{ds fr ns:List Int}{its its' its2 us:List PySem.Value}{pins:List (PySem.Addr×PySem.Obj)}{Y:L2.St}{H H' H0 H1 H2 H3 Hb zt:L2.Hp}{s zw:PySem.Shared}{A:PySem.Around}{name q qual y z z':PySem.Str}{h h':PySem.Heap}{L L' M M' N N' acc bad g' ks line loose ls ls' ms ps ts zs:List PySem.Str}{K:PySem.W.Frag}{mg:PySem.Str->Option PySem.Value}{fd:PySem.FuncData}{sp:L2.Sp}{X:L2.Cx}{kvs:List (L2.B5×L2.V)}{prog:PySem.Program}{E:PySem.Value->PySem.Shared->Prop}{S ixs l' pre:List Nat}{e elt iter target tg:PySem.Expr}{elts ifs:List PySem.Expr}{g:L2.TG}{c:L2.TT}{td te ti tk tl to tv tx ty:L2.TE}{fp rs:List PySem.Addr}{apos cpos kpos p1 pos1 spos tpos:PySem.Pos}{b' bh calm fg neg:Bool}{st:PySem.Stmt}{an od:Option PySem.Addr}{tb:L2.TS}{D:L2.Ends}{lo:Int}{o:PySem.Obj}{ta:L2.TA}{ss:Array (Option PySem.Value)}
namespace L2
open PySem PySem.Spec PyProof.Rows
section
variable {X:Cx}
theorem ajT(x:Str)(lo hi:Option Int):Txt.slice x lo hi=cutS x lo hi:=by
 have c1:∀ (o:Option Int) (d:Nat),(match o with | none=>(d:Int) | some i=>if (1:Int) > 0 then max 0 (min (if i<0 then i+(x.length:Int) else i) (x.length:Int)) else max (-1) (min (if i<0 then i+(x.length:Int) else i) ((x.length:Int)-1)))=((HT.sIx x.length d o:Nat):Int):=by
  intro o d
  cases o with
  | none=>rfl
  | some i=>
   rw [<- HT.clip_eq i x.length d];simp only [show ((1:Int) > 0)=True by simp,if_true]
   split <;> lia
 have h2:Builtin.Str.strSliceIndices lo hi 1 x.length=Builtin.Str.strSliceIndices (some ((HT.sIx x.length 0 lo:Nat):Int)) (some ((HT.sIx x.length x.length hi:Nat):Int)) 1 x.length:=by
  have e1:=c1 lo 0;have e2:=c1 hi x.length;have e3:=c1 (some ((HT.sIx x.length 0 lo:Nat):Int)) 0;have e4:=c1 (some ((HT.sIx x.length x.length hi:Nat):Int)) x.length;have l1:=HT.sIx_le x.length 0 (F7 _) lo;have l2:=HT.sIx_le x.length x.length (C3 _) hi;rw [HT.sIx_nat,eM l1] at e3;rw [HT.sIx_nat,eM l2] at e4;unfold Builtin.Str.strSliceIndices
  dsimp only at e3 e4 ⊢
  rw [e3,e4];clear e3 e4 l1 l2;refine congr (congr (congrArg sliceRange ?_) ?_) rfl
  .cases lo with
   | none=>exact e1
   | some i=>exact e1
  .cases hi with
   | none=>exact e2
   | some i=>exact e2
 have l1:=HT.sIx_le x.length 0 (F7 _) lo;have l2:=HT.sIx_le x.length x.length (C3 _) hi;unfold Txt.slice cutS;rw [h2];generalize HT.sIx x.length 0 lo=a at *;generalize HT.sIx x.length x.length hi=b at *;have len:x.length=x.cps.toList.length:=by simp [Str.length]
 by_cases Y6:a<=b
 .rw [StrLaws.sliced_plain x Y6 l2,StrLaws.strSliceIndices_plain Y6 l2]
  split
  .rename_i hc
   have bK:b-a=x.length:=by simpa using hc
   have ha:a=0:=by lia
   subst ha;rw [List.drop_zero,u9 'a']
  .rfl
 .have e:Builtin.Str.strSliceIndices (some (a:Int)) (some (b:Int)) 1 x.length=[]:=by
   have h1:¬ ((a:Int)<0):=by lia
   have h2:¬ ((b:Int)<0):=by lia
   have e1:max (0:Int) (min (a:Int) (x.length:Int))=a:=by lia
   have e2:max (0:Int) (min (b:Int) (x.length:Int))=b:=by lia
   simp only [Builtin.Str.strSliceIndices,sliceRange,h1,h2,if_false,e1,e2,show ((1:Int) > 0)=True from by simp,if_true];rw [if_neg 'a'];rfl
  rw [e,show b-a=0 by lia,eI]
  split
  .rename_i hc
   have bK:0=x.length:=by simpa using hc
   have:x.cps.toList=[]:=List.eq_nil_of_length_eq_zero 'a'
   obtain ⟨⟨l⟩⟩:=x;simp at this;subst this;rfl
  .rfl
theorem aq1:kG X rSlS:=by
 intro pins s Y H x v vl vu lo hi sl Q I rx hs pl pu h;obtain ⟨z,rfl,hz,q⟩:=h;obtain ⟨t,rfl⟩:=rx;refine ⟨"str",_,F.slot_str_getitem.lookup,typeIs_str _ _ _,?_⟩;rw [<- ajT] at q;have part:∀ {u:Value} {o:Option Int},IsPart u o->∃ l:Option (Int×Tok),u=partValue l/\l.map (·.1)=o:=fun {u o} p=>by
  cases p with
  | none=>exact ⟨none,rfl,rfl⟩
  | int i t=>exact ⟨some (i,t),rfl,rfl⟩
 obtain ⟨l,rfl,el⟩:=part pl;obtain ⟨u,rfl,eu⟩:=part pu;subst el eu;refine wpAny_getItem_str_slice (l:=l) (u:=u) (st:=none) hs rfl ?_;exact post_val_or_str ⟨N8 (Txt.slice_le z _ _) hz,fun t' k=>⟨.str _,H,I.tok _,⟨t',rfl⟩,q⟩⟩
theorem adT{w:World}{t sl:Addr}{lo hi:Option Int}{Q:Value->Shared->Prop}(ht:IsTup s.heap t items)(hs:s.heap.IsSliceOf sl vl vu .none)(pl:IsPart vl lo)(pu:IsPart vu hi)(hw:HT.sIx items.size 0 lo=0/\HT.sIx items.size items.size hi=items.size)(h:Q (.ref t) s):wpAny 'j' A (getItem (.ref t) (.ref sl)) Q E s:=by
 obtain ⟨os,iR,tT,fP⟩:=id hs;have hTs:s.TypeIs (.ref sl) "slice":=⟨os,iR,tT⟩
 unfold getItem
 try with_reducible refine wpAny_holding ?_
 first | refine wpAny_bind (wpAny_pure ?_) | skip
 refine wpAny_bind (wpAny_sequenceKey ht.typeIs 'h' ?_);refine wpAny_bind (wpAny_callSpecial?_slot (name:=Str.ofString "__getitem__") ht.typeIs PyProof.Rows.slot_tuple_getitem
  (wpAny_call_entry PyProof.Rows.slot_tuple_getitem ht.typeIs PyProof.Rows.entry_tuple_getitem ?_ (PyProof.Rows.args_tuple_getitem _ _)))
 show wpAny _ _ (Builtin.Tuple.tupleItemsOf (.ref t) >>= _) _ _ s;refine wpAny_bind (PyProof.Rows.tupleItemsOf_ ht ?_);refine wpAny_bind (wpAny_typeOf hTs ?_);rw [if_pos 'h'];refine wpAny_bind (HT.sliceApplied_gen hs pl pu ?_);have hyes:((((HT.sIx items.size 0 lo:Nat):Int)==0&&(1:Int)==1&&(HT.sIx items.size items.size hi-HT.sIx items.size 0 lo)==items.size)=true):=by
  rw [hw.1,hw.2]
  simp
 show wpAny _ _ (if (((HT.sIx items.size 0 lo:Nat):Int)==0&&(1:Int)==1&&(HT.sIx items.size items.size hi-HT.sIx items.size 0 lo)==items.size)=true then _ else _) _ _ s;rw [if_pos hyes];refine wpAny_bind ?_;show wpAny _ _ (typeOf (.ref t) >>= fun v=>pure (v == .type "tuple")) _ _ s;refine wpAny_bind (wpAny_typeOf ht.typeIs (wpAny_pure ?_));rw [if_pos 'h'];refine wpAny_bind (wpAny_rule ?_);exact wpAny_pure ⟨_,rfl,wpAny_pure h⟩
noncomputable def rSlW (K:PySem.W.Frag):V->Option Int->Option Int->Hp->VK->Prop:=fun x lo hi H Q=>∃ a xs,x=.ref a/\A8 K H a xs/\(HT.sIx xs.length 0 lo=0/\HT.sIx xs.length xs.length hi=xs.length)/\Q (.ref a) H
theorem aq2:kG X (rSlW X.K):=by
 intro pins s Y H x v vl vu lo hi sl Q I rx hs pl pu h;obtain ⟨a,xs,rfl,hx,hw,q⟩:=h
 cases rx
 obtain ⟨its,r,ht,hz⟩:=I.tuple hx;have A9:its.toArray.size=xs.length:=by rw [K9];exact r.length.symm
 refine ⟨"tuple",_,PyProof.Rows.slot_tuple_getitem.lookup,ht.typeIs,?_⟩;exact adT ht hs pl pu (by rw [A9];exact hw) ⟨.ref a,H,I,rfl,q⟩
noncomputable def rSlR (K:PySem.W.Frag) (a:Addr) (lo hi:Option Int) (H:Hp) (Q:VK):Prop:=rSlL K (.ref a) lo hi H Q\/rSlT K (.ref a) lo hi H Q\/rSlW K (.ref a) lo hi H Q
theorem rSlR.l{lo hi:Option Int}(h1:D1 K H a xs)(h:∀ p,H p=none->Q (.ref p) (A0 H p (.lst (cutV xs lo hi)))):rSlR K a lo hi H Q:=.inl ⟨a,xs,rfl,h1,h⟩
theorem rSlR.t{lo hi:Option Int}(h1:A8 K H a xs)(h2:¬ (HT.sIx xs.length 0 lo=0/\HT.sIx xs.length xs.length hi=xs.length))(h:∀ p,H p=none->Q (.ref p) (A0 H p (.tup (cutV xs lo hi)))):rSlR K a lo hi H Q:=.inr (.inl ⟨a,xs,rfl,h1,h2,h⟩)
theorem rSlR.w{lo hi:Option Int}(h1:A8 K H a xs)(h2:HT.sIx xs.length 0 lo=0/\HT.sIx xs.length xs.length hi=xs.length)(h:Q (.ref a) H):rSlR K a lo hi H Q:=.inr (.inr ⟨a,xs,rfl,h1,h2,h⟩)
noncomputable def rSlU (K:PySem.W.Frag):V->Option Int->Option Int->Hp->VK->Prop
 | .str z,lo,hi,H,Q=>z.length<=sizeLine/\Q (.str (cutS z lo hi)) H
 | .ref a,lo,hi,H,Q=>rSlR K a lo hi H Q
 | _,_,_,_,_=>False
theorem p_sl:kG X (rSlU X.K):=by
 intro pins s Y H x v vl vu lo hi sl Q I rx hs pl pu h
 cases x with
 | str z=>exact aq1 pins s Y H _ v vl vu lo hi sl Q I rx hs pl pu ⟨z,rfl,h⟩
 | ref a=>
  rcases h with h | h | h
  .exact anY pins s Y H _ v vl vu lo hi sl Q I rx hs pl pu h
  .exact aqP pins s Y H _ v vl vu lo hi sl Q I rx hs pl pu h
  .exact aq2 pins s Y H _ v vl vu lo hi sl Q I rx hs pl pu h
 | _=>exact h.elim
noncomputable def LenR (K:PySem.W.Frag) (H:Hp) (p:Addr) (n:Nat):Prop:=(∃ xs,D1 K H p xs/\n=xs.length)\/(∃ xs,A8 K H p xs/\n=xs.length)\/∃ kvs,Rd H p (.dK kvs)/\n=kvs.length
noncomputable def rLenU (K:PySem.W.Frag):List V->Hp->VK->Prop
 | [.str z],H,Q=>z.length<=sizeLine/\Q (.int z.length) H
 | [.ref p],H,Q=>∃ n:Nat,LenR K H p n/\Q (.int n) H
 | _,_,_=>False
theorem p_len:CallR X (.builtin "len") (rLenU X.K):=by
 intro pins s Y H xs us Q I r h
 match xs,h with
 | [.str z],h=>exact vG pins s Y H _ us Q I r ⟨.str z,z.length,rfl,⟨h.1,rfl⟩,h.2⟩
 | [.ref p],⟨n,l,q⟩=>
  rcases l with ⟨xs,l,rfl⟩ | ⟨xs,l,rfl⟩ | ⟨kvs,l,rfl⟩
  .exact vG pins s Y H _ us Q I r ⟨.ref p,_,rfl,.inl ⟨xs,l,rfl⟩,q⟩
  .exact vG pins s Y H _ us Q I r ⟨.ref p,_,rfl,.inr ⟨xs,l,rfl⟩,q⟩
  .obtain ⟨u,rfl,ru⟩:=vals1 r
   cases ru
   exact d_len I l fun t s' I'=>⟨.int kvs.length,H,I',⟨t,rfl⟩,q⟩
theorem aeT(hc:X.calm=true):CallR X (.type "list") (fun xs H Q=>∃ d kvs,xs=[.ref d]/\Rd H d (.dK kvs)/\∀ l,H l=none->Q (.ref l) (A0 H l (.lst (kvs.map fun kv=>kV kv.1)))):=by
 intro pins s Y H xs us Q I r h;obtain ⟨d,kvs,rfl,e,q⟩:=h;obtain ⟨u,rfl,rx⟩:=vals1 r
 cases rx
 obtain ⟨z,hd,vs,rel,dd⟩:=dk_rd I.hok e;obtain ⟨ep,V8⟩:=dd.dictAt;have hl:=rel.length;refine PySem.W.kdl_call (PySem.W.kdl_dict (knd:=N3 X.prog X.w) (kvs:=vs) (ep:=ep) hd) (I.ok.hd hc) V8 'a' fun h' tk acc c' kp hD U3=>?_
 have hv:Vals (kvs.map fun kv=>kV kv.1) acc.toList:=by
  have hk:=rel.keys;have A9:acc.toList.length=kvs.length:=by rw [eP,U3.1,hl]
  have key:∀ (ks:List B5) (us:List Value),us.length=ks.length->(∀ (j:Nat) (v:Value),us[j]?=some v->∃ k,ks[j]?=some k/\keyIs k v=true)->Vals (ks.map kV) us:=by
   intro ks
   induction ks with
   | nil=>intro us h1 _;cases us with
    | nil=>exact .nil
    | cons _ _=>simp at h1
   | cons k ks ih=>
    intro us h1 h2
    cases us with
    | nil=>simp at h1
    | cons u us=>
     obtain ⟨k',e1,e2⟩:=h2 0 u rfl;simp at e1;subst e1;refine .cons ?_ (ih us (by simpa using h1) fun j v hj=>by simpa using h2 (j+1) v (by simpa using hj))
     rcases v6 e2 with ⟨i,t,rfl,rfl⟩ | ⟨x,t,rfl,rfl⟩
     .exact ⟨t,rfl⟩
     .exact ⟨t,rfl⟩
  rw [show (kvs.map fun kv=>kV kv.1)=(kvs.map (·.1)).map kV by rw [R3];rfl];refine key _ _ (by rw [A9,A6]) fun j v hj=>?_
  obtain ⟨k,x,hx,hk'⟩:=U3.2 j v (by rw [<- Array.getElem?_toList];exact hj);refine ⟨k,?_,hk'⟩;rw [hk,U4,hx];rfl
 refine ⟨.ref s.heap.objs.size,_,I.laid (t':=tk) kp (C3 _) (show ObjOk X.prog X.w _ h' _ (.lst (kvs.map fun kv=>kV kv.1)) from ⟨by rw [A6];exact z,acc.toList,c',hv,by simpa using hD⟩),rfl,q _ (I.hok.fresh (C3 _))⟩
noncomputable def rListR (K:PySem.W.Frag) (calm:Bool) (p:Addr) (H:Hp) (Q:VK):Prop:=(∃ ys,(D1 K H p ys\/A8 K H p ys)/\∀ l,H l=none->Q (.ref l) (A0 H l (.lst ys)))\/(calm=true/\∃ kvs,Rd H p (.dK kvs)/\∀ l,H l=none->Q (.ref l) (A0 H l (.lst (kvs.map fun kv=>kV kv.1))))
theorem rListR.l(h1:D1 K H p ys\/A8 K H p ys)(h:∀ l,H l=none->Q (.ref l) (A0 H l (.lst ys))):rListR K calm p H Q:=.inl ⟨ys,h1,h⟩
theorem rListR.d(h1:Rd H p (.dK kvs))(h:∀ l,H l=none->Q (.ref l) (A0 H l (.lst (kvs.map fun kv=>kV kv.1)))):rListR K true p H Q:=.inr ⟨rfl,kvs,h1,h⟩
noncomputable def wD (K:PySem.W.Frag) (calm:Bool):List V->Hp->VK->Prop
 | [.ref p],H,Q=>rListR K calm p H Q
 | _,_,_=>False
theorem aq3:CallR X (.type "list") (wD X.K X.calm):=by
 intro pins s Y H xs us Q I r h
 match xs,h with
 | [.ref p],h=>
  rcases h with ⟨ys,h1,h2⟩ | ⟨hc,kvs,h1,h2⟩
  .exact agb pins s Y H _ us Q I r ⟨p,ys,rfl,h1,h2⟩
  .exact aeT hc pins s Y H _ us Q I r ⟨p,kvs,rfl,h1,h2⟩
noncomputable def rAllB (calm:Bool):List V->Hp->VK->Prop
 | [.ref p],H,Q=>∃ bs:List Bool,calm=true/\H p=some (.lst (bs.map V.bl))/\Q (.bl (bs.all id)) H
 | _,_,_=>False
noncomputable def eW (H:Hp):V->Option String
 | .non=>some "NoneType"
 | .bl _=>some "bool"
 | .int _=>some "int"
 | .str _=>some "str"
 | .ref a=>match H a with
  | some (.lst _)=>some "list"
  | some (.frz _ (.lst _))=>some "list"
  | some (.tup _)=>some "tuple"
  | some (.dK _)=>some "dict"
  | _=>none
 | _=>none
noncomputable def wE (T n:String):Bool:=T==n || (T == "bool" && n == "int")
noncomputable def isTys:List String:=["str", "int", "bool", "list", "tuple", "dict"]
noncomputable def rIsi:List V->Hp->VK->Prop
 | [x,.ty n],H,Q=>∃ T,eW H x=some T/\isTys.contains n=true/\Q (.bl (wE T n)) H
 | _,_,_=>False
theorem aq4{T:String}(h:eW H x=some T):TyOf K H x (.type T)/\["NoneType", "bool", "int", "str", "list", "tuple", "dict"].contains T=true:=by
 cases x with
 | non=>cases h;exact ⟨.non,by decide⟩
 | bl b=>cases h;exact ⟨.bl b,by decide⟩
 | int i=>cases h;exact ⟨.int i,by decide⟩
 | str z=>cases h;exact ⟨.str z,by decide⟩
 | ref a=>
  unfold eW at h
  dsimp only at h
  cases e:H a with
  | none=>rw [e] at h;cases h
  | some o=>
   rw [e] at h
   cases o with
   | lst xs=>cases h;exact ⟨.lst e,by decide⟩
   | tup xs=>cases h;exact ⟨.tup e,by decide⟩
   | dK kvs=>cases h;exact ⟨.dK e,by decide⟩
   | frz ob u=>
    cases u with
    | lst xs=>cases h;exact ⟨.frz e,by decide⟩
    | _=>cases h
   | _=>cases h
 | _=>cases h
theorem an7(K:PySem.W.Frag):∀ T∈["NoneType", "bool", "int", "str", "list", "tuple", "dict"],∀ n∈isTys,PySem.W.kitOne K (.type T) (.type n)=some (wE T n):=by
 intro T hT n hn;simp only [L4,gK,or_false,isTys] at hT hn
 rcases hT with rfl | rfl | rfl | rfl | rfl | rfl | rfl <;> rcases hn with rfl | rfl | rfl | rfl | rfl | rfl <;> rfl
theorem alL:CallR X (.builtin "isinstance") rIsi:=by
 intro pins s Y H xs us Q I r h
 match xs,h with
 | [x,.ty n],⟨T,h1,h2,q⟩=>
  obtain ⟨u,c,rfl,ru,rc⟩:=vals2 r;obtain rfl:c=Value.type n:=rc;obtain ⟨h3,h4⟩:=aq4 (K:=X.K) h1;exact ajD I ru h3 (an7 X.K T (by simpa using h4) n (by simpa using h2)) fun tk=>⟨.bl _,H,I.tok tk,rfl,q⟩
noncomputable def rOrd:List V->Hp->VK->Prop
 | [.str z],H,Q=>z.length=1/\Q (.int (z.cps.getD 0 0:Nat)) H
 | _,_,_=>False
noncomputable def kM (x:Str):It:=⟨fun i _=>i<x.cps.size,fun i H v H'=>H'=H/\∃ c,x.cps.toList[i]?=some c/\v=.str ⟨#[c]⟩,fun i _=>x.cps.size<=i⟩
theorem alM{P:Program}{w:World}{ty:String}(W9:ty="str_ascii_iterator"\/ty="str_iterator")(it:Addr)(x:Str)(t:Tok):Turn P w K tg (kM x) [it] it (fun i h=>h.IsStrIter it ty x t i) where
 mem:=by simp
 obj:=fun i h st b hb=>by
  have e:b=it:=by simpa using hb
  subst e;obtain ⟨o,e,c,d⟩:=st;exact ⟨o,e,fun v z=>by rw [d] at z;cases z⟩
 keep:=fun i h h' st k=>let ⟨o,e,r⟩:=st;⟨o,k it 'd' o e,r⟩
 item:=by
  intro X hP hw hK hc i pins s Y H E I hf st hg;subst hP hw hK;obtain ⟨f0,f1,f2,f3,f4,f5⟩:=hf it 'd';have iW:i<x.cps.size:=hg;have go:∀ h',h'.IsStrIter it ty x t (i+1)->Heap.SameBut it s.heap h'->∃ u,some (Value.str ⟨#[x.cps[i]]⟩ s.toks)=some u/\
    wpAny 'b' X.A (letOwnedTupleGo tg (.ref it) u) (fun _ s2=>∃ y H',Inv X pins Y H' s2/\RelV y u/\(kM x).yld i H y H'/\s2.heap.IsStrIter it ty x t (i+1)/\∀ b∈[it],H' b=none) E { s with heap:=h',toks:=s.toks+1 }:=by
   intro h' st' sb;have I1:Inv X pins Y H { s with heap:=h',toks:=s.toks+1 }:=I.turned (t':=s.toks+1) (fun b o hb e=>(sb.2 b hb).trans e) f0 f1 f3 f4 f5;obtain ⟨o,e,c,d⟩:=id st';refine ⟨_,rfl,go_of (s:={ s with heap:=h',toks:=s.toks+1 }) e c d (by rcases W9 with rfl | rfl <;> decide) ⟨.str ⟨#[x.cps[i]]⟩,H,I1,⟨_,rfl⟩,⟨rfl,x.cps[i],?_,rfl⟩,st',fun b hb=>(hf b hb).1⟩⟩;simp [iW]
  rcases W9 with rfl | rfl
  .exact wpAny_pyNext_ascii_item st (c:=x.cps[i]) (by simp [iW]) go
  .exact wpAny_pyNext_wide_item st (c:=x.cps[i]) (by simp [iW]) go
 done:=by
  intro X hP hw hK hc i pins s Y H E I hf st hg;subst hP hw hK;obtain ⟨f0,f1,f2,f3,f4,f5⟩:=hf it 'd';have iW:x.cps.size<=i:=hg;have fin:∀ h',Heap.ExtBut it s.heap h'->(none:Option Value)=none/\Inv X pins Y H { s with heap:=h' }:=fun h' eb=>⟨rfl,I.turned (t':=s.toks) (fun b o hb e=>eb b o hb e) f0 f1 f3 f4 f5⟩
  rcases W9 with rfl | rfl
  .exact wpAny_pyNext_ascii_end (I.ok.hd hc) st (by simp [iW]) fin
  .exact wpAny_pyNext_wide_end (I.ok.hd hc) st (by simp [iW]) fin
 self:=fun A i s Q E st h=>by
  rcases W9 with rfl | rfl
  .exact wpAny_pyIter_striter_ascii st h
  .exact wpAny_pyIter_striter_wide st h
noncomputable def iStr (tl:TE):TI:=fun Y H R=>tl Y H fun x H1=>∃ z,x=.str z/\R (kM z) H1
variable {tg:Expr}
theorem aq5{l:Expr}(hl:PE X l tl):PI X tg l (iStr tl):=by
 intro pins s Y H R I h;refine B1 (hl pins s Y H _ I h) fun v s1 ⟨x,H1,I1,r1,q1⟩=>?_
 obtain ⟨z,rfl,q⟩:=q1;obtain ⟨t,rfl⟩:=r1;have fin:∀ (ty:String) (W9:ty="str_ascii_iterator"\/ty="str_iterator"),vB X pins Y tg R (.ref s1.heap.objs.size) { s1 with heap:=s1.heap.push { cls:=.type ty,data:=.fields #[.str z t,.int 0 0] } }:=fun ty W9=>by
  refine ⟨s1.heap.objs.size,[s1.heap.objs.size],_,_,H1,rfl,I1.kept (t':=s1.toks) fun b o e=>Heap.get?_push_of_some _ e,alM W9 s1.heap.objs.size z t,⟨_,Heap.get?_push_size _ rfl,rfl,rfl⟩,fun b hb=>?_,q⟩;have e:b=s1.heap.objs.size:=by simpa using hb
  subst e;exact I1.fpOk (C3 _) (I1.hok.fresh (C3 _))
 cases ha:z.cps.all (· < 128)
 .exact wpAny_pyIter_wide ha (fin _ (.inr rfl))
 .exact wpAny_pyIter_ascii ha (fin _ 'f')
end
noncomputable def L7:Expr->Bool
 | .Starred _ _=>true
 | _=>false
noncomputable def Y2 (es:List Expr):Bool:=es.all fun e=>!L7 e
theorem O0{es:List Expr}{env:Env}(h:L7 e=false):starEach (e::es) env=(false,eval e env)::starEach es env:=by
 cases e <;> first | rfl | cases h
theorem gX{pos:Pos}{env:Env} : ∀ {es:List Expr},Y2 es=true->(backTo pos (starEach es env)).any (·.1)=false
 | [],_=>rfl
 | e::es,h=>by
  have h':(!L7 e&&Y2 es)=true:=h;rw [e8] at h';rw [O0 (by simpa using h'.1)];have ih:=gX (pos:=pos) (env:=env) h'.2;unfold backTo at ih ⊢
  rw [F6,aL,ih];rfl
theorem ahY{pos:Pos}{env:Env} : ∀ {es:List Expr},Y2 es=true->(backTo pos (starEach es env)).all (fun x=>!x.1)=true
 | [],_=>rfl
 | e::es,h=>by
  have h':(!L7 e&&Y2 es)=true:=h;rw [e8] at h';rw [O0 (by simpa using h'.1)];have ih:=ahY (pos:=pos) (env:=env) h'.2;unfold backTo at ih ⊢
  rw [F6,List.all_cons,ih];rfl
section
variable {X:Cx} {e:Expr} {es:List Expr} {te:TE} {t:TA} {x:Str} {p pos:Pos} {id T:String} {r:List V->Hp->VK->Prop}
theorem pa_c(ha:PE X e te)(hr:PA X es t)(h:L7 e=false:=by rfl):PA X (e::es) (tCons te t):=anQ ha hr (O0 h)
theorem pe_cB(hc:CallR X (.builtin id) r)(hg:Gl X x)(hm:X.mg x=none)(hv:bootBuiltins x=some (.builtin id))(ha:PA X (e::es) t)(h1:L7 e=false:=by rfl)(h2:Y2 es=true:=by rfl)(hn:x≠"__name__":=by decide)(U0:(x=='o')=false:=by decide) :
  PE X (.Call (.Name x p) (e::es) [] pos) (gT r t):=alx hc hg hm hv ha hn U0 (O0 h1) (gX h2)
theorem pe_cT(hc:CallR X (.type T) r)(hg:Gl X x)(hm:X.mg x=none)(hv:bootBuiltins x=some (.type T))(ha:PA X (e::es) t)(h1:L7 e=false:=by rfl)(h2:Y2 es=true:=by rfl)(hn:x≠"__name__":=by decide)(U0:(x=='o')=false:=by decide) :
  PE X (.Call (.Name x p) (e::es) [] pos) (gT r t):=ajG hc hg hm hv ha hn U0 (O0 h1) (gX h2)
variable {o:Expr} {to:TE} {name:Str} {apos cpos:Pos} {rm:V->List V->Hp->VK->Prop}
theorem pe_mB(pa:PlainAttrs T)(slot:Slot T name id)(W9:typeOf (.builtin id)=pure (.type "method_descriptor"))(hm:qW X id rm)(ho:PE X o to)(ha:PA X (e::es) t)(h1:L7 e=false:=by rfl)(h2:Y2 es=true:=by rfl)(h3:decide ((e::es).length<30)=true:=by rfl)(G1:attributeBase o name X.env (eval o X.env)=eval o X.env:=by rfl)(G2:(apos.endLine==cpos.line)=true:=by rfl):PE X (.Call (.Attribute o name apos) (e::es) [] cpos) (qX X.K T rm to t):=
 pe_bm pa slot W9 hm ho ha G1 (by
  rw [ahY (show Y2 (e::es)=true by show (!L7 e&&Y2 es)=true;rw [h1,h2];rfl)];have h3':(e::es).length<30:=of_decide_eq_true h3;simp only [List.isEmpty_nil,if_true,Z0,Nat.add_zero,Bool.true_and];rw [decide_eq_true h3'];rfl) G2 (O0 h1) (gX h2)
variable {tg a b:Expr} {ta:TA}
theorem pi_r1(hg:Gl X "range")(hm:X.mg "range"=none)(ha:PA X [a] ta)(h1:L7 a=false:=by rfl):PI X tg (.Call (.Name "range" p) [a] [] pos) (iRng1 ta):=ajr hg hm ha (by rw [O0 h1];rfl)
theorem pi_r2(hg:Gl X "range")(hm:X.mg "range"=none)(ha:PA X [a,b] ta)(h1:L7 a=false:=by rfl)(h2:L7 b=false:=by rfl):PI X tg (.Call (.Name "range" p) [a,b] [] pos) (iRng2 ta):=ajs hg hm ha (by rw [O0 h1,O0 h2];rfl) (by rw [O0 h2];rfl)
end
noncomputable def FO (P:Program) (w:World) (K:PySem.W.Frag) (mg:Str->Option Value) (base:Heap) (k:Nat) (x:Str) (ps:List Str) (dvs:List V) (sp:Sp):Prop:=
 ∃ f fd,FnOk P w K mg base E2 k f fd ps sp/\mg x=some (.ref f)/\W3 K (.ref f)=true/\∃ ds,Binds K fd ps ds/\Vals dvs ds
structure FunD(K:PySem.W.Frag)(x qual:Str)(st:Stmt)(f:Addr)(fd:FuncData):Prop where
 ex:∃ (oc:Value) (od:Option Addr) (dV kV doc pm:Value) (an:Option Addr) (cdv ct:Value) (osl:Array (Option Value)),
  fd=U5 x qual (W4 st) (V1 st) (C1 st) dV kV doc pm an cdv ct/\K.lookup f=some ⟨oc,od,.func fd,osl⟩/\X7 K cdv qual=true
section
variable {P:Program} {w:World} {K:PySem.W.Frag} {mg:Str->Option Value} {base:Heap}
theorem FunD.ok{x:Str}(F:FunD K x qual st f fd)(S:FnScope N ps (C1 st))(len:∀ vs H Q E,sp vs H Q E->vs.length=ps.length)(y8:∀ (cdv:Value) (A:Around) (outer:List Env) (s:Shared) (H:Hp) (vs:List V) (Q:VK) (E:XK),Room k (A.deeper (envOfC qual (C1 st) s.heap.objs.size f cdv))->sp vs H Q E->
   ∃ t,Z3 (cxOf E2 P w K mg base N qual (C1 st) f cdv A outer s H E).nox (V1 st) t/\t { nx:=fun _ H'=>Q .non H',rt:=Q } (start N vs) H):FnOk P w K mg base E2 (k+1) f fd ps sp:=by
 obtain ⟨oc,od,dV,kV,doc,pm,an,cdv,ct,osl,rfl,lk,u8⟩:=F.ex;refine fn_of lk u8 S len fun A outer s H vs Q E hr fO=>?_
 obtain ⟨t,h,q⟩:=y8 cdv A outer s H vs Q E hr fO;exact ⟨t,h.nox,q⟩
theorem w6{x:Str}{osl:Array (Option Value)}{dV kV doc cdv:Value}(l:K.lookup f=some ⟨oc,od,.func (U5 x qual (W4 st) (V1 st) (C1 st) dV kV doc pm an cdv ct),osl⟩)(c:X7 K cdv qual=true):FunD K x qual st f (U5 x qual (W4 st) (V1 st) (C1 st) dV kV doc pm an cdv ct):=⟨oc,od,dV,kV,doc,pm,an,cdv,ct,osl,rfl,l,c⟩
end
section
variable {X:Cx} {k:Nat} {ps:List Str} {sp:Sp} {dvs:List V} {x:Str} {p pos:Pos} {e:Expr} {es:List Expr} {t:TA}
theorem alN(G:FO X.prog X.w X.K X.mg X.base k x ps dvs sp)(hr:Room k X.A)(ha:PA X (e::es) t)(hg:Gl X x:=by rfl)(h1:L7 e=false:=by rfl)(h2:Y2 es=true:=by rfl)(U0:(x=='o')=false:=by decide):PE X (.Call (.Name x p) (e::es) [] pos) (tCall sp dvs E0 t):=by
 obtain ⟨f,fd,F,hm,hk,ds,hb,hd⟩:=G;exact anR F hr hg hm hk hb hd pass0 ha U0 (O0 h1) (gX h2)
theorem alO{i:Int}(h:∃ t,X.mg x=some (.int i t))(hg:Gl X x:=by rfl)(hd:(x=='o')=false:=by decide):PE X (.Name x p) (tC (.int i)):=by
 obtain ⟨t,h⟩:=h;exact ajo hg h ⟨t,rfl⟩ hd
theorem alP(h:X.mg x=some (.ref a))(hg:Gl X x:=by rfl)(hd:(x=='o')=false:=by decide):PE X (.Name x p) (tC (.ref a)):=ajo hg h rfl hd
end
section
variable {Y:St} {H:Hp} {Q:VK} {B:Bool->Hp->Prop} {ta tb tc te:TE} {t u:TS} {tt uu:TT} {D:Ends} {i:Nat} {v:V} {r r':R2} {K:PySem.W.Frag} {taa:TA} {R:List V->Hp->Prop} {g:TG}
theorem amX:tVar i Y H Q=∃ v,(Y[i]?).join=some v/\Q v H:=by
 unfold tVar;refine propext ⟨fun ⟨v,h,q⟩=>⟨v,by rw [h];rfl,q⟩,fun ⟨v,h,q⟩=>⟨v,?_,q⟩⟩;cases e:Y[i]? with
 | none=>rw [e] at h;cases h
 | some o=>rw [e] at h;exact congrArg some h
theorem ap_c:tC v Y H Q=Q v H:=rfl
theorem ap_op:cF r ta tb Y H Q=ta Y H fun x H1=>tb Y H1 fun y H2=>r x y H2 Q:=rfl
theorem ap_un{ru:V->Hp->VK->Prop} : vC ru ta Y H Q=ta Y H fun x H1=>ru x H1 Q:=rfl
theorem ap_rU{f:Int->V} : rU f x H Q=∃ i,x=.int i/\Q (f i) H:=rfl
theorem an8:tTest ta Y H B=ta Y H fun x H'=>∃ k,x=.bl k/\B k H':=rfl
theorem ap_tB:tB ta Y H B=ta Y H fun x H'=>∃ k,x=.bl k/\B k H':=rfl
theorem an9:tTru K ta Y H B=ta Y H fun x H'=>∃ k,TruV K x H' k/\B k H':=rfl
theorem aoa:tNotT K ta Y H Q=ta Y H fun x H'=>∃ k,TruV K x H' k/\Q (.bl (!k)) H':=rfl
theorem alQ:vF r r' ta tb tc Y H Q=ta Y H fun x H1=>tb Y H1 fun y H2=>r x y H2 fun z H3=>∃ k,z=.bl k/\(if k=true then tc Y H3 fun w' H4=>r' y w' H4 Q else Q (.bl false) H3):=rfl
theorem aq6:tAnd tt uu Y H B=tt Y H fun c H1=>if c=true then uu Y H1 B else B false H1:=rfl
theorem ap_or:uW tt uu Y H B=tt Y H fun c H1=>if c=true then B true H1 else uu Y H1 B:=rfl
theorem aq7:tNot tt Y H B=tt Y H fun c H1=>B (!c) H1:=rfl
theorem aob:tAndV ta tb Y H Q=ta Y H fun x H1=>∃ c,x=.bl c/\if c=true then tb Y H1 Q else Q (.bl false) H1:=rfl
theorem aq8:tOrV ta tb Y H Q=ta Y H fun x H1=>∃ c,x=.bl c/\if c=true then Q (.bl true) H1 else tb Y H1 Q:=rfl
theorem aoc:tNotV ta Y H Q=ta Y H fun x H1=>∃ c,x=.bl c/\Q (.bl (!c)) H1:=rfl
theorem ap_if:uX tt ta tb Y H Q=tt Y H fun c H1=>if c=true then ta Y H1 Q else tb Y H1 Q:=rfl
theorem aod:tNext D Y H=D.nx Y H:=rfl
theorem aq9:tSeq t u D Y H=t { D with nx:=u D } Y H:=rfl
theorem alR:aqq D Y H=D.bk Y H:=rfl
theorem aoe:tCont D Y H=D.ct Y H:=rfl
theorem aof:tDrop te D Y H=te Y H fun _ H1=>D.nx Y H1:=rfl
theorem ara:tRet te D Y H=te Y H D.rt:=rfl
theorem aog:tRetN D Y H=D.rt .non H:=rfl
theorem arb:tIfS tt t u D Y H=tt Y H fun b H1=>if b=true then t D Y H1 else u D Y H1:=rfl
theorem alS:uY D Y H=False:=rfl
theorem aoh{Z:St->Hp->Prop} : gName i v Y H Z=Z (Y.set i (some v)) H:=rfl
theorem aoi{Z:St->Hp->Prop} : gNil vs Y H Z=(vs=[]/\Z Y H):=rfl
theorem alT{us:o9}{Z:St->Hp->Prop} : gCons g us vs Y H Z=∃ v r,vs=v::r/\g v Y H fun σ' H'=>us r σ' H' Z:=rfl
theorem aoj{us:o9}{Z:St->Hp->Prop} : gTup K n us v Y H Z=∃ a xs,v=.ref a/\A8 K H a xs/\xs.length=n/\us xs Y H Z:=rfl
theorem aok{ts:TSet}{Z:St->Hp->Prop} : gSub ta tb ts v Y H Z=ta Y H fun o H1=>tb Y H1 fun i H2=>ts o i v H2 fun H3=>Z Y H3:=rfl
theorem arc:tAsg te g D Y H=te Y H fun x H1=>g x Y H1 D.nx:=rfl
theorem ard{ti:gQ} : tAug i te ti D Y H=∃ x,(Y[i]?).join=some x/\te Y H fun y H1=>ti x y H1 fun z H2=>D.nx (Y.set i (some z)) H2:=amX (Q:=fun x H=>te Y H fun y H1=>ti x y H1 fun z H2=>D.nx (Y.set i (some z)) H2)
theorem are{f:Int->Int->Int}{y:V} : vA f x y H Q=∃ i j,x=.int i/\y=.int j/\Q (.int (f i j)) H:=rfl
theorem aol:tCons te taa Y H R=te Y H fun x H1=>taa Y H1 fun xs H2=>R (x::xs) H2:=rfl
theorem arf:tNil Y H R=R [] H:=rfl
theorem aom{E:XK} : tCall sp dvs E taa Y H Q=taa Y H fun vs H1=>sp (vs++dvs) H1 Q E:=rfl
theorem ap_cb{rc:List V->Hp->VK->Prop} : gT rc taa Y H Q=taa Y H fun vs H1=>rc vs H1 Q:=rfl
theorem arh:tTup taa Y H Q=taa Y H fun xs H1=>xs.length<=sizeLine/\∀ p,H1 p=none->Q (.ref p) (A0 H1 p (.tup xs)):=rfl
theorem ari:tLst taa Y H Q=taa Y H fun xs H1=>xs.length<=sizeLine/\∀ p,H1 p=none->Q (.ref p) (A0 H1 p (.lst xs)):=rfl
theorem ap_sl{rs:V->Option Int->Option Int->Hp->VK->Prop}{tl th:TO} : vL rs te tl th Y H Q=te Y H fun x H1=>tl Y H1 fun l H2=>th Y H2 fun u H3=>rs x l u H3 Q:=rfl
theorem ajV{O:Option Int->Hp->Prop} : vK Y H O=O none H:=rfl
theorem aon{O:Option Int->Hp->Prop} : tPart te Y H O=te Y H fun x H1=>∃ i,x=.int i/\O (some i) H1:=rfl
theorem ap_bm{T:String}{rm:V->List V->Hp->VK->Prop} : qX K T rm te taa Y H Q=te Y H fun x H1=>eV K T x H1/\taa Y H1 fun xs H2=>rm x xs H2 Q:=rfl
theorem arj{T:String}{rm:V->List V->Hp->VK->Prop} : tBM0 K T rm te Y H Q=te Y H fun x H1=>eV K T x H1/\rm x [] H1 Q:=rfl
theorem ark:tYes Y H B=B true H:=rfl
theorem aoo:vV Y H Q=∀ p,H p=none->Q (.ref p) (A0 H p (.dK [])):=rfl
theorem aop:tDGet ta tb Y H Q=ta Y H fun x H1=>tb Y H1 fun y H2=>∃ a v,x=.ref a/\DGet H2 a y (some v)/\Q v H2:=rfl
theorem aoq:sDPut ta tb tc D Y H=tc Y H fun v H1=>ta Y H1 fun x H2=>tb Y H2 fun y H3=>∃ a H4,x=.ref a/\DPut H3 a y v H4/\D.nx Y H4:=rfl
theorem aor{rd:V->V->Hp->VK->Prop} : sDAug ta tb tc rd D Y H=ta Y H fun x H1=>tb Y H1 fun y H2=>∃ a v,x=.ref a/\DGet H2 a y (some v)/\tc Y H2 fun y2 H3=>rd v y2 H3 fun z H4=>∃ H5,DPut H4 a y z H5/\D.nx Y H5:=rfl
theorem aos{y:V} : aP (fun i j=>V.int (i-j)) x y H Q=∃ i j,x=.int i/\y=.int j/\Q (.int (i-j)) H:=rfl
theorem alU{y:V} : rI CDiv (fun i j=>V.int (i / j)) x y H Q=∃ i j,x=.int i/\y=.int j/\(0<j/\j<1073741824)/\Q (.int (i / j)) H:=rfl
theorem aot{y:V} : rI (fun _ j=>0<j) (fun i j=>V.int (i % j)) x y H Q=∃ i j,x=.int i/\y=.int j/\0<j/\Q (.int (i % j)) H:=rfl
theorem aou : eV K "str" (.str z) H=True:=by simp [eV]
noncomputable def ForIt (J:It) (g:TG) (tb:TS) (D:Ends) (Y:St) (H1:Hp):Prop:=∃ W:Nat->Nat->St->Hp->Prop,(∃ m,W 0 m Y H1)/\∀ i m Y H,W i m Y H->
 (J.stop i H/\D.nx Y H)\/(J.go i H/\∃ N:St->Hp->Prop,(∀ σ' H',N σ' H'->∃ m',m'<m/\W (i+1) m' σ' H')/\∀ x H',J.yld i H x H'->g x Y H' fun σ2 H2=>tb { D with nx:=N,ct:=N,bk:=D.nx } σ2 H2)
theorem arl{wi:TI}{tbs:TS} : tFor wi g tbs D Y H=wi Y H fun J H1=>ForIt J g tbs D Y H1:=rfl
theorem alV{Z:It->Hp->Prop} : iList K te Y H Z=te Y H fun x H1=>∃ a,x=.ref a/\(∃ xs,D1 K H1 a xs)/\Z (aO K a) H1:=rfl
theorem aov{Z:It->Hp->Prop} : iTup K te Y H Z=te Y H fun x H1=>∃ a,x=.ref a/\(∃ xs,A8 K H1 a xs)/\Z (eS K a) H1:=rfl
theorem aow{Z:It->Hp->Prop} : iStr te Y H Z=te Y H fun x H1=>∃ z,x=.str z/\Z (kM z) H1:=rfl
theorem alW{Z:It->Hp->Prop} : iRng1 taa Y H Z=taa Y H fun vs H1=>∃ j:Int,vs=[.int j]/\-(2 ^ 62)<=j/\j<2 ^ 62/\Z (p9 0 j.toNat) H1:=rfl
theorem alX{Z:It->Hp->Prop} : iRng2 taa Y H Z=taa Y H fun vs H1=>∃ i j:Int,vs=[.int i,.int j]/\(-(2 ^ 62)<=i/\i<2 ^ 62/\-(2 ^ 62)<=j/\j<2 ^ 62)/\Z (p9 i (j-i).toNat) H1:=rfl
noncomputable def eY (J:It) (k:Nat) (ixs:List Nat) (g:TG) (c:TT) (te:TE) (Y:St) (Q:VK) (H1:Hp):Prop:=∀ D,H1 D=none->
 ∃ (n:Nat) (W:Nat->List V->St->Hp->Prop),W 0 [] (compStart k ixs Y) (A0 H1 D (.lst []))/\∀ i ys σ2 H2,W i ys σ2 H2->H2 D=some (.lst ys)->
  (J.stop i H2/\Q (.ref D) H2)\/
  (i<n/\J.go i H2/\∀ x H',J.yld i H2 x H'->g x σ2 H' fun σ3 H3=>c σ3 H3 fun b H4=>
   if b=true then te σ3 H4 fun y H5=>H5 D=some (.lst ys)/\ys.length<sizeLine/\W (i+1) (ys++[y]) σ3 (A0 H5 D (.lst (ys++[y])))
   else H4 D=some (.lst ys)/\W (i+1) ys σ3 H4)
theorem aox{wi:TI} : tComp wi k ixs g tt te Y H Q=wi Y H fun J H1=>eY J k ixs g tt te Y Q H1:=rfl
end
theorem aoy{b k:Bool} : TruV K (.bl b) H k=(k=b):=rfl
theorem alY{i:Int}{k:Bool} : TruV K (.int i) H k=(k=(i != 0)):=rfl
theorem alZ{k:Bool} : TruV K (.str z) H k=(z.length<=sizeLine/\k=((z.length:Int) != 0)):=rfl
theorem al0{k:Bool} : TruV K .non H k=(k=false):=rfl
theorem al1 : start N vs=vs.map some++X6 (N.length-vs.length) none:=rfl
theorem agi : compStart k ixs Y=X6 k none++ixs.map fun i=>(Y[i]?).join:=rfl
theorem aoz{i:Int} : kH K (.str z) (.int i) H Q=∃ c,z.length<=sizeLine/\F8 z.cps.toList i=some c/\Q (.str ⟨#[c]⟩) H:=by
 simp only [kH,rIxL,rIxT,rIxS];refine propext ⟨fun h=>?_,fun ⟨c,h⟩=>.inr (.inr ⟨z,i,c,rfl,rfl,h⟩)⟩
 rcases h with ⟨p,xs,j,v,e,_⟩ | ⟨p,xs,j,v,e,_⟩ | ⟨z',i',c,e1,e2,h⟩
 .cases e
 .cases e
 .cases e1;cases e2;exact ⟨c,h⟩
theorem aoA{i:Int} : kH K (.ref p) (.int i) H Q=∃ xs v,(D1 K H p xs\/A8 K H p xs)/\F8 xs i=some v/\Q v H:=by
 simp only [kH,rIxL,rIxT,rIxS];refine propext ⟨fun h=>?_,fun ⟨xs,v,h,r⟩=>?_⟩
 .rcases h with ⟨p',xs,j,v,e1,e2,h1,h2⟩ | ⟨p',xs,j,v,e1,e2,h1,h2⟩ | ⟨z',i',c,e1,e2,h⟩
  .cases e1;cases e2;exact ⟨xs,v,.inl h1,h2⟩
  .cases e1;cases e2;exact ⟨xs,v,.inr h1,h2⟩
  .cases e1
 .rcases h with h | h
  .exact .inl ⟨p,xs,i,v,rfl,rfl,h,r⟩
  .exact .inr (.inl ⟨p,xs,i,v,rfl,rfl,h,r⟩)
theorem wF{α:Type}{xs:List α}{i:Int}(h0:0<=i)(h1:i<xs.length):∃ v,F8 xs i=some v/\v∈xs:=by
 have C4:i.toNat<xs.length:=by lia
 refine ⟨xs[i.toNat],?_,jY C4⟩;unfold F8 Y0;rw [if_pos h0,if_pos h1];simp [C4]
theorem f7:bootBuiltins "len"=some (.builtin "len"):=by decide +kernel
theorem nM:bootBuiltins "isinstance"=some (.builtin "isinstance"):=by decide +kernel
theorem amY:bootBuiltins "any"=some (.builtin "any"):=by decide +kernel
theorem arm:bootBuiltins "min"=some (.builtin "min"):=by decide +kernel
theorem kN:bootBuiltins "list"=some (.type "list"):=by decide +kernel
theorem gY:bootBuiltins "tuple"=some (.type "tuple"):=by decide +kernel
theorem ajX:bootBuiltins "dict"=some (.type "dict"):=by decide +kernel
theorem wG:bootBuiltins "int"=some (.type "int"):=by decide +kernel
theorem aoB:bootBuiltins "bool"=some (.type "bool"):=by decide +kernel
section
variable {K:PySem.W.Frag} {H:Hp} {Q:VK} {i j:Int} {x y:Str} {u v:V} {b c:Bool} {p q:Addr} {lo hi:Option Int} {cm:Bool}
theorem ad_ii:rAddU K (.int i) (.int j) H Q=Q (.int (i+j)) H:=rfl
theorem ad_ss:rAddU K (.str x) (.str y) H Q=(x.length+y.length<=sizeLine/\Q (.str (x++y)) H):=rfl
theorem ad_rr:rAddU K (.ref p) (.ref q) H Q=rAddR K p q H Q:=rfl
theorem mu_ii:rMulU (.int i) (.int j) H Q=(CMul i j/\Q (.int (i*j)) H):=rfl
theorem mu_ri:rMulU (.ref p) (.int j) H Q=rRep (.ref p) (.int j) H Q:=rfl
theorem eq_ii:rEqU K (.int i) (.int j) H Q=Q (.bl (decide (i=j))) H:=rfl
theorem eq_ss:rEqU K (.str x) (.str y) H Q=Q (.bl (decide (x=y))) H:=rfl
theorem eq_bb:rEqU K (.bl b) (.bl c) H Q=Q (.bl (decide (b=c))) H:=rfl
theorem eq_rx:rEqU K (.ref p) v H Q=∃ d e,Dn K H (.ref p) d/\Dn K H v e/\min d.depth e.depth<=60/\Q (.bl (X9 d e)) H:=by cases v <;> rfl
theorem eq_xr:rEqU K v (.ref p) H Q=∃ d e,Dn K H v d/\Dn K H (.ref p) e/\min d.depth e.depth<=60/\Q (.bl (X9 d e)) H:=by cases v <;> rfl
theorem ne_ii:rNeU K (.int i) (.int j) H Q=Q (.bl (!decide (i=j))) H:=rfl
theorem ne_ss:rNeU K (.str x) (.str y) H Q=Q (.bl (!decide (x=y))) H:=rfl
theorem ne_bb:rNeU K (.bl b) (.bl c) H Q=Q (.bl (!decide (b=c))) H:=rfl
theorem ne_rx:rNeU K (.ref p) v H Q=∃ d e,Dn K H (.ref p) d/\Dn K H v e/\min d.depth e.depth<=60/\Q (.bl (!PyData.eqv d e)) H:=by cases v <;> rfl
theorem ne_xr:rNeU K v (.ref p) H Q=∃ d e,Dn K H v d/\Dn K H (.ref p) e/\min d.depth e.depth<=60/\Q (.bl (!PyData.eqv d e)) H:=by cases v <;> rfl
theorem lt_ii:rLtU (.int i) (.int j) H Q=Q (.bl (decide (i<j))) H:=rfl
theorem lt_ss:rLtU (.str x) (.str y) H Q=Q (.bl (decide (x.cps.toList<y.cps.toList))) H:=rfl
theorem le_ii:rLeU (.int i) (.int j) H Q=Q (.bl (decide (i<=j))) H:=rfl
theorem le_ss:rLeU (.str x) (.str y) H Q=Q (.bl (!decide (y.cps.toList<x.cps.toList))) H:=rfl
theorem gt_ii:rGtU (.int i) (.int j) H Q=Q (.bl (decide (j<i))) H:=rfl
theorem gt_ss:rGtU (.str x) (.str y) H Q=Q (.bl (decide (y.cps.toList<x.cps.toList))) H:=rfl
theorem ge_ii:rGeU (.int i) (.int j) H Q=Q (.bl (decide (j<=i))) H:=rfl
theorem ge_ss:rGeU (.str x) (.str y) H Q=Q (.bl (!decide (x.cps.toList<y.cps.toList))) H:=rfl
theorem in_xs:rInU K b u (.str x) H Q=∃ i,u=.str i/\Q (.bl (b.xor (!(Builtin.Str.occurrences x i 0 x.length 1).isEmpty))) H:=rfl
theorem in_xr:rInU K b u (.ref p) H Q=rInR K b u p H Q:=rfl
theorem sl_s:rSlU K (.str x) lo hi H Q=(x.length<=sizeLine/\Q (.str (cutS x lo hi)) H):=rfl
theorem sl_r:rSlU K (.ref p) lo hi H Q=rSlR K p lo hi H Q:=rfl
theorem len_s:rLenU K [.str x] H Q=(x.length<=sizeLine/\Q (.int x.length) H):=rfl
theorem len_r:rLenU K [.ref p] H Q=∃ n:Nat,LenR K H p n/\Q (.int n) H:=rfl
theorem arn:wD K cm [.ref p] H Q=rListR K cm p H Q:=rfl
theorem all_r:rAllB cm [.ref p] H Q=∃ bs:List Bool,cm=true/\H p=some (.lst (bs.map V.bl))/\Q (.bl (bs.all id)) H:=rfl
theorem isi_t{n:String} : rIsi [u,.ty n] H Q=∃ T,eW H u=some T/\isTys.contains n=true/\Q (.bl (wE T n)) H:=rfl
theorem ord_s:rOrd [.str x] H Q=(x.length=1/\Q (.int (x.cps.getD 0 0:Nat)) H):=rfl
end
theorem forL(Pv:Nat->St->Hp->Prop)(h0:Pv 0 Y H)(hl:∀ i Y H,i<=xs.length->Pv i Y H->D1 K H a xs)(hs:∀ i x Y H,xs[i]?=some x->Pv i Y H->g x Y H fun σ2 H2=>tb { D with nx:=Pv (i+1),ct:=Pv (i+1),bk:=D.nx } σ2 H2)(hd:∀ Y H,Pv xs.length Y H->D.nx Y H):ForIt (aO K a) g tb D Y H:=alq Pv h0 hl hs hd
theorem forT(Pv:Nat->St->Hp->Prop)(h0:Pv 0 Y H)(hl:∀ i Y H,i<=xs.length->Pv i Y H->A8 K H a xs)(hs:∀ i x Y H,xs[i]?=some x->Pv i Y H->g x Y H fun σ2 H2=>tb { D with nx:=Pv (i+1),ct:=Pv (i+1),bk:=D.nx } σ2 H2)(hd:∀ Y H,Pv xs.length Y H->D.nx Y H):ForIt (eS K a) g tb D Y H:=anI Pv h0 hl hs hd
theorem forR(Pv:Nat->St->Hp->Prop)(h0:Pv 0 Y H)(hs:∀ i Y H,i<n->Pv i Y H->g (.int (lo+i)) Y H fun σ2 H2=>tb { D with nx:=Pv (i+1),ct:=Pv (i+1),bk:=D.nx } σ2 H2)(hd:∀ Y H,Pv n Y H->D.nx Y H):ForIt (p9 lo n) g tb D Y H:=aju Pv h0 hs hd
noncomputable def CW (n:Nat) (fr:St) (Pv:Nat->List V->Hp->Prop) (i:Nat) (ys:List V) (σ2:St) (H2:Hp):Prop:=i<=n/\ys.length<=i/\(∃ v,σ2=v::fr)/\Pv i ys H2
theorem CW.put{fr:St}{Pv:Nat->List V->Hp->Prop}{y:V}{o:Option V}(hi:i<n)(hy:ys.length<=i)(p:Pv (i+1) (ys++[y]) H):CW n fr Pv (i+1) (ys++[y]) (o::fr) H:=
 ⟨hi,by rw [D9,Y8];lia,⟨_,rfl⟩,p⟩
theorem wH{fr:St}{Pv:Nat->List V->Hp->Prop}{o:Option V}(hi:i<n)(hy:ys.length<=i)(p:Pv (i+1) ys H):CW n fr Pv (i+1) ys (o::fr) H:=⟨hi,Nat.le_succ_of_le hy,⟨_,rfl⟩,p⟩
theorem compL(fr:St)(n9:compStart 1 ixs Y=none::fr)(Pv:Addr->Nat->List V->Hp->Prop)(h0:∀ D,H1 D=none->Pv D 0 [] (A0 H1 D (.lst [])))(hl:∀ D i ys H,H1 D=none->i<=xs.length->Pv D i ys H->D1 K H a xs)(hs:∀ D i x ys H,H1 D=none->i<xs.length->xs[i]?=some x->Pv D i ys H->H D=some (.lst ys)->ys.length<=i->c (some x::fr) H fun b H4=>
   if b=true then te (some x::fr) H4 fun y H5=>H5 D=some (.lst ys)/\ys.length<sizeLine/\CW xs.length fr (Pv D) (i+1) (ys++[y]) (some x::fr) (A0 H5 D (.lst (ys++[y])))
   else H4 D=some (.lst ys)/\CW xs.length fr (Pv D) (i+1) ys (some x::fr) H4)(hd:∀ D ys H,H1 D=none->Pv D xs.length ys H->H D=some (.lst ys)->ys.length<=xs.length->Q (.ref D) H):eY (aO K a) 1 ixs (gName 0) c te Y Q H1:=by
 intro D hD;refine ⟨xs.length,CW xs.length fr (Pv D),⟨F7 _,F7 _,⟨none,n9⟩,h0 D hD⟩,?_⟩;rintro i ys σ2 H2 ⟨hi,hy,⟨v,rfl⟩,p⟩ hDy;have q:=hl D i ys H2 hD hi p
 by_cases C4:i<xs.length
 .refine .inr ⟨C4,⟨xs,xs[i],q,by simp [C4]⟩,fun x H' y=>?_⟩;obtain ⟨e,y⟩:=y;subst e;exact hs D i x ys _ hD C4 (y xs q) p hDy hy
 .have e:i=xs.length:=by lia
  subst e;exact .inl ⟨⟨xs,q,C3 _⟩,hd D ys H2 hD p hDy hy⟩
theorem compT(fr:St)(n9:compStart 1 ixs Y=none::fr)(Pv:Addr->Nat->List V->Hp->Prop)(h0:∀ D,H1 D=none->Pv D 0 [] (A0 H1 D (.lst [])))(hl:∀ D i ys H,H1 D=none->i<=xs.length->Pv D i ys H->A8 K H a xs)(hs:∀ D i x ys H,H1 D=none->i<xs.length->xs[i]?=some x->Pv D i ys H->H D=some (.lst ys)->ys.length<=i->c (some x::fr) H fun b H4=>
   if b=true then te (some x::fr) H4 fun y H5=>H5 D=some (.lst ys)/\ys.length<sizeLine/\CW xs.length fr (Pv D) (i+1) (ys++[y]) (some x::fr) (A0 H5 D (.lst (ys++[y])))
   else H4 D=some (.lst ys)/\CW xs.length fr (Pv D) (i+1) ys (some x::fr) H4)(hd:∀ D ys H,H1 D=none->Pv D xs.length ys H->H D=some (.lst ys)->ys.length<=xs.length->Q (.ref D) H):eY (eS K a) 1 ixs (gName 0) c te Y Q H1:=by
 intro D hD;refine ⟨xs.length,CW xs.length fr (Pv D),⟨F7 _,F7 _,⟨none,n9⟩,h0 D hD⟩,?_⟩;rintro i ys σ2 H2 ⟨hi,hy,⟨v,rfl⟩,p⟩ hDy;have q:=hl D i ys H2 hD hi p
 by_cases C4:i<xs.length
 .refine .inr ⟨C4,⟨xs,xs[i],q,by simp [C4]⟩,fun x H' y=>?_⟩;obtain ⟨e,y⟩:=y;subst e;exact hs D i x ys _ hD C4 (y xs q) p hDy hy
 .have e:i=xs.length:=by lia
  subst e;exact .inl ⟨⟨xs,q,C3 _⟩,hd D ys H2 hD p hDy hy⟩
theorem compS(fr:St)(n9:compStart 1 ixs Y=none::fr)(Pv:Addr->Nat->List V->Hp->Prop)(h0:∀ D,H1 D=none->Pv D 0 [] (A0 H1 D (.lst [])))(hs:∀ D i x ys H,H1 D=none->i<z.cps.size->z.cps.toList[i]?=some x->Pv D i ys H->H D=some (.lst ys)->ys.length<=i->c (some (.str ⟨#[x]⟩)::fr) H fun b H4=>
   if b=true then te (some (.str ⟨#[x]⟩)::fr) H4 fun y H5=>H5 D=some (.lst ys)/\ys.length<sizeLine/\CW z.cps.size fr (Pv D) (i+1) (ys++[y]) (some (.str ⟨#[x]⟩)::fr) (A0 H5 D (.lst (ys++[y])))
   else H4 D=some (.lst ys)/\CW z.cps.size fr (Pv D) (i+1) ys (some (.str ⟨#[x]⟩)::fr) H4)(hd:∀ D ys H,H1 D=none->Pv D z.cps.size ys H->H D=some (.lst ys)->ys.length<=z.cps.size->Q (.ref D) H):eY (kM z) 1 ixs (gName 0) c te Y Q H1:=by
 intro D hD;refine ⟨z.cps.size,CW z.cps.size fr (Pv D),⟨F7 _,F7 _,⟨none,n9⟩,h0 D hD⟩,?_⟩;rintro i ys σ2 H2 ⟨hi,hy,⟨v,rfl⟩,p⟩ hDy
 by_cases C4:i<z.cps.size
 .refine .inr ⟨C4,C4,fun x H' y=>?_⟩;obtain ⟨e,c,hc,rfl⟩:=y;subst e;exact hs D i c ys _ hD C4 hc p hDy hy
 .have e:i=z.cps.size:=by lia
  subst e;exact .inl ⟨C3 _,hd D ys H2 hD p hDy hy⟩
theorem compR(fr:St)(n9:compStart 1 ixs Y=none::fr)(Pv:Addr->Nat->List V->Hp->Prop)(h0:∀ D,H1 D=none->Pv D 0 [] (A0 H1 D (.lst [])))(hs:∀ D i ys H,H1 D=none->i<n->Pv D i ys H->H D=some (.lst ys)->ys.length<=i->c (some (.int (lo+i))::fr) H fun b H4=>
   if b=true then te (some (.int (lo+i))::fr) H4 fun y H5=>H5 D=some (.lst ys)/\ys.length<sizeLine/\CW n fr (Pv D) (i+1) (ys++[y]) (some (.int (lo+i))::fr) (A0 H5 D (.lst (ys++[y])))
   else H4 D=some (.lst ys)/\CW n fr (Pv D) (i+1) ys (some (.int (lo+i))::fr) H4)(hd:∀ D ys H,H1 D=none->Pv D n ys H->H D=some (.lst ys)->ys.length<=n->Q (.ref D) H):eY (p9 lo n) 1 ixs (gName 0) c te Y Q H1:=by
 intro D hD;refine ⟨n,CW n fr (Pv D),⟨F7 _,F7 _,⟨none,n9⟩,h0 D hD⟩,?_⟩;rintro i ys σ2 H2 ⟨hi,hy,⟨v,rfl⟩,p⟩ hDy
 by_cases C4:i<n
 .refine .inr ⟨C4,C4,fun x H' y=>?_⟩;obtain ⟨e,y⟩:=y;subst e y;exact hs D i ys _ hD C4 p hDy hy
 .have e:i=n:=by lia
  subst e;exact .inl ⟨C3 _,hd D ys H2 hD p hDy hy⟩
theorem C9{q:Addr}{o u:HO}(h:H p=some o)(n:H q=none):A0 H q u p=some o:=by rw [A7 (v7 h n)];exact h
theorem Same.new{q:Addr}{u:HO}(n:H q=none):Same H (A0 H q u):=fun _ _ h=>C9 h n
theorem Same.put{q:Addr}{u:HO}(s:Same H0 H)(n:H0 q=none):Same H0 (A0 H q u):=fun b o h=>by rw [A7 (v7 h n)];exact s b o h
theorem cxK{CX:k5}{P:Program}{w:World}{base:Heap}{sc:Scope}{o:List Env}{E:XK} : (cxOf CX P w K mg base N q sc f cd A o s H E).K=K:=rfl
theorem cxKn : X.nox.K=X.K:=rfl
theorem cxKb{sc:Scope} : 'm'.K=X.K:=rfl
theorem cxC{CX:k5}{P:Program}{w:World}{base:Heap}{sc:Scope}{o:List Env}{E:XK} : (cxOf CX P w K mg base N q sc f cd A o s H E).calm=true:=rfl
theorem cxCn : X.nox.calm=X.calm:=rfl
theorem cxCb{sc:Scope} : 'm'.calm=X.calm:=rfl
theorem iteD{c A B:Prop}[Decidable c](h1:c->A)(h2:¬ c->B):if decide c=true then A else B:=by
 by_cases h:c
 .rw [decide_eq_true h,if_pos rfl];exact h1 h
 .rw [decide_eq_false h,if_neg L9];exact h2 h
theorem iteN{c A B:Prop}[Decidable c](h1:¬ c->A)(h2:c->B):if (!decide c)=true then A else B:=by
 by_cases h:c
 .rw [decide_eq_true h];exact iteF (h2 h)
 .rw [decide_eq_false h];exact iteT (h1 h)
theorem V2(h:H p=some (.lst xs)):eV K "list" (.ref p) H:=.inl ⟨rfl,_,D1.of h⟩
theorem appOk{l:Addr}{y:V}(h:H l=some (.lst xs))(hz:xs.length<sizeLine)(q:Q .non (A0 H l (.lst (xs++[y])))):vO (.ref l) [y] H Q:=⟨l,xs,y,rfl,rfl,h,hz,q⟩
theorem clrOk{l:Addr}(h:H l=some (.lst xs))(q:Q .non (A0 H l (.lst []))):vP (.ref l) [] H Q:=⟨l,xs,rfl,rfl,h,q⟩
theorem L8(h:n<=1000000):n<sizeLine:=Nat.lt_of_le_of_lt h 'h'
theorem Q4(h:n<=1000000):n<=sizeLine:=Nat.le_of_lt (L8 h)
noncomputable def signB (c:Nat):Bool:=decide (33<=c)&&decide (c<=126)&&decide (c≠37)
noncomputable def rF (z:Str):Bool:=decide (1<=z.length)&&decide (z.length<=2)&&z.cps.toList.all signB
theorem ajZ(h:rF z=true):k0 z=true/\1<=z.length/\z.length<=2:=by
 unfold rF at h;simp only [e8,decide_eq_true_eq] at h;refine ⟨?_,h.1.1,h.1.2⟩;unfold k0;rw [Array.all_eq_true_iff_forall_mem];intro c hc
 have:=List.all_eq_true.mp h.2 c (Array.mem_toList_iff.mpr hc)
 unfold signB at this;simp only [e8,decide_eq_true_eq] at this;simp only [decide_eq_true_eq];lia
theorem aj0{c:Nat}(h:signB c=true):rF ⟨#[c]⟩=true:=by
 unfold rF;simp [Str.length,h]
noncomputable def SG:List Nat:=[33,34,35,36]++(U9 89).map (· + 38)
theorem aoC:∀ c∈SG,signB c=true:=by decide +kernel
theorem wI:SG.length=93:=by decide +kernel
structure IsRows(H:Hp)(a:Addr)(rs:List Addr)(zss:List (List Str)):Prop where
 top:H a=some (.lst (rs.map V.ref))
 row:Paired (fun r (zs:List Str)=>H r=some (.lst (zs.map V.str))) rs zss
theorem IsRows.same{zss:List (List Str)}(R:IsRows H a rs zss)(s:Same H H'):IsRows H' a rs zss:=⟨s _ _ R.top,N9 R.row fun _ _ h=>s _ _ h⟩
theorem Paired.at{α β:Type}{F:α->β->Prop} : ∀ {l₁:List α} {l₂:List β} {i:Nat} {a:α},Paired F l₁ l₂->l₁[i]?=some a->∃ b,l₂[i]?=some b/\F a b
 | _,_,_,_,.nil,h=>by simp at h
 | _,_,0,_,.cons h t,e=>by simp at e;subst e;exact ⟨_,rfl,h⟩
 | _,_,i+1,_,.cons h t,e=>by
  obtain ⟨b,h1,h2⟩:=Paired.at (i:=i) t (by simpa using e);exact ⟨b,by simpa using h1,h2⟩
theorem rG:∀ zs:List Int,cC (zs.map cD)=0
 | []=>rfl
 | z::zs=>by rw [F6,cC,rG zs,eO];rfl
theorem wJ(xs ys:List Str):X9 (.list (xs.map .str)) (.list (ys.map .str))=decide (xs=ys):=by rw [X9,aev]
noncomputable def dd (acc:List Str) (z:Str):List Str:=if z∈acc then acc else acc++[z]
noncomputable def K8 (acc zs:List Str):List Str:=zs.foldl dd acc
noncomputable def toldL (zss:List (List Str)):List Str:=zss.foldl K8 []
theorem nN(zs:List Str):∀ acc:List Str,(K8 acc zs).length<=acc.length+zs.length:=by
 induction zs with
 | nil=>intro acc;exact C3 _
 | cons z zs ih=>
  intro acc;have h1:=ih (dd acc z);have h2:(dd acc z).length<=acc.length+1:=by
   unfold dd
   split
   .lia
   .simp
  show (K8 (dd acc z) zs).length<=_;rw [L3];lia
theorem al2(h:zs[j]?=some z):K8 acc (zs.take (j+1))=dd (K8 acc (zs.take j)) z:=by
 rw [v4,h];simp [K8,aJ]
theorem aj2{zss:List (List Str)}(h:zss[i]?=some zs):toldL (zss.take (i+1))=K8 (toldL (zss.take i)) zs:=by
 rw [v4,h];simp [toldL,aJ]
theorem rH(zss:List (List Str)):∀ acc,zss.foldl K8 acc=K8 acc zss.flatten:=by
 induction zss with
 | nil=>intro acc;rfl
 | cons zs zss ih=>
  intro acc;rw [jZ,ih,jX];unfold K8;rw [aJ]
theorem nO(zss:List (List Str)):(toldL zss).length<=zss.flatten.length:=by
 unfold toldL;rw [rH]
 have:=nN zss.flatten []
 simpa using this
theorem dd_mem(h:y∈dd acc z):y∈acc\/y=z:=by
 unfold dd at h
 split at h
 .exact .inl h
 .rcases G3.mp h with h | h
  .exact .inl h
  .exact .inr (by simpa using h)
noncomputable def kvOf (zs:List Str):List (B5×V):=zs.map fun z=>(Sum.inr z,V.bl true)
theorem wK(z:Str):∀ acc:List Str,((kvOf acc).any fun kv=>decide (kv.1=(Sum.inr z:B5)))=decide (z∈acc)
 | []=>by simp [kvOf]
 | y::acc=>by
  have ih:=wK z acc;unfold kvOf at ih ⊢
  rw [F6,aL,ih]
  by_cases e:y=z
  .subst e
   simp
  .have e1:decide ((Sum.inr y:B5)=Sum.inr z)=false:=decide_eq_false fun q=>e (Sum.inr.inj q)
   have e2:decide (z∈y::acc)=decide (z∈acc):=by
    by_cases h:z∈acc
    .rw [decide_eq_true h,decide_eq_true (O7 _ h)]
    .rw [decide_eq_false h,decide_eq_false];intro q
     rcases L4.mp q with q | q
     .exact e q.symm
     .exact h q
   rw [e2];simp only [e1,Bool.false_or]
theorem agj(acc:List Str)(z:Str):putK (kvOf acc) (Sum.inr z:B5) (.bl true)=kvOf (dd acc z):=by
 unfold putK dd;rw [wK]
 by_cases h:z∈acc
 .rw [decide_eq_true h,if_pos rfl,if_pos h];unfold kvOf;rw [R3];refine jU fun y _=>?_
  show (if (Sum.inr y:B5)=Sum.inr z then ((Sum.inr y:B5),V.bl true) else (Sum.inr y,V.bl true))=_
  split <;> rfl
 .rw [decide_eq_false h,if_neg L9,if_neg h];unfold kvOf;rw [D0];rfl
theorem aj3(acc:List Str):((kvOf acc).map fun kv=>kV kv.1)=acc.map V.str:=by
 unfold kvOf;rw [R3];rfl
theorem ah0(z:Str):∀ acc:List Str,eU (.str z) (acc.map V.str)=decide (z∈acc)
 | []=>by simp [eU]
 | y::acc=>by
  have ih:=ah0 z acc;unfold eU at ih ⊢
  rw [F6,aL,ih];show ((y==z) || decide (z∈acc))=_
  by_cases e:y=z
  .subst e
   simp
  .have e1:(y==z)=false:=by simpa using e
   rw [e1,Bool.false_or]
   by_cases h:z∈acc
   .rw [decide_eq_true h,decide_eq_true (O7 _ h)]
   .rw [decide_eq_false h,decide_eq_false];intro q
    rcases L4.mp q with q | q
    .exact e q.symm
    .exact h q
theorem G5{α β:Type}{f:α->β}{l:List α}{y:β}(h:(l.map f)[i]?=some y):∃ x,l[i]?=some x/\y=f x:=by
 rw [U4] at h;cases e:l[i]? with
 | none=>rw [e] at h;cases h
 | some x=>rw [e] at h;exact ⟨x,rfl,(Option.some.inj h).symm⟩
noncomputable def SS:Str:=Str.ofString "!\"#$&'()*+,-./0123456789:;<=>?@ABCDEFGHIJKLMNOPQRSTUVWXYZ[\\]^_`"++Str.ofString "abcdefghijklmnopqrstuvwxyz{|}~"
theorem SS_eq:SS.cps.toList=SG:=by decide +kernel
theorem aro:SS.length<=sizeLine:=by decide +kernel
theorem aoD:(Str.ofString "!\"#$&'()*+,-./0123456789:;<=>?@ABCDEFGHIJKLMNOPQRSTUVWXYZ[\\]^_`").length+(Str.ofString "abcdefghijklmnopqrstuvwxyz{|}~").length<=sizeLine:=by decide +kernel
theorem SS_at{i:Int}(h0:0<=i)(h1:i<93):∃ c,F8 SS.cps.toList i=some c/\signB c=true:=by
 rw [SS_eq];obtain ⟨c,h2,h3⟩:=wF (xs:=SG) h0 (by rw [wI];exact h1);exact ⟨c,h2,aoC c h3⟩
theorem drawn{i:Int}(hx:∀ x∈xs,∃ n,x=V.int n)(h0:0<=i)(h1:i<xs.length):∃ n,F8 xs i=some (V.int n):=by
 obtain ⟨v,h2,h3⟩:=wF h0 h1;obtain ⟨n,rfl⟩:=hx v h3;exact ⟨n,h2⟩
theorem wL{α β:Type}{F:α->β->Prop}{a:α}{b:β} : ∀ {l₁:List α} {l₂:List β},Paired F (l₁++[a]) (l₂++[b])->Paired F l₁ l₂/\F a b
 | [],[],.cons h _=>⟨.nil,h⟩
 | [],y::l₂,h=>by
  have:=Paired.length h
  simp at this
 | x::l₁,[],h=>by
  have:=Paired.length h
  simp at this
 | x::l₁,y::l₂,.cons h t=>by
  obtain ⟨h1,h2⟩:=wL (l₁:=l₁) (l₂:=l₂) t;exact ⟨.cons h h1,h2⟩
theorem rJ{α β:Type}{F G:α->β->Prop} : ∀ {l₁:List α} {l₂:List β},Paired F l₁ l₂->(∀ a∈l₁,∀ b,F a b->G a b)->Paired G l₁ l₂
 | _,_,.nil,_=>.nil
 | _,_,.cons h t,k=>.cons (k _ N2 _ h) (rJ t fun a ha b hb=>k a (O7 _ ha) b hb)
structure RowsAt(H0 H:Hp)(a:Addr)(rs:List Addr)(zss:List (List Str)):Prop where
 rows:IsRows H a rs zss
 nd:(a::rs).Nodup
 new:∀ r∈a::rs,H0 r=none
 same:Same H0 H
theorem RowsAt.live{zss:List (List Str)}(R:RowsAt H0 H a rs zss)(h:r∈a::rs):∃ o,H r=some o:=by
 rcases L4.mp h with h | h
 .subst h;exact ⟨_,R.rows.top⟩
 .obtain ⟨i,hi,rfl⟩:=j5.mp h;obtain ⟨zs,_,h2⟩:=Paired.at R.rows.row (i:=i) (a:=rs[i]) (by simp [hi]);exact ⟨_,h2⟩
theorem agk(x:Str)(lo hi:Option Int):(cutS x lo hi).cps.toList=(x.cps.toList.drop (HT.sIx x.length 0 lo)).take (HT.sIx x.length x.length hi-HT.sIx x.length 0 lo):=by
 unfold cutS
 simp
theorem aoE(h:H p=some (.lst xs)):eW H (.ref p)=some "list":=by unfold eW;simp only [h]
theorem aj4(h:H p=some (.tup xs)):eW H (.ref p)=some "tuple":=by unfold eW;simp only [h]
structure QE(X:Cx)(e:Expr)(t:TE):Prop where
 out:PE X e t
structure QT(X:Cx)(e:Expr)(t:TT):Prop where
 out:PT X e t
structure QW(X:Cx)(e:Expr)(t:TT):Prop where
 out:PW X e t
structure QA(X:Cx)(es:List Expr)(t:TA):Prop where
 out:PA X es t
structure QS(X:Cx)(st:Stmt)(t:TS):Prop where
 out:PS X st t
structure QSs(X:Cx)(st:List Stmt)(t:TS):Prop where
 out:Z3 X st t
structure QG(X:Cx)(tg:Expr)(t:TG):Prop where
 out:PG X tg t
structure QGs(X:Cx)(tg:List Expr)(t:o9):Prop where
 out:nH X tg t
structure QI(X:Cx)(tg iter:Expr)(wi:TI):Prop where
 out:PI X tg iter wi
structure QO(X:Cx)(e:Option Expr)(t:TO):Prop where
 out:PO X e t
structure QIfs(X:Cx)(ifs:List Expr)(t:TT):Prop where
 out:PIfs X ifs t
structure QOp(X:Cx)(f:Value->Value->Sem Value)(r:R2):Prop where
 out:J9 X f r
structure QUn(X:Cx)(f:Value->Sem Value)(r:V->Hp->VK->Prop):Prop where
 out:qT X f r
structure QCall(X:Cx)(f:Value)(r:List V->Hp->VK->Prop):Prop where
 out:CallR X f r
structure QMt(X:Cx)(id:String)(r:V->List V->Hp->VK->Prop):Prop where
 out:qW X id r
structure QIp(X:Cx)(op:Operator)(t:gQ):Prop where
 out:uZ X op t
structure QIn(X:Cx)(op:Operator)(t:V->V->Hp->VK->Prop):Prop where
 out:InOp X op t
section
variable {X:Cx} {a b c e o i value:Expr} {es:List Expr} {ta tb tc te to ti tv:TE} {tA tB':TT} {t u:TS} {tl:TA} {pos p pos' tpos:Pos} {rest:List Expr} {r r':R2} {x:Str}
theorem A1{i j} : QE X (.Constant (.int i) j pos) (tC (.int i)):=⟨amS⟩
theorem qe_bl{b j} : QE X (.Constant (.bool b) j pos) (tC (.bl b)):=⟨pe_bl⟩
theorem eZ{j} : QE X (.Constant .none j pos) (tC .non):=⟨aqj⟩
theorem O3{x j} : QE X (.Constant (.str x) j pos) (tC (.str x)):=⟨aqk⟩
theorem qe_v(hN:X.N[n]?=some x)(hv:nG X.env.scope x)(hd:(x=='o')=false)(u8:(x==("__classdict__" : Str))=false):QE X (.Name x pos) (tVar n):=⟨amR hN hv hd u8⟩
theorem qv(n:Nat)(hN:X.N[n]?=some x:=by rfl)(hv:nG X.env.scope x:=by first | exact Or.inl rfl | exact Or.inr (Or.inl rfl) | exact Or.inr (Or.inr rfl))(hd:(x=='o')=false:=by decide)(u8:(x==("__classdict__" : Str))=false:=by decide):QE X (.Name x pos) (tVar n):=⟨amR hN hv hd u8⟩
theorem gZ{i:Int}(h:∃ t,X.mg x=some (.int i t))(hg:Gl X x:=by rfl)(hd:(x=='o')=false:=by decide):QE X (.Name x p) (tC (.int i)):=⟨alO h hg hd⟩
theorem kO{a:Addr}(h:X.mg x=some (.ref a))(hg:Gl X x:=by rfl)(hd:(x=='o')=false:=by decide):QE X (.Name x p) (tC (.ref a)):=⟨alP h hg hd⟩
theorem qe_ty{n:String}(hm:X.mg x=none)(hv:bootBuiltins x=some (.type n))(hg:Gl X x:=by rfl)(hn:x≠"__name__":=by decide)(hd:(x=='o')=false:=by decide):QE X (.Name x p) (tC (.ty n)):=⟨anA hg hm hv rfl hn hd⟩
theorem qe_op{op:Operator}(ho:QOp X (binaryOp op) r)(ha:QE X a ta)(hb:QE X b tb):QE X (.BinOp a op b pos) (cF r ta tb):=⟨pe_op ho.out ha.out hb.out⟩
theorem qe_un{op:UnaryOp}{r:V->Hp->VK->Prop}(ho:QUn X (unaryOp op) r)(ha:QE X a ta):QE X (.UnaryOp op a pos) (vC r ta):=⟨pe_un ho.out ha.out⟩
theorem amZ{op}(ha:QE X a ta):QE X (.BoolOp op [a] pos) ta:=⟨aqo ha.out⟩
theorem am0(ha:QE X a ta)(hb:QE X (.BoolOp .And (b::rest) pos) tb):QE X (.BoolOp .And (a::b::rest) pos) (tAndV ta tb):=⟨aqp ha.out hb.out⟩
theorem q0{op:CmpOp}(ho:QOp X (compareOp op) r)(ha:QE X a ta)(hb:QE X b tb)(hm:behindInMarks op b=false:=by first | exact amU _ | rfl):QE X (.Compare a [op] [b] pos) (cF r ta tb):=⟨anL ho.out ha.out hb.out hm⟩
theorem al3{op op':CmpOp}(ho:QOp X (compareOp op) r)(m5:QOp X (compareOp op') r')(ha:QE X a ta)(hb:QE X b tb)(hc:QE X c tc)(hm:lastMarks [op,op'] [b,c]=false:=by with_unfolding_all rfl):QE X (.Compare a [op,op'] [b,c] pos) (vF r r' ta tb tc):=⟨alr ho.out m5.out ha.out hb.out hc.out hm⟩
theorem ah1(hc:QT X c tA)(ha:QE X a ta)(hb:QE X b tb):QE X (.IfExp c a b pos) (uX tA ta tb):=⟨alk hc.out ha.out hb.out⟩
theorem A2:QA X [] tNil:=⟨aqL⟩
theorem qa_c(ha:QE X e te)(hr:QA X es tl)(h:L7 e=false:=by rfl):QA X (e::es) (tCons te tl):=⟨pa_c ha.out hr.out h⟩
theorem R4(h:QA X es tl):QE X (.List es pos) (tLst tl):=⟨aqN h.out⟩
theorem F9{x1}(h:QA X es tl):QE X (.Tuple es x1 pos) (tTup tl):=⟨aqM h.out⟩
theorem hG:QE X (.Dict [] [] pos) vV:=⟨alG⟩
theorem Q8:QO X none vK:=⟨anV⟩
theorem M4(h:QE X e te):QO X (some e) (tPart te):=⟨anW h.out⟩
theorem O4{lo hi:Option Expr}{tlo thi:TO}{p2:Pos}(he:QE X e te)(hl:QO X lo tlo)(hu:QO X hi thi)(hK:X.K=K:=by rfl):QE X (.Subscript e (.Slice lo hi none p2) pos) (vL (rSlU K) te tlo thi):=by subst hK;exact ⟨alz p_sl he.out hl.out hu.out⟩
theorem f8(hu:X.A.units+1<cLine)(ho:QE X o to)(hi:QE X i ti)(hs:NoSl i:=by exact fun _ _=>rfl):QE X (.Subscript o i pos) (tDGet to ti):=⟨an1 hu ho.out hi.out hs⟩
theorem qe_ix(ha:QE X a ta)(hb:QE X b tb)(hs:ajI b:=by exact fun _ _=>rfl)(hK:X.K=K:=by rfl):QE X (.Subscript a b pos) (cF (kH K) ta tb):=by subst hK;exact ⟨pe_ix aqR ha.out hb.out hs⟩
theorem qe_cB{id:String}{rc:List V->Hp->VK->Prop}(hc:QCall X (.builtin id) rc)(hm:X.mg x=none)(hv:bootBuiltins x=some (.builtin id))(ha:QA X (e::es) tl)(hg:Gl X x:=by rfl)(h1:L7 e=false:=by rfl)(h2:Y2 es=true:=by rfl)(hn:x≠"__name__":=by decide)(U0:(x=='o')=false:=by decide) :
  QE X (.Call (.Name x p) (e::es) [] pos) (gT rc tl):=⟨pe_cB hc.out hg hm hv ha.out h1 h2 hn U0⟩
theorem qe_cT{T:String}{rc:List V->Hp->VK->Prop}(hc:QCall X (.type T) rc)(hm:X.mg x=none)(hv:bootBuiltins x=some (.type T))(ha:QA X (e::es) tl)(hg:Gl X x:=by rfl)(h1:L7 e=false:=by rfl)(h2:Y2 es=true:=by rfl)(hn:x≠"__name__":=by decide)(U0:(x=='o')=false:=by decide) :
  QE X (.Call (.Name x p) (e::es) [] pos) (gT rc tl):=⟨pe_cT hc.out hg hm hv ha.out h1 h2 hn U0⟩
theorem qe_mB{T id:String}{rm:V->List V->Hp->VK->Prop}(pa:PlainAttrs T)(slot:Slot T name id)(W9:typeOf (.builtin id)=pure (.type "method_descriptor"))(hm:QMt X id rm)(ho:QE X o to)(ha:QA X (e::es) tl)(h1:L7 e=false:=by rfl)(h2:Y2 es=true:=by rfl)(h3:decide ((e::es).length<30)=true:=by rfl)(G1:attributeBase o name X.env (eval o X.env)=eval o X.env:=by rfl)(G2:(apos.endLine==cpos.line)=true:=by rfl)(hK:X.K=K:=by rfl):QE X (.Call (.Attribute o name apos) (e::es) [] cpos) (qX K T rm to tl):=by subst hK;exact ⟨pe_mB pa slot W9 hm.out ho.out ha.out h1 h2 h3 G1 G2⟩
theorem qe_m0{T id:String}{rm:V->List V->Hp->VK->Prop}(pa:PlainAttrs T)(slot:Slot T name id)(W9:typeOf (.builtin id)=pure (.type "method_descriptor"))(hm:QMt X id rm)(ho:QE X o to)(G1:attributeBase o name X.env (eval o X.env)=eval o X.env:=by rfl)(G2:(apos.endLine==cpos.line)=true:=by rfl)(hK:X.K=K:=by rfl):QE X (.Call (.Attribute o name apos) [] [] cpos) (tBM0 K T rm to):=by subst hK;exact ⟨aqT pa slot W9 hm.out ho.out G1 G2⟩
theorem D7(G:FO X.prog X.w X.K X.mg X.base k x ps dvs sp)(hr:Room k X.A)(ha:QA X (e::es) tl)(hg:Gl X x:=by rfl)(h1:L7 e=false:=by rfl)(h2:Y2 es=true:=by rfl)(U0:(x=='o')=false:=by decide) :
  QE X (.Call (.Name x p) (e::es) [] pos) (tCall sp dvs E0 tl):=⟨alN G hr ha.out hg h1 h2 U0⟩
theorem E1{op:CmpOp}(ho:QOp X (compareOp op) r)(ha:QE X a ta)(hb:QE X b tb)(hm:behindInMarks op b=false:=by first | exact amU _ | rfl):QT X (.Compare a [op] [b] pos) (tTest (cF r ta tb)):=⟨anM ho.out ha.out hb.out hm⟩
theorem aR(ha:QT X a tA):QT X (.UnaryOp .Not a pos) (tNot tA):=⟨aqn ha.out⟩
theorem w8(ha:QT X a tA):QW X (.BoolOp .And [a] pos) tA:=⟨anB ha.out⟩
theorem aT(ha:QT X a tA):QW X (.BoolOp .Or [a] pos) tA:=⟨aql ha.out⟩
theorem q9(ha:QT X a tA)(hb:QW X (.BoolOp .And (b::rest) pos) tB'):QW X (.BoolOp .And (a::b::rest) pos) (tAnd tA tB'):=⟨aqm ha.out hb.out⟩
theorem qw_or(ha:QT X a tA)(hb:QW X (.BoolOp .Or (b::rest) pos) tB'):QW X (.BoolOp .Or (a::b::rest) pos) (uW tA tB'):=⟨pw_or ha.out hb.out⟩
theorem QW.pt(h:QW X a tA):QT X a tA:=⟨h.out.pt⟩
theorem P8(ha:QE X a ta)(he:∀ whole,isTrue a X.env whole=(do let v <- whole;standAt a.pos;holding [v] (truthy v)):=by intro _;rfl)(hK:X.K=K:=by rfl):QT X a (tTru K ta):=by subst hK;exact ⟨aqZ ha.out he⟩
variable {st:Stmt} {sts:List Stmt}
theorem E8:QSs X [] tNext:=⟨anC⟩
theorem A4(h:QS X st t):QSs X [st] t:=⟨anD h.out⟩
theorem A5(h:QS X st t)(h2:QSs X sts u):QSs X (st::sts) (tSeq t u):=⟨alm h.out h2.out⟩
theorem C5(he:QE X e te):QS X (.Return (some e) pos) (tRet te):=⟨aqr he.out⟩
theorem kP:QS X st uY:=⟨aln⟩
theorem C8(hN:X.N.Nodup)(hi:X.N[n]?=some x)(hx:v9 X.env.scope x)(he:QE X e te)(hs:swapsWith e (some (.Name x pos')) pos.line X.env=pure false:=by rfl)(hf:X.fn x=true:=by rfl):QS X (.Assign [.Name x pos'] e pos) (tAsg te (gName n)):=⟨aqv hN hi hx he.out hs (.inl hf)⟩
theorem kQ{f:Str}(ho:QE X o to)(hv:QE X value tv)(hs:swapsWith value (some (.Attribute o f pos')) pos.line X.env=pure false:=by rfl)(hK:X.K=K:=by rfl):QS X (.Assign [.Attribute o f pos'] value pos) (sFld K to tv f):=by subst hK;exact ⟨aqI ho.out hv.out hs⟩
theorem aU{f:Str}(ho:QE X o to)(hb:attributeBase o f X.env (eval o X.env)=eval o X.env:=by rfl)(hK:X.K=K:=by rfl):QE X (.Attribute o f pos) (tFld K to f):=by subst hK;exact ⟨aqH ho.out hb⟩
theorem r0(hu:X.A.units+1<cLine)(ho:QE X o to)(hi:QE X i ti)(hv:QE X value tv)(hs:swapsWith value (some (.Subscript o i pos')) pos.line X.env=pure false:=by rfl):QS X (.Assign [.Subscript o i pos'] value pos) (sDPut to ti tv):=⟨an2 hu ho.out hi.out hv.out hs⟩
theorem aj5{op:Operator}{rd:V->V->Hp->VK->Prop}(hu:X.A.units+1<cLine)(ho:QE X o to)(hi:QE X i ti)(hv:QE X value tv)(hop:QIn X op rd)(ha:∀ ov iv new,augStore i ov iv new=(do holding [new,ov,iv] (setItem ov iv new);release [new,ov,iv] [];pure .next):=by exact fun _ _ _=>rfl) :
  QS X (.AugAssign (.Subscript o i tpos) op value pos) (sDAug to ti tv rd):=⟨an3 hu ho.out hi.out hv.out hop.out ha⟩
theorem kR(he:QE X e te)(hg:QG X tg g)(hs:swapsWithSole [tg] e pos.line X.env=pure false:=by rfl)(hw:swappedStores [tg] e X.env=pure none:=by rfl)(h1:(assignEach [tg] X.env).map (·.2)=[assign tg X.env]:=by rfl):QS X (.Assign [tg] e pos) (tAsg te g):=⟨aqu he.out hg.out hs hw h1⟩
theorem wM{op:Operator}{tip:gQ}(hN:X.N.Nodup)(hi:X.N[n]?=some x)(hx:v9 X.env.scope x)(he:QE X e te)(ho:QIp X op tip)(hf:X.fn x=true:=by rfl):QS X (.AugAssign (.Name x pos') op e pos) (tAug n te tip):=⟨aqw hN hi hx he.out ho.out (.inl hf)⟩
theorem T0(he:QE X e te)(hs:swapsWith e none pos.line X.env=pure false:=by rfl):QS X (.Expr e pos) (tDrop te):=⟨anE he.out hs⟩
theorem qs_if{sa sb:List Stmt}(hc:QT X c tA)(ha:QSs X sa t)(hb:QSs X sb u):QS X (.If c sa sb pos) (tIfS tA t u):=⟨ps_if hc.out ha.out hb.out⟩
theorem rK{body:List Stmt}(hp:PassesOwn 'b' X.A X.env X.xe)(hc:QT X c tA)(hb:QSs X body t):QS X (.While c body [] pos) (qS tA t):=⟨alp hp hc.out hb.out⟩
theorem M0{body:List Stmt}{wi:TI}(hp:PassesOwn 'b' X.A X.env X.xe)(hi:QI X tg iter wi)(hg:QG X tg g)(hb:QSs X body t)(hc:X.calm=true:=by rfl)(hs:∀ x,foldedSetIterable iter X.env x=pure x:=by intro _;rfl):QS X (.For tg iter body [] pos) (tFor wi g t):=⟨aqz hp hc hi.out hg.out hb.out hs⟩
theorem D3(hN:X.N.Nodup)(hi:X.N[n]?=some x)(hx:v9 X.env.scope x)(hf:X.fn x=true\/X.env.scope.names.lookup x=some .local:=by first | exact .inl rfl | exact .inr rfl | assumption):QG X (.Name x pos) (gName n):=⟨anF hN hi hx hf⟩
theorem cJ:QGs X [] gNil:=⟨anG⟩
theorem R5{gs:o9}(h1:QG X e g)(h2:QGs X es gs)(hs:(assignEach (e::es) X.env).map (·.2)=assign e X.env::(assignEach es X.env).map (·.2):=by rfl):QGs X (e::es) (gCons g gs):=⟨alo h1.out h2.out hs⟩
theorem cK{gs:o9}(h:QGs X es gs)(hc:X.calm=true:=by rfl)(hn:(assignEach es X.env).length=n:=by rfl)(Z8:(assignEach es X.env).findIdx? (·.1)=none:=by rfl)(hK:X.K=K:=by rfl):QG X (.Tuple es k pos) (gTup K n gs):=by subst hK;exact ⟨aqs hc h.out hn Z8⟩
variable {tg:Expr}
theorem O5(h:QE X e te)(hK:X.K=K:=by rfl):QI X tg e (iList K te):=by subst hK;exact ⟨anH h.out⟩
theorem cL(h:QE X e te)(hK:X.K=K:=by rfl):QI X tg e (iTup K te):=by subst hK;exact ⟨aqy h.out⟩
theorem am1(h:QE X e te):QI X tg e (iStr te):=⟨aq5 h.out⟩
theorem qi_r1(hm:X.mg "range"=none)(ha:QA X [a] tl)(hg:Gl X "range":=by rfl)(h1:L7 a=false:=by rfl):QI X tg (.Call (.Name "range" p) [a] [] pos) (iRng1 tl):=⟨pi_r1 hg hm ha.out h1⟩
theorem qi_r2(hm:X.mg "range"=none)(ha:QA X [a,b] tl)(hg:Gl X "range":=by rfl)(h1:L7 a=false:=by rfl)(h2:L7 b=false:=by rfl):QI X tg (.Call (.Name "range" p) [a,b] [] pos) (iRng2 tl):=⟨pi_r2 hg hm ha.out h1 h2⟩
theorem k6:QIfs X [] tYes:=⟨alJ⟩
theorem kS(h:QT X c tA):QIfs X [c] tA:=⟨alK h.out⟩
variable {sc:Scope} {N':List Str} {k:Nat} {ixs:List Nat} {ifs:List Expr} {wi:TI} {g:TG} {elt:Expr}
theorem f9(C:CompOk X.N X.env.scope.names sc N' k ixs)(hi:QI X tg e wi)(hg:∀ C zw zt fp pins,QG 'm' tg g)(hc:∀ C zw zt fp pins,QIfs 'm' ifs tA)(he:∀ C zw zt fp pins,QE 'm' elt te)(N1:X.calm=true:=by rfl)(hs:∀ x,foldedSetIterable e X.env x=pure x:=by intro _;rfl):QE X (.ListComp elt [⟨tg,e,ifs,0⟩] sc pos) (tComp wi k ixs g tA te):=
 ⟨an5 C N1 hi.out (fun _ _ _ _ _=>(hg _ _ _ _ _).out) (fun _ _ _ _ _=>(hc _ _ _ _ _).out) (fun _ _ _ _ _=>(he _ _ _ _ _).out) hs⟩
theorem nP(hN:X.N.Nodup)(hiN:X.N[n]?=some x)(hx:v9 X.env.scope x)(C:CompOk X.N X.env.scope.names sc N' k ixs)(hi:QI X tg e wi)(hg:∀ C zw zt fp pins,QG 'm' tg g)(hc:∀ C zw zt fp pins,QIfs 'm' ifs tA)(he:∀ C zw zt fp pins,QE 'm' elt te)(hsw:swapsWith (.ListComp elt [⟨tg,e,ifs,0⟩] sc pos) (some (.Name x pos')) spos.line X.env=pure true:=by rfl)(N1:X.calm=true:=by rfl)(hf:X.fn x=true:=by rfl)(hs:∀ x,foldedSetIterable e X.env x=pure x:=by intro _;rfl) :
  QS X (.Assign [.Name x pos'] (.ListComp elt [⟨tg,e,ifs,0⟩] sc pos) spos) (tAsg (tComp wi k ixs g tA te) (gName n)):=
 ⟨aiO hN hiN hx C N1 hi.out (fun _ _ _ _ _=>(hg _ _ _ _ _).out) (fun _ _ _ _ _=>(hc _ _ _ _ _).out) (fun _ _ _ _ _=>(he _ _ _ _ _).out) hsw (.inl hf) hs⟩
theorem q_add(hK:X.K=K:=by rfl):QOp X (binaryOp .Add) (rAddU K):=by subst hK;exact ⟨p_add⟩
theorem q_sub:QOp X (binaryOp .Sub) (aP fun i j=>.int (i-j)):=⟨p_sub⟩
theorem q_mul:QOp X (binaryOp .Mult) rMulU:=⟨p_mul⟩
theorem x0:QOp X (binaryOp .FloorDiv) (rI CDiv fun i j=>.int (i / j)):=⟨aq0⟩
theorem q_mod:QOp X (binaryOp .Mod) (rI (fun _ j=>0<j) fun i j=>.int (i % j)):=⟨p_mod⟩
theorem q_eq(hu:X.A.units+64<cLine)(hK:X.K=K:=by rfl):QOp X (compareOp .Eq) (rEqU K):=by subst hK;exact ⟨p_eq hu⟩
theorem q_ne(hu:X.A.units+64<cLine)(hK:X.K=K:=by rfl):QOp X (compareOp .NotEq) (rNeU K):=by subst hK;exact ⟨p_ne hu⟩
theorem q_lt:QOp X (compareOp .Lt) rLtU:=⟨p_lt⟩
theorem q_le:QOp X (compareOp .LtE) rLeU:=⟨p_le⟩
theorem q_gt:QOp X (compareOp .Gt) rGtU:=⟨p_gt⟩
theorem q_in(hu:X.A.units+64<cLine)(hK:X.K=K:=by rfl):QOp X (compareOp .In) (rInU K false):=by subst hK;exact ⟨p_in hu⟩
theorem aj7(hu:X.A.units+64<cLine)(hK:X.K=K:=by rfl):QOp X (compareOp .NotIn) (rInU K true):=by subst hK;exact ⟨an6 hu⟩
theorem q_isN:QOp X (compareOp .Is) (fun x y H Q=>y=.non/\Q (.bl (decide (x=.non))) H):=⟨aqF⟩
theorem wN:QOp X (compareOp .IsNot) (fun x y H Q=>y=.non/\Q (.bl (!decide (x=.non))) H):=⟨anK⟩
theorem q_neg:QUn X (unaryOp .USub) (rU fun i=>.int (-i)):=⟨aqE⟩
theorem q_len(hK:X.K=K:=by rfl):QCall X (.builtin "len") (rLenU K):=by subst hK;exact ⟨p_len⟩
theorem q_isi:QCall X (.builtin "isinstance") rIsi:=⟨alL⟩
theorem rL(hK:X.K=K:=by rfl)(pL:X.calm=calm:=by rfl):QCall X (.type "list") (wD K calm):=by subst hK;subst pL;exact ⟨aq3⟩
theorem k7:QMt X "list.append" vO:=⟨fun pins s Y H x xs v us Q I rx rv h=>agd pins s Y H x xs v us Q I rx rv h⟩
theorem aoF:QMt X "list.clear" vP:=⟨fun pins s Y H x xs v us Q I rx rv h=>alC pins s Y H x xs v us Q I rx rv h⟩
theorem aj9:QMt X "list.reverse" ahV:=⟨fun pins s Y H x xs v us Q I rx rv h=>aiN pins s Y H x xs v us Q I rx rv h⟩
theorem wO:QIp X .Add (vA fun i j=>i+j):=⟨aqx⟩
theorem arp:QIn X .Add rAdd:=⟨aqJ⟩
theorem arq:QIn X .Sub rSub:=⟨aqK⟩
end
noncomputable def ModD (P:Program) (w:World) (K:PySem.W.Frag) (a:Addr) (kvs:List (B5×V)):Prop:=(a==sysModules)=false/\∀ h:Heap,K.In h->∃ vs,KV kvs vs/\h.DictOf (N3 P w) a vs
noncomputable abbrev ModE (w:World):List DictEntry->List (B5×V)->Prop:=Paired fun e kv=>keyIs kv.1 e.key=true/\e.hash=keyH w kv.1/\RelV kv.2 e.val
theorem ModE.pairs{P:Program}{w:World} : ∀ {es:List DictEntry} {kvs:List (B5×V)},ModE w es kvs->∃ vs:List (B5×Value),KV kvs vs/\Pairs (N3 P w) es vs/\(∀ e∈es,∃ k,(N3 P w).is k e.key=true/\e.hash=(N3 P w).hash k)/\vs.map (·.1)=kvs.map (·.1)
 | _,_,.nil=>⟨[],.nil,.nil,fun e h=>(nomatch h),rfl⟩
 | e::es,kv::kvs,.cons ⟨h1,h2,h3⟩ t=>by
  obtain ⟨vs,a1,a2,a3,a4⟩:=ModE.pairs (P:=P) t;refine ⟨(kv.1,e.val)::vs,.cons ⟨rfl,h3⟩ a1,.cons h1 rfl a2,fun e' he=>?_,by rw [F6,F6,a4]⟩
  rcases L4.mp he with z | z
  .rw [z];exact ⟨kv.1,h1,h2⟩
  .exact a3 e' z
theorem aoG{P:Program}{w:World}{es:Array DictEntry}{ep:Nat}(l:K.lookup a=some { cls:=.type "dict",dict:=none,data:=.dict es ep,slots:=#[] })(hs:(a==sysModules)=false)(he:ModE w es.toList kvs)(hn:(kvs.map (·.1)).Nodup):ModD P w K a kvs:=by
 refine ⟨hs,fun h X=>?_⟩;obtain ⟨vs,a1,a2,a3,a4⟩:=he.pairs (P:=P);exact ⟨vs,a1,_,es,ep,X a _ l,⟨rfl,rfl,rfl⟩,rfl,fun e h=>a3 e (Array.mem_toList_iff.mpr h),a2,by rw [a4];exact hn⟩
noncomputable def rInM (neg:Bool) (a:Addr) (kvs:List (B5×V)):R2:=fun x y H Q=>y=.ref a/\∃ k,x=kV k/\Q (.bl (neg.xor (valV kvs k).isSome)) H
noncomputable def am2 (a:Addr) (kvs:List (B5×V)) (to ti:TE):TE:=fun Y H Q=>to Y H fun x H1=>ti Y H1 fun y H2=>x=.ref a/\∃ k v,y=kV k/\valV kvs k=some v/\Q v H2
section
variable {X:Cx} {a:Addr} {kvs:List (B5×V)} {o i:Expr} {to ti:TE} {pos:Pos}
theorem q_inM(M:ModD X.prog X.w X.K a kvs):QOp X (compareOp .In) (rInM false a kvs):=⟨by
 sleep 0;obtain ⟨rfl,k,rfl,q⟩:=h;obtain rfl:u=Value.ref a:=ry;obtain ⟨hd,M⟩:=M;obtain ⟨vs,rel,dd⟩:=M s.heap I.kIn;refine wpAny_in_of (kV_is rx) hd dd.mapOf ?_;rw [<- (rel.val k).isSome_eq];exact ⟨.bl _,H,I.tok _,rfl,by simpa using q⟩⟩
theorem ah3(M:ModD X.prog X.w X.K a kvs)(ho:QE X o to)(hi:QE X i ti)(hs:NoSl i:=by exact fun _ _=>rfl):QE X (.Subscript o i pos) (am2 a kvs to ti):=⟨by
 sleep 1;refine vU PySem.F.slot_dict_getitem.lookup hs (B1 (ho.out pins s Y H _ I h) fun u s1 ⟨x,H1,I1,rx,q1⟩=>B1 (hi.out pins s1 Y H1 _ I1 q1) fun iv s2 ⟨y,H2,I2,ry,ex,k,v,ey,l,q2⟩=>?_);subst ex ey;obtain rfl:u=Value.ref a:=rx;obtain ⟨hd,M⟩:=M;obtain ⟨vs,rel,dd⟩:=M s2.heap I2.kIn;obtain ⟨w',hw,rw'⟩:=nI (v:=v) (o:=valueAt vs k) (by rw [<- l];exact rel.val k);exact ⟨dd.typeIs,wpAny_getItem_of (kV_is ry) dd.mapOf hw ⟨v,H2,I2.tok _,rw',q2⟩⟩⟩
end
theorem am3{k:B5} : (V.str z=kV k)=(k=Sum.inr z):=by
 cases k with
 | inl i=>exact propext ⟨fun h=>(by cases h),fun h=>(by cases h)⟩
 | inr x=>exact propext ⟨fun h=>(by cases h;rfl),fun h=>(by cases h;rfl)⟩
theorem arr : rInM neg a kvs (.str z) (.ref b) H Q=(V.ref b=V.ref a/\Q (.bl (neg.xor (valV kvs (Sum.inr z)).isSome)) H):=by
 unfold rInM;simp only [am3,exists_eq_left]
theorem al4 : am2 a kvs to ti Y H Q=to Y H fun x H1=>ti Y H1 fun y H2=>x=.ref a/\∃ k v,y=kV k/\valV kvs k=some v/\Q v H2:=rfl
noncomputable def akb (c:TT) (tb:TS) (D:Ends) (Y:St) (H:Hp):Prop:=qS c tb D Y H
theorem al5 : qS c tb D Y H=akb c tb D Y H:=rfl
theorem rM(Pv:Nat->St->Hp->Prop)(m:Nat)(h0:Pv m Y H)(hs:∀ m Y H,Pv m Y H->c Y H fun b H1=>if b=true then ∃ N:St->Hp->Prop,(∀ σ' H',N σ' H'->∃ m',m'<m/\Pv m' σ' H')/\tb { D with nx:=N,ct:=N,bk:=D.nx } Y H1 else D.nx Y H1):akb c tb D Y H:=⟨Pv,⟨m,h0⟩,hs⟩
noncomputable def rTupR (K:PySem.W.Frag) (p:Addr) (H:Hp) (Q:VK):Prop:=∃ ys,(D1 K H p ys/\∀ l,H l=none->Q (.ref l) (A0 H l (.tup ys)))\/(A8 K H p ys/\Q (.ref p) H)
theorem rTupR.l(h1:D1 K H p ys)(h:∀ l,H l=none->Q (.ref l) (A0 H l (.tup ys))):rTupR K p H Q:=⟨ys,.inl ⟨h1,h⟩⟩
noncomputable def rTupU (K:PySem.W.Frag):List V->Hp->VK->Prop
 | [.ref p],H,Q=>rTupR K p H Q
 | _,_,_=>False
theorem tup_r : rTupU K [.ref p] H Q=rTupR K p H Q:=rfl
theorem nQ(hK:X.K=K:=by rfl):QCall X (.type "tuple") (rTupU K):=by
 subst hK;refine ⟨fun pins s Y H xs us Q I r h=>?_⟩
 match xs,h with
 | [.ref p],⟨ys,h⟩=>exact afC pins s Y H _ us Q I r ⟨p,ys,rfl,h⟩
noncomputable def rMin:List V->Hp->VK->Prop:=fun xs H Q=>∃ i j,xs=[.int i,.int j]/\Q (.int (if j<i then j else i)) H
noncomputable def rMax:List V->Hp->VK->Prop:=fun xs H Q=>∃ i j,xs=[.int i,.int j]/\Q (.int (if j > i then j else i)) H
theorem ars{i j:Int} : rMin [.int i,.int j] H Q=Q (.int (if j<i then j else i)) H:=propext ⟨fun ⟨_,_,e,q⟩=>(by cases e;exact q),fun q=>⟨_,_,rfl,q⟩⟩
theorem art{i j:Int} : rMax [.int i,.int j] H Q=Q (.int (if j > i then j else i)) H:=propext ⟨fun ⟨_,_,e,q⟩=>(by cases e;exact q),fun q=>⟨_,_,rfl,q⟩⟩
noncomputable def rCalm (calm:Bool) (r:List V->Hp->VK->Prop):List V->Hp->VK->Prop:=fun xs H Q=>calm=true/\r xs H Q
theorem aoH{r:List V->Hp->VK->Prop} : rCalm true r xs H Q=r xs H Q:=propext ⟨fun h=>h.2,fun h=>⟨rfl,h⟩⟩
end L2
namespace L2
open PySem PySem.Spec PyProof.Rows
open PySem.Builtin PySem.Builtin.Str PySem.StrLaws
noncomputable def tSeqM (t u:TS):TS:=fun D Y H=>∃ M:St->Hp->Prop,t { D with nx:=M } Y H/\∀ σ' H',M σ' H'->u D σ' H'
theorem hJ{rest:List Stmt}{t u:TS}(h1:QS X st t)(h2:QSs X rest u):QSs X (st::rest) (tSeqM t u):=⟨by
 intro pins s Y H D I h;obtain ⟨M,h,hm⟩:=h;refine wpAny_execs_cons (B1 (h1.out pins s Y H { D with nx:=M } I h) fun f s1 q=>?_)
 cases f with
 | next=>
  obtain ⟨σ',H',I',q⟩:=q;exact h2.out pins s1 σ' H' D I' (hm _ _ q)
 | ret v=>exact q
 | brk=>exact q
 | cont=>exact q⟩
theorem mid{t u:TS}(M:St->Hp->Prop)(h:t { D with nx:=M } Y H)(h2:∀ σ' H',M σ' H'->u D σ' H'):tSeqM t u D Y H:=⟨M,h,h2⟩
theorem wP(h:H p=some (.lst xs)):TruV K (.ref p) H (!xs.isEmpty):=.inl ⟨xs,.of h,rfl⟩
theorem r8(xs:List V)(k:Nat):cutV xs (some (k:Int)) none=xs.drop k:=by
 unfold cutV;have e1:HT.sIx xs.length 0 (some (k:Int))=min k xs.length:=by unfold HT.sIx;simp;lia
 have e2:HT.sIx xs.length xs.length none=xs.length:=rfl;rw [e1,e2,u9 (by rw [aK];exact C3 _)]
 by_cases h:k<=xs.length
 .rw [eM h]
 .rw [Nat.min_eq_right 'a',mV (C3 _),mV 'a']
theorem aV(xs:List V)(k:Nat):cutV xs none (some (k:Int))=xs.take k:=by
 unfold cutV;have e1:HT.sIx xs.length xs.length (some (k:Int))=min k xs.length:=by unfold HT.sIx;simp;lia
 have e2:HT.sIx xs.length 0 none=0:=rfl;rw [e1,e2,List.drop_zero,Nat.sub_zero]
 by_cases h:k<=xs.length
 .rw [eM h]
 .rw [Nat.min_eq_right 'a',u9 (C3 _),u9 'a']
theorem wQ(x:V)(xs:List V):cutV (x::xs) (some 1) none=xs:=r8 (x::xs) 1
theorem J5{α:Type}(x:α)(xs:List α):F8 (x::xs) 0=some x:=by
 have e:Y0 (x::xs).length 0=some 0:=by unfold Y0;rw [if_pos (Int.le_refl 0),if_pos (by rw [L3];lia)];rfl
 unfold F8;rw [e];rfl
theorem al6{o f:Expr}(hu:X.A.units+1<cLine)(ho:QE X o td)(he:QE X e ty)(hf:QE X f tx)(h1:L7 e=false:=by rfl)(h2:L7 f=false:=by rfl)(G1:attributeBase o "get" X.env (eval o X.env)=eval o X.env:=by rfl)(G2:(apos.endLine==cpos.line)=true:=by rfl):QE X (.Call (.Attribute o "get" apos) [e,f] [] cpos) (vY td ty tx):=
 ⟨alI hu ho.out he.out hf.out ⟨G1,by rw [O0 h1,O0 h2];rfl,G2,by rw [O0 h1,O0 h2];rfl⟩⟩
theorem aoI{trs:List (TE×TE)} : tDisp trs Y H Q=∀ p,H p=none->kJ trs Y (A0 H p (.dK [])) fun ps H2=>H2 p=some (.dK [])/\∃ kvs:List (B5×V),ps=kvs.map (fun kv=>(kV kv.1,kv.2))/\kvs.length<=15/\Q (.ref p) (A0 H2 p (.dK (Y1 [] kvs))):=rfl
theorem aoJ{Q:List (V×V)->Hp->Prop} : kJ [] Y H Q=Q [] H:=rfl
theorem al7{r:List (TE×TE)}{Q:List (V×V)->Hp->Prop} : kJ ((tk,tv)::r) Y H Q=tk Y H fun x H1=>tv Y H1 fun y H2=>kJ r Y H2 fun ps H3=>Q ((x,y)::ps) H3:=rfl
theorem al8 : vY td ty tx Y H Q=td Y H fun x H1=>∃ a,x=.ref a/\gW H1 a/\ty Y H1 fun y H2=>tx Y H2 fun z H3=>∃ o,DGet H3 a y o/\Q (o.getD z) H3:=rfl
theorem aeb:∀ {zs:List Str} {us:List Value},Vals (zs.map V.str) us->StrsAre us zs
 | [],_,.nil=>.nil
 | z::zs,_::_,.cons ⟨t,h⟩ r=>by subst h;exact .cons _ _ (aeb r)
end L2
namespace L2
open PySem PySem.Spec PyProof.Rows
theorem acV:entryFor table "dict.update.loop"=some Builtin.«dict.update.loop»:=entryFor_of_tree (by kernel_rfl)
theorem rN:plainId "dict.update.loop"=true:=by decide +kernel
section
variable {prog:Program} {w:World} {A:Around} {R:Result->Shared->Prop} {I:Addr} {fp wr:List Addr} {G:Array GenState->Array GenState->Prop} {n:Nat} {P:Nat->Value->Prop} {St:Nat->Shared->Prop}
variable {K:Type} [DecidableEq K] {knd:KeyKind prog w K}
noncomputable def x4 (ks:Nat->K) (vl:Nat->Value):Nat->List (K×Value)
 | 0=>[]
 | i+1=>stored (x4 ks vl i) (ks i) (vl i)
theorem aez(ks:Nat->K)(vl:Nat->Value):∀ i,(x4 ks vl i).length<=i
 | 0=>C3 _
 | i+1=>by
  have h1:=aez ks vl i;have h2:(stored (x4 ks vl i) (ks i) (vl i)).length<=(x4 ks vl i).length+1:=by
   unfold stored
   split
   .rw [A6];lia
   .rw [D9];exact C3 _
  show (stored (x4 ks vl i) (ks i) (vl i)).length<=i+1;lia
theorem akc(W:WalksS prog w A.in1 I fp wr G n P St)(d:Addr)(bM:d∉fp)(tp:Nat->Addr)(ky vl:Nat->Value)(ks:Nat->K)(hP:∀ i v,P i v->v=.ref (tp i))(hk:∀ i,i<n->knd.is (ks i) (ky i)=true)(ht:∀ i,i<n->tp i≠d/\tp i∉wr)(hn:n<=sizeLine) :
  ∀ (k i:Nat) (s:Shared) (j:Int) (t:Tok),n-i=k->i<=n->St i s->(∀ i,i<n->IsTup s.heap (tp i) #[ky i,vl i])->s.heap.DictOf knd d (x4 ks vl i)->
   (∀ s',Moved (d::wr) G s s'->s'.heap.DictOf knd d (x4 ks vl n)->R (.ok (.ret .none)) s')->
   codeAny 'j' A (.builtin "dict.update.loop" ⟨[.ref d,.ref I,.int j t,.none],[]⟩) R s:=by
 have hdw:d∉wr:=fun h=>bM (W.sub _ h)
 have pM:∀ b∈wr,b∈d::wr:=fun b hb=>O7 _ hb
 intro k
 induction k with
 | zero=>
  intro i s j t hk' hi Z8 hT hD hR;have E9:i=n:=by lia
  subst E9;refine codeAny_builtin acV ?_;rw [Around.under_plainId rN _];show wpAny _ A.in1 (pyNext (.ref I) >>= _) _ _ s;refine wpAny_bind (W.done s _ _ Z8 fun s' hm=>?_);have e0:Builtin.Dict.addKeywords d []=pure ():=rfl;show wpAny _ A.in1 (Builtin.Dict.addKeywords d [] >>= fun _=>ret Value.none) _ _ s';rw [e0];refine wpAny_bind (wpAny_pure (wpAny_pure (hR s' (hm.mono pM) ?_)));obtain ⟨o,es,ep,ho,rest⟩:=hD;exact ⟨o,es,ep,hm.heap d _ hdw ho,rest⟩
 | succ k ih=>
  intro i s j t hk' hi Z8 hT hD hR;have C4:i<n:=by lia
  refine codeAny_builtin acV ?_;rw [Around.under_plainId rN _];show wpAny _ A.in1 (pyNext (.ref I) >>= _) _ _ s;refine wpAny_bind (W.item i s _ _ C4 Z8 fun v s' hv hst' hm=>?_);obtain rfl:=hP i v hv;have hD':s'.heap.DictOf knd d (x4 ks vl i):=by
   obtain ⟨o,es,ep,ho,rest⟩:=hD;exact ⟨o,es,ep,hm.heap d _ hdw ho,rest⟩
  have hT':∀ i,i<n->IsTup s'.heap (tp i) #[ky i,vl i]:=fun i hi=>by
   obtain ⟨o,ho,rest⟩:=hT i hi;exact ⟨o,hm.heap _ _ (ht i hi).2 ho,rest⟩
  have hTi:=hT' i C4;obtain ⟨o,ho,hoc,n0,tV⟩:=id hTi;refine wpAny_bind (wpAny_holding (wpAny_bind (wpAny_tryCatch ?_)));unfold Builtin.Dict.pairItems;refine wpAny_bind (wpAny_typeOf hTi.typeIs ?_);rw [if_pos 'h'];refine wpAny_bind (wpAny_seqItems ho tV ?_);refine wpAny_pure ?_;show wpAny _ _ (holding [ky i,vl i] (dictSet d (ky i) (vl i))) _ _ s';have hl:=aez ks vl i;refine wpAny_holding (wpAny_dictSet_pairs (hk i C4) hD' (fun h' hD2 hsb=>?_) 'a');refine wpAny_pure ⟨plainId_quiet rN _,ih (i+1) _ (j+1) 0 'a' C4 (W.frame _ s' _ _ hst' (Nat.le_succ _) fun b hb o e=>?_) (fun i hi=>?_) hD2 fun s'' hm'' hD''=>?_⟩
  .rw [hsb.2 b (fun h:b=d=>bM (by rw [<- h];exact hb))];exact e
  .obtain ⟨o,ho,rest⟩:=hT' i hi;exact ⟨o,(hsb.2 _ (ht i hi).1).trans ho,rest⟩
  .refine hR s'' (Moved.trans W.gtrans ((hm.mono pM).then_heap (Nat.le_succ _) fun b o hb e=>?_) hm'') hD'';rw [hsb.2 b (fun h:b=d=>hb (by rw [h];exact N2))];exact e
end
theorem aiP:typeLookup (.type "list") "__getattribute__"=pure (some (.builtin "list.__getattribute__")):=by rw [typeLookup_type,builtinLookup_eq_fast];kernel_rfl
theorem agl:typeLookup (.type "list") "keys"=pure none:=by rw [typeLookup_type,builtinLookup_eq_fast];kernel_rfl
theorem agm:typeLookup (.type "list") "__getattr__"=pure none:=by rw [typeLookup_type,builtinLookup_eq_fast];kernel_rfl
theorem agn{w:World}{l:Addr}{xs:Array Value}{Q:Option Value->Shared->Prop}(hx:s.heap.get? l=some o)(hc:o.cls=.type "list")(pN:o.data=.seq xs k)(hd:o.dict=none)(hA:A.handled=none)(h:∀ h' tk,(∀ b o,s.heap.get? b=some o->h'.get? b=some o)->Q none { s with heap:=h',toks:=tk }):wpAny 'j' A (getAttr? (.ref l) "keys") Q E s:=by
 obtain ⟨c,dct,dat,sl⟩:=o;simp only at hc pN hd;subst hc pN hd;obtain ⟨hp,g,d,tk,os⟩:=s;have hT:∀ tk',(⟨hp,g,d,tk',os⟩:Shared).TypeIs (.ref l) "list":=fun _=>⟨_,hx,rfl⟩
 have f4:=F.slot_list_getattribute.bind (.ref l);unfold getAttr? getAttrBy? getAttrBy;refine wpAny_bind (wpAny_mkText (wpAny_bind (wpAny_attempt (wpAny_holding (wpAny_bind (wpAny_typeOf (hT _) ?_))))));rw [aiP];refine wpAny_bind (wpAny_pure ?_);show wpAny _ _ (getAttrByItsOwn _ _ _ _ _ _) _ _ _;unfold getAttrByItsOwn;refine wpAny_bind (wpAny_pure ?_);refine wpAny_bind (wpAny_attempt (wpAny_holding ?_));show wpAny _ _ (boundAndCalled _ _ _) _ _ _;unfold boundAndCalled;rw [f4];refine wpAny_bind (wpAny_pure ?_);refine call_meets F.slot_list_getattribute (hT _) am_entry_list_getattribute (F.args_list_getattribute_2 _ _) (meets_getattribute_miss_list l xs k sl "keys" _ agl 'c' 'c') ⟨hx,hA,fun h' tk' e new=>?_⟩;obtain ⟨t',u',he⟩:=new.there;have hTe:∀ tk',(⟨h',g,d,tk',os⟩:Shared).TypeIs (.ref e) "AttributeError":=fun _=>⟨_,he,rfl⟩
 show wpAny _ _ (getattributeRaised _ _ _ _ _ _ _) _ _ _;unfold getattributeRaised;refine wpAny_bind (wpAny_isInstance (hTe _) sub_AttributeError ?_);rw [if_pos rfl];show wpAny _ _ (hookBehind _ _ >>= _) _ _ _;unfold hookBehind;rw [if_neg 'h',agm];refine wpAny_bind (wpAny_pure ?_);unfold hookOrError attributeErrorLeaves;show wpAny _ _ (if (!false)=true then _ else _) _ _ _;rw [if_pos 'h'];refine wpAny_bind (wpAny_throw ?_);show wpAny _ _ (isInstance _ _ >>= _) _ _ _;refine wpAny_bind (wpAny_isInstance (hTe _) sub_AttributeError ?_);rw [if_pos rfl];exact wpAny_pure (h h' tk' new.keeps)
section
variable {prog:Program} {w:World} {A:Around} {E:Value->Shared->Prop} {s:Shared} {K:Type} [DecidableEq K] {knd:KeyKind prog w K}
theorem aeA{l:Addr}{Q:Value->Shared->Prop}(hl:PlainL s.heap l items)(hA:A.handled=none)(tp:Nat->Addr)(ky vl:Nat->Value)(ks:Nat->K)(hP:∀ (i:Nat) (v:Value),items[i]?=some v->v=Value.ref (tp i))(hk:∀ i,i<items.size->knd.is (ks i) (ky i)=true)(hT:∀ i,i<items.size->IsTup s.heap (tp i) #[ky i,vl i])(hn:items.size<=sizeLine)(h:∀ h' tk,(∀ b o,s.heap.get? b=some o->h'.get? b=some o)->h'.DictOf knd s.heap.objs.size (x4 ks vl items.size)->Q (.ref s.heap.objs.size) { s with heap:=h',toks:=tk }) :
  wpAny 'j' A (call (.type "dict") [.ref l]) Q E s:=by
 refine callType_codes (Q₁:=fun obj zu=>obj=.ref s.heap.objs.size/\zu={ s with heap:=s.heap.push { cls:=.type "dict",data:=.dict #[] } }) F.kt_called_dict (F.kt_typeCall_dict_1 _) F.entry_dict_init (kt_code_dict_new _ ⟨rfl,rfl⟩) ?_;rintro obj zu ⟨rfl,rfl⟩;have U1:(s.heap.push { cls:=.type "dict",data:=.dict #[] }).DictOf knd s.heap.objs.size []:=Heap.DictOf.new s.heap;obtain ⟨ol,nl,hol,hlc,hld,fR⟩:=hl;have iX:(s.heap.push { cls:=.type "dict",data:=.dict #[] }).get? l=some ol:=Heap.get?_push_of_some _ hol;have C4:l<s.heap.objs.size:=Heap.lt_size hol;refine ⟨U1.typeIs,F.args_dict_init_2 _ _,?_⟩;unfold Builtin.«dict.__init__»;refine wpAny_bind ?_;unfold Builtin.Dict.selfAndRest;refine wpAny_bind (wpAny_notOrdered_dict U1.typeIs ?_);show wpAny _ _ (pure (s.heap.objs.size,[Value.ref l])) _ _ _;refine wpAny_pure ?_;show wpAny _ _ (Builtin.Dict.updateFrom "dict.__init__" s.heap.objs.size (.ref l) [] .none) _ _ _;unfold Builtin.Dict.updateFrom;refine wpAny_bind (wpAny_typeOf (T:="list") ⟨_,iX,hlc⟩ ?_);rw [if_pos 'h'];refine wpAny_bind (agn iX hlc fR hld (by simp [hA]) fun h2 tk2 keep2=>?_);rw [if_pos (show (none:Option Value).isNone=true from rfl)];refine wpAny_bind (wpAny_rule ?_);have i6:h2.IsList l items:=⟨ol,keep2 _ _ iX,hlc,nl,fR⟩
 refine wpAny_bind (wpAny_pyIter_list i6 ?_);obtain ⟨od,es,ep,tV,restd⟩:=U1;have dD:s.heap.objs.size<h2.objs.size:=Heap.lt_size (keep2 _ _ tV);have G9:l≠h2.objs.size:=M5 (Nat.lt_trans C4 dD);have hh:A.in1.in1.handled=none:=by simp [hA]
 have bM:s.heap.objs.size∉[h2.objs.size,l]:=by
  simp only [L4,gK,or_false,not_or];exact ⟨M5 dD,Nat.ne_of_gt C4⟩
 have pO:∀ i,i<items.size->tp i<s.heap.objs.size:=fun i hi=>by
  obtain ⟨o,ho,_⟩:=hT i hi;exact Heap.lt_size ho
 refine wpAny_pure ⟨plainId_quiet rN _,akc ((Walks.list hh _ l G9 items).toS) s.heap.objs.size bM tp ky vl ks hP hk (fun i hi=>⟨M5 (pO i hi),?_⟩) hn (items.size-0) 0 _ 0 0 'a' (F7 _) ⟨⟨_,Heap.get?_push_size _ rfl,rfl,rfl⟩,i6.push _⟩ (fun i hi=>?_) ?_ fun s' hm hD'=>?_⟩
 .simp only [L4,gK,or_false];exact M5 (Nat.lt_trans (pO i hi) dD)
 .obtain ⟨o,ho,rest⟩:=hT i hi;exact ⟨o,Heap.get?_push_of_some _ (keep2 _ _ (Heap.get?_push_of_some _ ho)),rest⟩
 .exact ⟨od,es,ep,Heap.get?_push_of_some _ (keep2 _ _ tV),restd⟩
 .obtain ⟨h',g',d',tk',os'⟩:=s';have eg:g'=s.gens:=hm.gens;have ed:d'=s.drawn:=hm.drawn;have eo:os'=s.os:=hm.os;subst eg ed eo;refine ⟨rfl,h h' tk' (fun b o hb=>hm.heap b o ?_ (Heap.get?_push_of_some _ (keep2 _ _ (Heap.get?_push_of_some _ hb)))) hD'⟩;have pP:b<s.heap.objs.size:=Heap.lt_size hb;simp only [L4,gK,or_false,not_or];exact ⟨M5 pP,M5 (Nat.lt_trans pP dD)⟩
end
noncomputable def aru (K:PySem.W.Frag) (calm:Bool):List V->Hp->VK->Prop:=fun xs H Q=>calm=true/\∃ (p:Addr) (ts:List Addr) (kxs:List (B5×V)),xs=[.ref p]/\D1 K H p (ts.map V.ref)/\Paired (fun t kx=>A8 K H t [kV kx.1,kx.2]) ts kxs/\∀ d,H d=none->Q (.ref d) (A0 H d (.dK (Y1 [] kxs)))
theorem ah5(I:Inv X pins Y H s):∀ {ts:List Addr} {kxs:List (B5×V)},Paired (fun t kx=>A8 X.K H t [kV kx.1,kx.2]) ts kxs->
  ∃ ws:List (Value×Value),Paired (fun t w=>IsTup s.heap t #[w.1,w.2]) ts ws/\Paired (fun (kx:B5×V) (w:Value×Value)=>keyIs kx.1 w.1=true/\RelV kx.2 w.2) kxs ws
 | _,_,.nil=>⟨[],.nil,.nil⟩
 | _,_,.cons h t=>by
  obtain ⟨ws,h1,h2⟩:=ah5 I t;obtain ⟨its,r,ht,_⟩:=I.tuple h;obtain ⟨u1,u2,rfl,r1,r2⟩:=vals2 r;exact ⟨(u1,u2)::ws,.cons ht h1,.cons ⟨kV_is (P:=X.prog) (w:=X.w) r1,r2⟩ h2⟩
theorem akd:∀ {ts:List Addr} {us:List Value},Vals (ts.map V.ref) us->us=ts.map Value.ref
 | [],_,.nil=>rfl
 | t::ts,_::_,.cons h r=>by
  rw [F6,<- akd r];cases h;rfl
theorem ake(hK:X.K=K:=by rfl)(hc:X.calm=calm:=by rfl):QCall X (.type "dict") (aru K calm):=⟨by
 subst hK;intro pins s Y H xs us Q I r h;obtain ⟨pL,p,ts,kxs,rfl,hp,hP,q⟩:=h;obtain ⟨u,rfl,rx⟩:=vals1 r
 cases rx
 obtain ⟨its,r',pl,hz⟩:=I.list hp;have pQ:=akd r';obtain ⟨ws,h1,h2⟩:=ah5 I hP;have o0:ts.length=ws.length:=Paired.length h1;have i6:kxs.length=ws.length:=Paired.length h2;rw [A6] at hz;have hsz:its.toArray.size=ts.length:=by rw [K9,pQ,A6]
 have hrel:∀ i,i<=ts.length->KV (Y1 [] (kxs.take i)) (x4 (fun i=>(kxs.getD i (Sum.inl 0,.non)).1) (fun i=>(ws.getD i (.none,.none)).2) i):=by
  intro i
  induction i with
  | zero=>intro _;exact .nil
  | succ i ih=>
   intro hi;have dE:i<kxs.length:=by lia
   obtain ⟨w',hw,hr⟩:=Paired.at h2 (L1 dE);have e1:Y1 [] (kxs.take (i+1))=putK (Y1 [] (kxs.take i)) kxs[i].1 kxs[i].2:=by
    unfold Y1;rw [v4,L1 dE,Option.toList_some,aJ];rfl
   rw [e1];show KV _ (stored _ (kxs.getD i (Sum.inl 0,.non)).1 (ws.getD i (.none,.none)).2);have e2:(kxs.getD i (Sum.inl 0,.non))=kxs[i]:=by rw [aG,L1 dE];rfl
   have e3:(ws.getD i (.none,.none))=w':=by rw [aG,hw];rfl
   rw [e2,e3];exact (ih 'a').put _ hr.2
 refine aeA (knd:=N3 X.prog X.w) pl (I.ok.hd (hc.trans pL)) (fun i=>ts.getD i 0) (fun i=>(ws.getD i (.none,.none)).1) (fun i=>(ws.getD i (.none,.none)).2) (fun i=>(kxs.getD i (Sum.inl 0,.non)).1) (fun i v hv=>?_) (fun i hi=>?_) (fun i hi=>?_) 'a' fun h' tk keep hD=>?_
 .rw [<- Array.getElem?_toList,pQ,U4] at hv;rw [aG];cases e:ts[i]? with
  | none=>rw [e] at hv;cases hv
  | some t=>rw [e] at hv;cases hv;rfl
 .obtain ⟨w',hw,hr⟩:=Paired.at h2 (L1 (show i<kxs.length by lia));have e2:(kxs.getD i (Sum.inl 0,.non))=kxs[i]'(by lia):=by rw [aG,L1 (show i<kxs.length by lia)];rfl
  have e3:(ws.getD i (.none,.none))=w':=by rw [aG,hw];rfl
  rw [e2,e3];exact hr.1
 .have hi':i<ts.length:=by lia
  obtain ⟨w',hw,hr⟩:=Paired.at h1 (L1 hi');have e3:(ws.getD i (.none,.none))=w':=by rw [aG,hw];rfl
  have e4:ts.getD i 0=ts[i]:=by rw [aG,L1 hi'];rfl
  rw [e3,e4];exact hr
 .have hD2:KV (Y1 [] kxs) (x4 (fun i=>(kxs.getD i (Sum.inl 0,.non)).1) (fun i=>(ws.getD i (.none,.none)).2) its.toArray.size):=by
   have:=hrel ts.length (C3 _)
   rw [u9 'a'] at this;rw [hsz];exact this
  have A9:=adF kxs [];rw [Z0] at A9;exact ⟨.ref s.heap.objs.size,_,I.laid (t':=tk) keep (C3 _) (vT 'a' (beq_eq_false_iff_ne.mpr (Ne.symm (M5 I.big))) hD2 hD),rfl,q _ (I.hok.fresh (C3 _))⟩⟩
section
variable {X:Cx} {pins:List (Addr×Obj)} {Y:St} {H:Hp} {s:Shared} {h':Heap}
theorem Inv.turnNew{ch:List Addr}{T:Addr}{o:HO}(I:Inv X pins Y H s)(hf:∀ b∈ch,FpOk X pins H b)(k:∀ b u,b∉ch->s.heap.get? b=some u->h'.get? b=some u)(hT:s.heap.objs.size<=T)(new:ObjOk X.prog X.w (A0 H T o) h' T o):Inv X pins Y (A0 H T o) { s with heap:=h',toks:=t' }:=by
 have hn:H T=none:=I.hok.fresh hT;have nch:∀ b u,H b=some u->b∉ch:=fun b u e z=>by rw [(hf b z).1] at e;cases e
 have neT:∀ b u,s.heap.get? b=some u->b≠T:=fun b u e=>M5 (W1 (Heap.lt_size e) hT)
 refine I.step (g':=s.gens) (d':=s.drawn) (ch:=ch) (fun b hb=>?_) (fun b u _ _ hc e _=>k b u hc e) (fun b u _ _ hc e _=>⟨u.slots,k b u hc e⟩) (fun b u _ e n=>by rw [A7 (neT b u e)];exact n)
  (fun b u hc e=>⟨u,k b u hc e⟩) (fun b xs e=>C9 e hn) (fun b ob u e=>C9 e hn) (fun b ps e=>⟨#[],by rw [C9 e hn];simp⟩) (fun m hm=>?_) (fun b u e=>?_) I.bare
 .obtain ⟨f0,f1,f2,f3,f4,f5⟩:=hf b hb;exact ⟨f3,f1,f4,f5⟩
 .obtain ⟨ob,es,ep,ho,r⟩:=hm;exact ⟨ob,es,ep,k _ ob (fun z=>(hf _ z).2.1 rfl) ho,r⟩
 .by_cases hb:b=T
  .subst hb;rw [A3] at e;cases e;exact new
  .rw [A7 hb] at e;refine (I.hok b u e).stay (fun c v hc q=>k c v ?_ q) (fun c q=>C9 q hn) fun c xs q=>C9 q hn
   rcases hc with z | z
   .rw [z];exact nch b u e
   .exact nch c _ z
end
theorem t4{a b:Nat}(h:a<b\/b<a):(show Addr from a)≠(show Addr from b):=fun e=>by
 have e:a=b:=e;lia
noncomputable def rO (l1 l2 : Addr) : It :=
  ⟨fun i H => ∃ xs ys x y, H l1 = some (.lst xs) /\ H l2 = some (.lst ys) /\ xs[i]? = some x /\ ys[i]? = some y,
   fun i H v H' => ∃ t xs ys x y, H l1 = some (.lst xs) /\ H l2 = some (.lst ys) /\ xs[i]? = some x /\ ys[i]? = some y /\ H t = none /\ v = .ref t /\ H' = A0 H t (.tup [x, y]),
   fun i H => ∃ xs ys, H l1 = some (.lst xs) /\ H l2 = some (.lst ys) /\ (xs.length <= i \/ ys.length <= i)⟩
theorem al9{P:Program}{w:World}{pos:Pos}(z TI TO i1 i2 l1 l2:Addr)(a1:TI≠z)(a2:TO≠z)(a3:i1≠z)(a4:i2≠z)(a5:TI≠TO)(a6:TI≠i1)(a7:TI≠i2)(a8:TO≠i1)(a9:TO≠i2)(a10:i1≠i2) :
  Turn P w K (.Tuple elts x1 pos) (rO l1 l2) [z,TO,i1,i2,TI] z (fun i h=>IsZip h z TI TO .none/\IsPair h TI (.ref i1) (.ref i2)/\(∃ a b,IsPair h TO a b)/\h.IsListIter i1 l1 i/\h.IsListIter i2 l2 i) where
 mem:=by simp
 obj:=fun i h ⟨hz,hTI,⟨a,b,hTO⟩,h1,h2⟩ c hc=>by
  have e:c=z\/c=TO\/c=i1\/c=i2\/c=TI:=by simpa using hc
  rcases e with rfl | rfl | rfl | rfl | rfl
  .exact ⟨_,hz,fun v q=>by cases q⟩
  .exact ⟨_,hTO,fun v q=>by cases q⟩
  .obtain ⟨o,e,c,d⟩:=h1;exact ⟨o,e,fun v z=>by rw [d] at z;cases z⟩
  .obtain ⟨o,e,c,d⟩:=h2;exact ⟨o,e,fun v z=>by rw [d] at z;cases z⟩
  .exact ⟨_,hTI,fun v q=>by cases q⟩
 keep:=fun i h h' ⟨hz,hTI,⟨a,b,hTO⟩,h1,h2⟩ k=>⟨k z 'd' _ hz,k TI 'd' _ hTI,⟨a,b,k TO 'd' _ hTO⟩,h1.at fun o e=>k i1 'd' o e,h2.at fun o e=>k i2 'd' o e⟩
 item:=by
  intro X hP hw hK hc i pins s Y H E I hf ⟨hz,hTI,⟨a,b,hTO⟩,h1,h2⟩ hg;subst hP hw hK;obtain ⟨xs,ys,x,y,e1,e2,hx,hy⟩:=hg;obtain ⟨its1,X0,p1,_⟩:=I.list (D1.of (K:=X.K) e1);obtain ⟨its2,tW,p2,_⟩:=I.list (D1.of (K:=X.K) e2);obtain ⟨u1,B3,r1⟩:=X0.get hx;obtain ⟨u2,fS,r2⟩:=tW.get hy;have nl:∀ c∈[z,TO,i1,i2,TI],l1≠c/\l2≠c:=fun c hc=>⟨fun q=>(by rw [q,(hf c hc).1] at e1;cases e1),fun q=>(by rw [q,(hf c hc).1] at e2;cases e2)⟩
  have D:ZipApart z TI TO i1 i2 l1 l2:=⟨a1,a2,a3,a4,a5,a6,a7,a8,a9,a10,(nl z 'd').1,(nl TO 'd').1,(nl i1 'd').1,(nl i2 'd').1,(nl z 'd').2,(nl TO 'd').2,(nl i1 'd').2,(nl i2 'd').2⟩
  refine wpAny_pyNext_zip_item D hz hTI hTO h1 h2 p1.isList p2.isList (x:=u1) (y:=u2) (by simpa using B3) (by simpa using fS) fun h' b1 b2 b3 b4 b5 b6 b7=>⟨_,rfl,wpAny_letOwnedTupleGo_zip b1 fun h2' c1 c2=>?_⟩
  have P7:z<s.heap.objs.size:=Heap.lt_size hz;have up:∀ c o,c≠z->h'.get? c=some o->h2'.get? c=some o:=fun c o hc e=>(c2.2 c hc).trans e
  have nT:∀ c∈[z,TO,i1,i2,TI],c≠s.heap.objs.size:=fun c hc=>by
   have e:c=z\/c=TO\/c=i1\/c=i2\/c=TI:=by simpa using hc
   refine M5 ?_
   rcases e with rfl | rfl | rfl | rfl | rfl
   .exact Heap.lt_size hz
   .exact Heap.lt_size hTO
   .obtain ⟨o,e,_⟩:=h1;exact Heap.lt_size e
   .obtain ⟨o,e,_⟩:=h2;exact Heap.lt_size e
   .exact Heap.lt_size hTI
  have hT:=up _ _ (Nat.ne_of_gt P7) b5;refine ⟨.ref s.heap.objs.size,A0 H s.heap.objs.size (.tup [x,y]),I.turnNew (t':=s.toks) (ch:=[z,TO,i1,i2,TI]) hf (fun c u hc e=>?_) (C3 _) ⟨by show 2<=sizeLine;decide,[u1,u2],.cons r1 (.cons r2 .nil),?_⟩,rfl,⟨_,xs,ys,x,y,e1,e2,hx,hy,I.fresh,rfl,rfl⟩,
   ⟨c1,up _ _ a1 (b7 _ _ a1 a5 a6 a7 hTI),⟨_,_,up _ _ a2 b2⟩,b3.at fun o e=>up _ o a3 e,b4.at fun o e=>up _ o a4 e⟩,fun c hc=>by rw [A7 (nT c hc)];exact (hf c hc).1⟩
  .have q:c≠z/\c≠TO/\c≠i1/\c≠i2:=by
    refine ⟨fun q=>hc (by simp [q]),fun q=>hc (by simp [q]),fun q=>hc (by simp [q]),fun q=>hc (by simp [q])⟩
   exact up c u q.1 (b7 c u q.1 q.2.1 q.2.2.1 q.2.2.2 e)
  .exact ⟨_,hT,rfl,_,rfl⟩
 done:=by
  intro X hP hw hK hc i pins s Y H E I hf ⟨hz,hTI,⟨a,b,hTO⟩,h1,h2⟩ hg;subst hP hw hK;obtain ⟨xs,ys,e1,e2,iY⟩:=hg;obtain ⟨its1,X0,p1,_⟩:=I.list (D1.of (K:=X.K) e1);obtain ⟨its2,tW,p2,_⟩:=I.list (D1.of (K:=X.K) e2);have q1:=X0.length;have q2:=tW.length;have nl:∀ c∈[z,TO,i1,i2,TI],l1≠c/\l2≠c:=fun c hc=>⟨fun q=>(by rw [q,(hf c hc).1] at e1;cases e1),fun q=>(by rw [q,(hf c hc).1] at e2;cases e2)⟩
  have D:ZipApart z TI TO i1 i2 l1 l2:=⟨a1,a2,a3,a4,a5,a6,a7,a8,a9,a10,(nl z 'd').1,(nl TO 'd').1,(nl i1 'd').1,(nl i2 'd').1,(nl z 'd').2,(nl TO 'd').2,(nl i1 'd').2,(nl i2 'd').2⟩
  refine wpAny_pyNext_zip_end (I.ok.hd hc) D hz hTI hTO h1 h2 p1.isList p2.isList (by rcases iY with q | q <;> simp <;> lia) fun h' k=>⟨rfl,?_⟩
  refine I.step (h':=h') (t':=s.toks) (g':=s.gens) (d':=s.drawn) (ch:=[z,TO,i1,i2,TI]) (fun b hb=>?_) (fun b u _ _ hc e _=>?_) (fun b u _ _ hc e _=>⟨u.slots,?_⟩) (fun b u _ e n=>n)
   (fun b u hc e=>⟨u,?_⟩) (fun b xs e=>e) (fun b ob u e=>e) (fun b ps e=>⟨#[],by rw [e];simp⟩) (fun m hm=>?_) (fun b u e=>?_) I.bare
  .obtain ⟨f0,f1,f2,f3,f4,f5⟩:=hf b hb;exact ⟨f3,f1,f4,f5⟩
  .exact k b u (fun q=>hc (by simp [q])) (fun q=>hc (by simp [q])) (fun q=>hc (by simp [q])) (fun q=>hc (by simp [q])) e
  .exact k b u (fun q=>hc (by simp [q])) (fun q=>hc (by simp [q])) (fun q=>hc (by simp [q])) (fun q=>hc (by simp [q])) e
  .exact k b u (fun q=>hc (by simp [q])) (fun q=>hc (by simp [q])) (fun q=>hc (by simp [q])) (fun q=>hc (by simp [q])) e
  .obtain ⟨ob,es,ep,ho,r⟩:=hm;have nL:∀ c∈[z,TO,i1,i2,TI],X.env.locals≠c:=fun c hc q=>(hf c hc).2.1 q.symm
   exact ⟨ob,es,ep,k _ ob (nL z 'd') (nL TO 'd') (nL i1 'd') (nL i2 'd') ho,r⟩
  .have nch:∀ b u,H b=some u->∀ c∈[z,TO,i1,i2,TI],b≠c:=fun b u e c hc q=>by rw [q,(hf c hc).1] at e;cases e
   refine (I.hok b u e).stay (fun c v hc q=>?_) (fun c q=>q) fun c xs q=>q
   have:∀ d∈[z,TO,i1,i2,TI],c≠d:=by
    rcases hc with z | z
    .rw [z];exact nch b u e
    .exact nch c _ z
   exact k c v (this z 'd') (this TO 'd') (this i1 'd') (this i2 'd') q
 self:=fun _ _ _ _ _ st h=>wpAny_pyIter_zip st.1 h
section
variable {X:Cx}
noncomputable def iZip (ta:TA):TI:=fun Y H R=>ta Y H fun vs H1=>∃ (l1 l2:Addr) (xs ys:List V),vs=[.ref l1,.ref l2]/\H1 l1=some (.lst xs)/\H1 l2=some (.lst ys)/\R (rO l1 l2) H1
theorem arv{a b:Expr}{p pos:Pos}(hg:Gl X "zip")(hm:X.mg "zip"=none)(ha:PA X [a,b] ta)(h1:L7 a=false:=by rfl)(h2:L7 b=false:=by rfl) :
  PI X (.Tuple elts x1 tpos) (.Call (.Name "zip" p) [a,b] [] pos) (iZip ta):=by
 intro pins s Y H R I h;refine Call_ (aN I hg hm boot_zip (PyProof.Rows.callWith_type1 (B1 (ha pos pins s Y H _ I h) fun us s1 ⟨vs,H1,I1,r1,q1⟩=>?_) (O0 h1) (by rw [O0 h2];rfl)));obtain ⟨l1,l2,xs,ys,rfl,e1,e2,q⟩:=q1;obtain ⟨u1,u2,rfl,iZ,ru2⟩:=vals2 r1
 cases iZ
 cases ru2
 obtain ⟨its1,X0,p1,_⟩:=I1.list (D1.of (K:=X.K) e1);obtain ⟨its2,tW,p2,_⟩:=I1.list (D1.of (K:=X.K) e2);refine call_zip_2 p1.isList p2.isList fun h' z1 z2 z3 z4 z5 z6 z7=>wpAny_pyIter_zip z1 ?_
 refine ⟨s1.heap.objs.size+4,[s1.heap.objs.size+4,s1.heap.objs.size+3,s1.heap.objs.size,s1.heap.objs.size+1,s1.heap.objs.size+2],_,_,H1,rfl,I1.kept (t':=s1.toks) z7,
  al9 _ (s1.heap.objs.size+2) (s1.heap.objs.size+3) s1.heap.objs.size (s1.heap.objs.size+1) l1 l2 (t4 'a') (t4 'a') (t4 'a') (t4 'a') (t4 'a') (t4 'a') (t4 'a') (t4 'a') (t4 'a') (t4 'a'),⟨z1,z2,⟨_,_,z3⟩,z4,z5⟩,fun b hb=>?_,q⟩
 have Z9:s1.heap.objs.size<=b:=by
  have e:b=s1.heap.objs.size+4\/b=s1.heap.objs.size+3\/b=s1.heap.objs.size\/b=s1.heap.objs.size+1\/b=s1.heap.objs.size+2:=by simpa using hb
  rcases e with rfl | rfl | rfl | rfl | rfl
  .exact eL _ _
  .exact eL _ _
  .exact C3 _
  .exact eL _ _
  .exact eL _ _
 exact I1.fpOk Z9 (I1.hok.fresh Z9)
theorem arw{a b:Expr}{p pos:Pos}(hm:X.mg "zip"=none)(ha:QA X [a,b] ta)(hg:Gl X "zip":=by rfl)(h1:L7 a=false:=by rfl)(h2:L7 b=false:=by rfl) :
  QI X (.Tuple elts x1 tpos) (.Call (.Name "zip" p) [a,b] [] pos) (iZip ta):=⟨arv hg hm ha.out h1 h2⟩
end
theorem aoK{R:It->Hp->Prop} : iZip ta Y H R=ta Y H fun vs H1=>∃ (l1 l2:Addr) (xs ys:List V),vs=[.ref l1,.ref l2]/\H1 l1=some (.lst xs)/\H1 l2=some (.lst ys)/\R (rO l1 l2) H1:=rfl
theorem forZ{l1 l2:Addr}(Pv:Nat->St->Hp->Prop)(h0:Pv 0 Y H)(hl:∀ i Y H,Pv i Y H->H l1=some (.lst xs)/\H l2=some (.lst ys))(hs:∀ i x y t Y H,xs[i]?=some x->ys[i]?=some y->Pv i Y H->H t=none->g (.ref t) Y (A0 H t (.tup [x,y])) fun σ2 H2=>tb { D with nx:=Pv (i+1),ct:=Pv (i+1),bk:=D.nx } σ2 H2)(hd:∀ Y H,Pv (min xs.length ys.length) Y H->D.nx Y H):ForIt (rO l1 l2) g tb D Y H:=by
 refine ⟨fun i m Y H=>m=min xs.length ys.length-i/\i<=min xs.length ys.length/\Pv i Y H,⟨min xs.length ys.length,by simp,F7 _,h0⟩,?_⟩;rintro i m Y H ⟨rfl,hi,p⟩;obtain ⟨e1,e2⟩:=hl i Y H p
 by_cases C4:i<min xs.length ys.length
 .refine .inr ⟨⟨xs,ys,xs[i]'(by lia),ys[i]'(by lia),e1,e2,by simp,by simp⟩,Pv (i+1),fun σ' H' p'=>⟨_,by lia,rfl,C4,p'⟩,fun v H' y=>?_⟩;obtain ⟨t,xs',ys',x,y',f1,f2,hx,hy,ht,rfl,rfl⟩:=y;rw [e1] at f1;cases f1;rw [e2] at f2;cases f2;exact hs i x y' t Y H hx hy p ht
 .have e:i=min xs.length ys.length:=by lia
  subst e;exact .inl ⟨⟨xs,ys,e1,e2,by lia⟩,hd Y H p⟩
noncomputable def Itr3 (lo st:Int) (n:Nat):It:=⟨fun i _=>i<n,fun i H x H'=>H'=H/\x=.int (lo+i*st),fun i _=>n<=i⟩
theorem afe:∀ {vs:List Value} {zs:List Str},StrsAre vs zs->∀ {j:Nat} {z:Str},zs[j]?=some z->∃ t,vs[j]?=some (.str z t)
 | _,_,.nil,_,_,h=>by simp at h
 | _,_,.cons _ _ _,0,_,h=>by simp at h;subst h;exact ⟨_,rfl⟩
 | _,_,.cons _ _ r,j+1,z,h=>by
  obtain ⟨t,q⟩:=afe r (j:=j) (z:=z) (by simpa using h);exact ⟨t,by simpa using q⟩
theorem ago{α β:Type}(f:α->β):∀ (l:List α) (i:Nat),(l.eraseIdx i).map f=(l.map f).eraseIdx i
 | [],_=>rfl
 | _::_,0=>rfl
 | x::l,i+1=>by
  show f x::(l.eraseIdx i).map f=f x::(l.map f).eraseIdx i;rw [ago f l i]
noncomputable def wR (td ty tx:TE):TE:=fun Y H Q=>td Y H fun x H1=>∃ a,x=.ref a/\gW H1 a/\ty Y H1 fun y H2=>tx Y H2 fun z H3=>∃ kvs k,H3 a=some (.dK kvs)/\kvs.length<sizeLine/\y=kV k/\
 (∀ v,valV kvs k=some v->Q v H3)/\(valV kvs k=none->Q z (A0 H3 a (.dK (putK kvs k z))))
section
variable {X:Cx} {o e f:Expr} {apos cpos:Pos} {td ty tx:TE} {pins:List (Addr×Obj)} {Y:St} {H:Hp} {s:Shared} {a:Addr} {A:Around} {E:Value->Shared->Prop}
theorem arx{k:B5}{z:V}{r:Value}{Q:Value->Shared->Prop}(I:Inv X pins Y H s)(e:H a=some (.dK kvs))(hl:kvs.length<sizeLine)(ry:RelV (kV k) u)(rz:RelV z r)(h1:∀ v w' s',valV kvs k=some v->Inv X pins Y H s'->RelV v w'->Q w' s')(h2:∀ s',valV kvs k=none->Inv X pins Y (A0 H a (.dK (putK kvs k z))) s'->Q r s') :
  wpAny 'b' A (call (.builtin "dict.setdefault") [.ref a,u,r]) Q E s:=by
 obtain ⟨hz,hd,vs,rel,dd⟩:=dk_of I.hok e;have A9:=rel.length;refine call_meetsIn PySem.F.slot_dict_setdefault dd.typeIs PySem.F.entry_dict_setdefault (PySem.F.args_dict_setdefault_3 _ _ _) (kt_meets_setdefault (N3 X.prog X.w) a (kV_is ry) hd r) ⟨vs,dd,by lia,fun v hv=>?_,fun hn h' hm hs=>?_⟩
 .have:=rel.val k
  rw [hv] at this;cases jA:valV kvs k with
  | none=>rw [jA] at this;exact this.elim
  | some x=>rw [jA] at this;exact h1 x v _ jA (I.tok _) this
 .have:=rel.val k
  rw [hn] at this;cases jA:valV kvs k with
  | some x=>rw [jA] at this;exact this.elim
  | none=>
   have Y5:(putK kvs k z).length<=sizeLine:=by rw [alE z jA,D9,Y8];lia
   obtain ⟨ob,_,_,ho,_⟩:=id hm;exact h2 _ jA (rA (t':=s.toks+1) I (by rw [e];exact trivial) hs ⟨ob,ho⟩ (vT Y5 hd (rel.put k rz) hm))
theorem ama(ho:PE X o td)(he:PE X e ty)(hf:PE X f tx)(m:M2 X o "setdefault" apos e f cpos):PE X (.Call (.Attribute o "setdefault" apos) [e,f] [] cpos) (wR td ty tx):=by
 sleep 1;refine wpAny_Call_method m.base m.few m.line PySem.F.plainAttrs_dict PySem.F.slot_dict_setdefault PySem.F.type_dict_setdefault (B1 (ho pins s Y H _ I h) fun u s1 ⟨x,H1,I1,rx,a,ex,d,q1⟩=>?_);subst ex;obtain rfl:u=Value.ref a:=rx;obtain ⟨t1,t2,_⟩:=vW I1 d;refine ⟨t1,t2,?_⟩;rw [m.trees];refine Calls.callWith_builtin rfl (Calls.evalArgs_plain (Calls.spliced_cons (B1 (he pins s1 Y H1 _ I1 q1) fun iv s2 ⟨y,H2,I2,ry,q2⟩=>
  Calls.spliced_cons (B1 (hf pins s2 Y H2 _ I2 q2) fun fv s3 ⟨z,H3,I3,rz,kvs,k,e3,hl,ey,q3,q4⟩=>Calls.spliced_nil ?_))))
 subst ey;exact arx I3 e3 hl ry rz (fun v w' s4 hv I4 rw'=>⟨v,H3,I4,rw',q3 v hv⟩) fun s4 hn I4=>⟨z,_,I4,rz,q4 hn⟩
theorem amb(ho:QE X o td)(he:QE X e ty)(hf:QE X f tx)(h1:L7 e=false:=by rfl)(h2:L7 f=false:=by rfl)(G1:attributeBase o "setdefault" X.env (eval o X.env)=eval o X.env:=by rfl)(G2:(apos.endLine==cpos.line)=true:=by rfl):QE X (.Call (.Attribute o "setdefault" apos) [e,f] [] cpos) (wR td ty tx):=
 ⟨ama ho.out he.out hf.out ⟨G1,by rw [O0 h1,O0 h2];rfl,G2,by rw [O0 h1,O0 h2];rfl⟩⟩
theorem amc:wR td ty tx Y H Q=td Y H fun x H1=>∃ a,x=.ref a/\gW H1 a/\ty Y H1 fun y H2=>tx Y H2 fun z H3=>∃ kvs k,H3 a=some (.dK kvs)/\kvs.length<sizeLine/\y=kV k/\
 (∀ v,valV kvs k=some v->Q v H3)/\(valV kvs k=none->Q z (A0 H3 a (.dK (putK kvs k z)))):=rfl
end
section
variable {X:Cx} {tg:Expr}
noncomputable def rsz (i j k:Int):Nat:=(if i<j then (j-i-1) / k+1 else 0).toNat
noncomputable def iRng3 (ta:TA):TI:=fun Y H R=>ta Y H fun vs H1=>∃ i j k:Int,vs=[.int i,.int j,.int k]/\(-(2 ^ 60)<=i/\i<2 ^ 60/\-(2 ^ 60)<=j/\j<2 ^ 60/\0<k/\k<1000000)/\R (Itr3 i k (rsz i j k)) H1
end
theorem amd{R:It->Hp->Prop} : iRng3 ta Y H R=ta Y H fun vs H1=>∃ i j k:Int,vs=[.int i,.int j,.int k]/\(-(2 ^ 60)<=i/\i<2 ^ 60/\-(2 ^ 60)<=j/\j<2 ^ 60/\0<k/\k<1000000)/\R (Itr3 i k (rsz i j k)) H1:=rfl
section
variable {X:Cx} {pins:List (Addr×Obj)} {Y:St} {H:Hp} {s:Shared} {a:Addr}
theorem Inv.swap{u u':HO}(I:Inv X pins Y H s)(e:H a=some u)(n1:∀ xs,u≠.tup xs)(n2:∀ x,u≠.own x)(n3:∀ ps,u≠.tbl ps)(n4:∀ o v,X.H₀ a≠some (.frz o v))(new:ObjOk X.prog X.w H s.heap a u'):Inv X pins Y (A0 H a u') s:=by
 have ne:∀ b,H b=none->b≠a:=fun b h q=>by rw [q,e] at h;cases h
 have own:∀ c x,H c=some (.own x)->A0 H a u' c=some (.own x):=fun c x q=>by
  rw [A7 (fun z=>by rw [z,e] at q;exact n2 x (Option.some.inj q))];exact q
 have tup:∀ c xs,H c=some (.tup xs)->A0 H a u' c=some (.tup xs):=fun c x q=>by
  rw [A7 (fun z=>by rw [z,e] at q;exact n1 x (Option.some.inj q))];exact q
 refine ⟨I.ok,I.os,I.bare,⟨I.base.keep,I.base.slot,fun b o h1 h2 h3=>?_,I.base.there,fun b xs h=>tup b xs (I.base.tups b xs h),fun b o v h=>?_,fun b ps h=>?_⟩,I.loc,I.cell,?_,fun x c h=>?_,fun p hp=>?_,fun b v h=>?_,I.len⟩
 .have:=I.base.free b o h1 h2 h3
  rw [A7 (ne b this)];exact this
 .rw [A7 (fun z=>n4 o v (by rw [<- z];exact h))];exact I.base.frzs b o v h
 .obtain ⟨m,q⟩:=I.base.tbls b ps h;exact ⟨m,by rw [A7 (fun z=>by rw [z,e] at q;exact n3 _ (Option.some.inj q))];exact q⟩
 .rw [A7 (ne _ I.free)];exact I.free
 .rw [A7 (ne _ (I.freeC x c h))];exact I.freeC x c h
 .obtain ⟨h1,h2,h3⟩:=I.pin p hp;exact ⟨h1,by rw [A7 (ne _ h2)];exact h2,h3⟩
 .by_cases hb:b=a
  .subst hb;rw [A3] at h;cases h;exact new.stay (fun _ _ _ q=>q) (fun c q=>own c _ q) fun c xs q=>tup c xs q
  .rw [A7 hb] at h;exact (I.hok b v h).stay (fun _ _ _ q=>q) (fun c q=>own c _ q) fun c xs q=>tup c xs q
end
noncomputable def nR (a:Addr) (o:Obj) (kvs:List (B5×V)):It:=
 ⟨fun i H=>H a=some (.frz o (.dK kvs))/\i<kvs.length,fun i H x H'=>H'=H/\∃ k v,kvs[i]?=some (k,v)/\x=kV k,fun i H=>H a=some (.frz o (.dK kvs))/\kvs.length<=i⟩
theorem akg{P:Program}{w:World}(a it:Addr)(o:Obj)(kvs:List (B5×V))(vs:List (B5×Value))(ep:Nat)(V8:∀ h:Heap,h.get? a=some o->h.DictAt (N3 P w) a vs ep)(rel:KV kvs vs):Turn P w K tg (nR a o kvs) [it] it (fun i h=>h.IsKeyIter it a i vs.length ep) where
 mem:=by simp
 obj:=fun i h st b hb=>by
  have e:b=it:=by simpa using hb
  subst e;obtain ⟨o,e,c,d⟩:=st;exact ⟨o,e,fun v z=>by rw [d] at z;cases z⟩
 keep:=fun i h h' st k=>st.at fun o e=>k it 'd' o e
 item:=by
  intro X hP hw hK hc i pins s Y H E I hf st hg;subst hP hw hK;obtain ⟨f0,f1,f2,f3,f4,f5⟩:=hf it 'd';obtain ⟨hga,pR⟩:=hg;have hd:=V8 s.heap (I.hok a _ hga).1;have pS:i<vs.length:=by rw [<- rel.length];exact pR
  refine wpAny_pyNext_dict_item st hd (k:=vs[i].1) (v:=vs[i].2) (by rw [L1 pS]) fun key h' m6 pT tX=>?_
  have I1:Inv X pins Y H { s with heap:=h' }:=I.turned (t':=s.toks) (fun b o hb e=>(tX.2 b hb).trans e) f0 f1 f3 f4 f5;obtain ⟨oi,e,c,d⟩:=id pT;have hk:kvs[i].1=vs[i].1:=by
   have:=congrArg (·[i]?) rel.keys
   simpa [pR,pS] using this
  have rk:RelV (kV kvs[i].1) key:=by
   rw [hk];have m6:keyIs vs[i].1 key=true:=m6;generalize vs[i].1=kk at m6
   rcases v6 m6 with ⟨j,t,rfl,rfl⟩ | ⟨x,t,rfl,rfl⟩
   .exact ⟨t,rfl⟩
   .exact ⟨t,rfl⟩
  exact ⟨key,rfl,go_of (s:={ s with heap:=h' }) e c d 'h' ⟨kV kvs[i].1,H,I1,rk,⟨rfl,kvs[i].1,kvs[i].2,by rw [L1 pR],rfl⟩,pT,fun b hb=>(hf b hb).1⟩⟩
 done:=by
  intro X hP hw hK hc i pins s Y H E I hf st hg;subst hP hw hK;obtain ⟨f0,f1,f2,f3,f4,f5⟩:=hf it 'd';obtain ⟨hga,pR⟩:=hg;have hd:=V8 s.heap (I.hok a _ hga).1;exact wpAny_pyNext_dict_end (I.ok.hd hc) st hd (by rw [List.getElem?_eq_none_iff,<- rel.length];exact pR) fun h' eb=>⟨rfl,I.turned (t':=s.toks) (fun b o hb e=>eb b o hb e) f0 f1 f3 f4 f5⟩
 self:=fun _ _ _ _ _ st h=>wpAny_pyIter_keyiter st h
noncomputable def Ends.thaw (D:Ends) (a:Addr) (kvs:List (B5×V)):Ends where
 nx:=fun Y H=>(∃ o,H a=some (.frz o (.dK kvs)))/\D.nx Y (A0 H a (.dK kvs))
 rt:=fun v H=>(∃ o,H a=some (.frz o (.dK kvs)))/\D.rt v (A0 H a (.dK kvs))
noncomputable def tForD (tl:TE) (g:TG) (tb:TS):TS:=fun D Y H=>tl Y H fun x H1=>∃ a kvs,x=.ref a/\H1 a=some (.dK kvs)/\∀ o,ForIt (nR a o kvs) g tb (D.thaw a kvs) Y (A0 H1 a (.frz o (.dK kvs)))
theorem aoL{l:Expr}{body:List Stmt}{pos:Pos}(hp:PassesOwn 'b' X.A X.env X.xe)(hc:X.calm=true)(hl:PE X l tl)(hg:PG X tg g)(hb:Z3 X body tb)(hs:∀ x,foldedSetIterable l X.env x=pure x):PS X (.For tg l body [] pos) (tForD tl g tb):=by
 intro pins s Y H D I h;refine wpAny_For (B1 (hl pins s Y H _ I h) fun v s1 ⟨x,H1,I1,r1,q1⟩=>?_) hs;obtain ⟨a,kvs,rfl,e,q⟩:=q1
 cases r1
 obtain ⟨z,hd,vs,rel,dd⟩:=dk_of I1.hok e;obtain ⟨ep,V8⟩:=dd.dictAt;obtain ⟨o,es,ho,i7⟩:=id V8;refine wpAny_pyIter_dict hd V8 ?_;have NF:∀ o' v',X.H₀ a≠some (.frz o' v'):=fun o' v' z=>by
  have:=I1.base.frzs _ _ _ z
  rw [e] at this;cases this
 have I1':Inv X pins Y H1 { s1 with heap:=s1.heap.push { cls:=.type "dict_keyiterator",data:=.fields #[.ref a,.int 0 0,.int vs.length 0,.int ep 0] } }:=I1.kept (t':=s1.toks) fun b u e=>Heap.get?_push_of_some _ e
 have I2:=I1'.swap (u':=.frz o (.dK kvs)) e (fun _ q=>by cases q) (fun _ q=>by cases q) (fun _ q=>by cases q) NF ⟨Heap.get?_push_of_some _ ho,I1'.hok a _ e⟩;have thaw:∀ {σ':St} {H':Hp} {s':Shared},Inv X pins σ' H' s'->(∃ o,H' a=some (.frz o (.dK kvs)))->Inv X pins σ' (A0 H' a (.dK kvs)) s':=fun {σ' H' s'} I' ⟨o',e'⟩=>
  I'.swap e' (fun _ q=>by cases q) (fun _ q=>by cases q) (fun _ q=>by cases q) NF (I'.hok a _ e').2
 have T:Turn X.prog X.w X.K tg (nR a o kvs) [s1.heap.objs.size] s1.heap.objs.size (fun i h=>h.IsKeyIter s1.heap.objs.size a i vs.length ep):=akg a _ o kvs vs ep (fun h e=>⟨o,es,e,i7⟩) rel;have n9:A0 H1 a (.frz o (.dK kvs)) s1.heap.objs.size=none:=by rw [A7 (fun q=>by rw [<- q,I1.fresh] at e;cases e)];exact I1.fresh
 have f2:∀ b∈[s1.heap.objs.size],FpOk X pins (A0 H1 a (.frz o (.dK kvs))) b:=fun b hb=>by
  have e:b=s1.heap.objs.size:=by simpa using hb
  subst e;exact I1.fpOk (C3 _) n9
 obtain ⟨W,⟨m0,w0⟩,turn⟩:=q o;have stat:∀ {H':Hp},(∀ b∈[s1.heap.objs.size],H' b=none)->∀ b∈[s1.heap.objs.size],FpOk X pins H' b:=fun hn b hb=>⟨hn b hb,(f2 b hb).2⟩
 refine codeAny_forLoop_any (fun n s'=>∃ i σ' H',Inv X pins σ' H' s'/\s'.heap.IsKeyIter s1.heap.objs.size a i vs.length ep/\(∀ b∈[s1.heap.objs.size],H' b=none)/\W i n σ' H') ?_ m0 ⟨0,Y,_,I2,⟨_,Heap.get?_push_size _ rfl,rfl,rfl⟩,fun b hb=>(f2 b hb).1,w0⟩;rintro n s3 ⟨i,σ3,H3,I3,fN,pG,w3⟩
 rcases turn i n σ3 H3 w3 with ⟨stop,qn⟩ | ⟨go,N,hN,step⟩
 .refine wpAny_passesOwn hp (B1 (T.done X rfl rfl rfl hc i pins s3 σ3 H3 X.xe I3 (stat pG) fN stop) fun r s4 ⟨hr,I4⟩=>?_);subst hr;exact wpAny_execs_nil ⟨σ3,_,thaw I4 qn.1,qn.2⟩
 .refine wpAny_passesOwn hp (B1 (T.item X rfl rfl rfl hc i pins s3 σ3 H3 X.xe I3 (stat pG) fN go) fun r s4 ⟨u,hr,h4⟩=>?_);subst hr;refine wpAny_passesOwn hp (B1 h4 fun _ s5 ⟨x,H5,I5,r5,y5,iP,fr5⟩=>?_);have I5':=I5.pinned (stat fr5) (T.obj _ _ iP);refine wpAny_passesOwn hp (B1 (hg _ s5 σ3 H5 x u _ I5' r5 (step x H5 y5)) fun _ s6 ⟨σ6,H6,I6,q6⟩=>?_);refine wpAny_passesOwn hp (B1 (hb _ s6 σ6 H6 _ I6 q6) fun f s7 q7=>?_);have again:∀ {σ7:St} {H7:Hp},Inv X (pins++kD [s1.heap.objs.size] s5.heap) σ7 H7 s7->N σ7 H7->∃ m,m<n/\∃ i σ' H',Inv X pins σ' H' s7/\s7.heap.IsKeyIter s1.heap.objs.size a i vs.length ep/\(∀ b∈[s1.heap.objs.size],H' b=none)/\W i m σ' H':=fun {σ7 H7} I7 n7=>by
   obtain ⟨m',hm,w7⟩:=hN σ7 H7 n7;refine ⟨m',hm,i+1,σ7,H7,I7.unpinned,T.keep _ _ _ iP fun b hb o e=>(I7.pin (b,o) (N7 _ (N7 _ (kE hb e)))).1,fun b hb=>?_,w7⟩;obtain ⟨o,e,d⟩:=T.obj _ _ iP b hb;exact (I7.pin (b,o) (N7 _ (N7 _ (kE hb e)))).2.1
  cases f with
  | next=>obtain ⟨σ7,H7,I7,n7⟩:=q7;exact again I7 n7
  | cont=>obtain ⟨σ7,H7,I7,n7⟩:=q7;exact again I7 n7
  | brk=>obtain ⟨σ7,H7,I7,q7⟩:=q7;exact ⟨σ7,_,thaw I7.unpinned q7.1,q7.2⟩
  | ret v=>obtain ⟨x7,σ7,H7,I7,r7,q7⟩:=q7;exact ⟨x7,σ7,_,thaw I7.unpinned q7.1,r7,q7.2⟩
theorem wS{l:Expr}{body:List Stmt}{pos:Pos}(hp:PassesOwn 'b' X.A X.env X.xe)(hl:QE X l tl)(hg:QG X tg g)(hb:QSs X body tb)(hc:X.calm=true:=by rfl)(hs:∀ x,foldedSetIterable l X.env x=pure x:=by intro _;rfl):QS X (.For tg l body [] pos) (tForD tl g tb):=⟨aoL hp hc hl.out hg.out hb.out hs⟩
theorem aoM : tForD tl g tb D Y H=tl Y H fun x H1=>∃ a kvs,x=.ref a/\H1 a=some (.dK kvs)/\∀ o,ForIt (nR a o kvs) g tb (D.thaw a kvs) Y (A0 H1 a (.frz o (.dK kvs))):=rfl
theorem forD(Pv:Nat->St->Hp->Prop)(h0:Pv 0 Y H)(hl:∀ i Y H,Pv i Y H->H a=some (.frz o (.dK kvs)))(hs:∀ i k v Y H,kvs[i]?=some (k,v)->Pv i Y H->g (kV k) Y H fun σ2 H2=>tb { D.thaw a kvs with nx:=Pv (i+1),ct:=Pv (i+1),bk:=(D.thaw a kvs).nx } σ2 H2)(hd:∀ Y H,Pv kvs.length Y H->D.nx Y (A0 H a (.dK kvs))):ForIt (nR a o kvs) g tb (D.thaw a kvs) Y H:=by
 refine ⟨fun i m Y H=>m=kvs.length-i/\i<=kvs.length/\Pv i Y H,⟨kvs.length,by simp,F7 _,h0⟩,?_⟩;rintro i m Y H ⟨rfl,hi,p⟩;have e:=hl i Y H p
 by_cases C4:i<kvs.length
 .refine .inr ⟨⟨e,C4⟩,Pv (i+1),fun σ' H' p'=>⟨_,by lia,rfl,C4,p'⟩,fun v H' y=>?_⟩;obtain ⟨rfl,k,v',hk,rfl⟩:=y;exact hs i k v' Y _ hk p
 .have e2:i=kvs.length:=by lia
  subst e2;exact .inl ⟨⟨e,C3 _⟩,⟨o,e⟩,hd Y H p⟩
noncomputable def W5 (row:List Str):List (Str×Str):=row.zip row.tail
noncomputable def edges (rows:List (List Str)):List (Str×Str):=rows.flatMap W5
noncomputable def G0 (E:List (Str×Str)) (p:Str):List Str:=(E.filter fun e=>decide (e.1=p)).map (·.2)
noncomputable def cnt (E:List (Str×Str)) (line:List Str) (q:Str):Nat:=E.countP fun e=>decide (e.2=q) && !decide (e.1∈line)
noncomputable def cntIn (E:List (Str×Str)) (S:List Str) (q:Str):Nat:=E.countP fun e=>decide (e.2=q)&&decide (e.1∈S)
theorem ame(E:List (Str×Str))(a b p:Str):G0 (E++[(a,b)]) p=if a=p then G0 E p++[b] else G0 E p:=by
 unfold G0;rw [bZ,D0]
 by_cases h:a=p
 .rw [if_pos h,jQ (by simpa using h)];rfl
 .rw [if_neg h,jR (by simpa using h)];simp
theorem agp(E:List (Str×Str))(p q:Str):(G0 E p).count q=E.countP fun e=>decide (e.2=q)&&decide (e.1=p):=by
 induction E with
 | nil=>rfl
 | cons e E ih=>
  unfold G0 at ih ⊢
  by_cases h:e.1=p
  .rw [jQ (by simpa using h),F6,List.count_cons,ih,eF]
   by_cases h2:e.2=q
   .simp [h,h2]
   .simp [h,h2]
  .rw [jR (by simpa using h),ih,eF];simp [h]
theorem aiQ{E:List (Str×Str)}{S:List Str}{p:Str}(h:p∉S):cntIn E (S++[p]) q=cntIn E S q+(G0 E p).count q:=by
 rw [agp];unfold cntIn
 induction E with
 | nil=>rfl
 | cons e E ih=>
  rw [eF,eF,eF,ih]
  by_cases h2:e.2=q
  .by_cases h1:e.1=p
   .have:e.1∉S:=by rw [h1];exact h
    simp [h2,h1,h];lia
   .by_cases h3:e.1∈S
    .simp [h2,h1,h3];lia
    .simp [h2,h1,h3]
  .simp [h2]
theorem ah6{E:List (Str×Str)}{p:Str}(h:p∉line):cnt E line q=cnt E (line++[p]) q+(G0 E p).count q:=by
 rw [agp];unfold cnt
 induction E with
 | nil=>rfl
 | cons e E ih=>
  rw [eF,eF,eF,ih]
  by_cases h2:e.2=q
  .by_cases h1:e.1=p
   .simp [h2,h1,h];lia
   .by_cases h3:e.1∈line
    .simp [h2,h1,h3]
    .simp [h2,h1,h3];lia
  .simp [h2]
theorem akh{E:List (Str×Str)}{S:List Str}(h:∀ e∈E,e.1∈S)(q:Str):cntIn E S q=cnt E [] q:=by
 unfold cntIn cnt;refine List.countP_congr fun e he=>?_
 simp [h e he]
theorem aki(E:List (Str×Str))(q:Str):cntIn E [] q=0:=by
 unfold cntIn
 simp
theorem cnt_zero{E:List (Str×Str)} : cnt E line q=0↔∀ e∈E,e.2=q->e.1∈line:=by
 unfold cnt;rw [List.countP_eq_zero]
 constructor
 .intro h e he h2
  have:=h e he
  simpa [h2] using this
 .intro h e he
  by_cases h2:e.2=q
  .simp [h2,h e he h2]
  .simp [h2]
noncomputable def nextP (E:List (Str×Str)) (ts pre:List Str):Option Str:=(ts.filter fun p=>!decide (p∈pre)).find? fun p=>decide (cnt E pre p=0)
noncomputable def V3 (E:List (Str×Str)) (ts line:List Str):Prop:=∀ pre q post,line=pre++q::post->nextP E ts pre=some q
theorem V3.nil(E:List (Str×Str))(ts:List Str):V3 E ts []:=fun pre q post h=>by
 have:=congrArg c0 h
 simp at this
theorem V3.snoc{E:List (Str×Str)}{p:Str}(r:V3 E ts line)(h:nextP E ts line=some p):V3 E ts (line++[p]):=fun pre q post e=>by
 rcases List.append_eq_append_iff.mp e with ⟨m,h1,h2⟩ | ⟨m,h1,h2⟩
 .cases m with
  | nil=>
   rw [M8] at h1;rw [eG] at h2
   cases (List.cons.inj h2).1
   rw [h1];exact h
  | cons a m=>
   have:=congrArg c0 h2
   simp at this
 .cases m with
  | nil=>
   rw [M8] at h1;rw [eG] at h2
   cases (List.cons.inj h2).1
   rw [<- h1];exact h
  | cons a m=>
   rw [gL] at h2;have h3:=(List.cons.inj h2).1;exact r pre q m (by rw [h1,h3])
theorem kT{E:List (Str×Str)}{pre:List Str}(h:nextP E ts pre=some q):q∈ts/\q∉pre/\cnt E pre q=0:=by
 have h1:=List.mem_of_find?_eq_some h;have h2:=List.find?_some h;rw [X4] at h1;exact ⟨h1.1,by simpa using h1.2,by simpa using h2⟩
theorem V3.nodup{E:List (Str×Str)} : ∀ {line:List Str},V3 E ts line->line.Nodup:=by
 intro line r;rw [bW,eC];intro i j hi hj hij e;have e1:line=line.take j++line[j]::line.drop (j+1):=by rw [<- bX hj,j4]
 have:=(kT (r _ _ _ e1)).2.1
 exact this (j5.mpr ⟨i,by rw [G7];lia,by rw [List.getElem_take];exact e⟩)
theorem V3.sub{E:List (Str×Str)}(r:V3 E ts line)(h:q∈line):q∈ts:=by
 obtain ⟨pre,post,e⟩:=List.append_of_mem h;exact (kT (r pre q post e)).1
theorem amf{E:List (Str×Str)}{rank:Str->Nat}(hr:∀ e∈E,rank e.1<rank e.2)(hE:∀ e∈E,e.1∈ts)(hw:∃ p∈ts,p∉line):∃ q,nextP E ts line=some q:=by
 have key:∀ n p,rank p<=n->p∈ts->p∉line->∃ q∈ts,q∉line/\cnt E line q=0:=by
  intro n
  induction n with
  | zero=>
   intro p hp ht hl;refine ⟨p,ht,hl,cnt_zero.mpr fun e he h2=>?_⟩
   have:=hr e he
   rw [h2] at this;lia
  | succ n ih=>
   intro p hp ht hl
   by_cases hc:cnt E line p=0
   .exact ⟨p,ht,hl,hc⟩
   .have:∃ e∈E,e.2=p/\e.1∉line:=by
     refine Classical.byContradiction fun hn=>hc (cnt_zero.mpr fun e he h2=>Classical.byContradiction fun h3=>hn ⟨e,he,h2,h3⟩)
    obtain ⟨e,he,h2,h3⟩:=this;have h4:=hr e he;rw [h2] at h4;exact ih e.1 'a' (hE e he) h3
 obtain ⟨p,hp,hl⟩:=hw;obtain ⟨q,h1,h2,h3⟩:=key (rank p) p (C3 _) hp hl;cases h:nextP E ts line with
 | some q=>exact ⟨q,rfl⟩
 | none=>
  have:=aI.mp h q (X4.mpr ⟨h1,by simpa using h2⟩)
  simp [h3] at this
theorem rP{E:List (Str×Str)}(nd:ts.Nodup)(r:V3 E ts line)(h:∀ p∈ts,p∈line):line.length=ts.length:=
 ((List.perm_ext_iff_of_nodup r.nodup nd).mpr fun a=>⟨r.sub,h a⟩).length_eq
theorem aff(E:List (Str×Str))(pre:List Str):∀ ts:List Str,nextP E ts pre=ts.find? fun p=>!decide (p∈pre)&&decide (∀ e∈E,e.2=p->e.1∈pre)
 | []=>rfl
 | t::ts=>by
  have ih:=aff E pre ts;unfold nextP at ih ⊢
  by_cases h:t∈pre
  .rw [jR (by simpa using h),X5,ih];simp [h]
  .rw [jQ (by simpa using h),X5,X5,ih]
   by_cases h2:cnt E pre t=0
   .have:=cnt_zero.mp h2
    rw [decide_eq_true h2,decide_eq_true this];simp [h]
   .have:¬ ∀ e∈E,e.2=t->e.1∈pre:=fun z=>h2 (cnt_zero.mpr z)
    rw [decide_eq_false h2,decide_eq_false this];simp [h]
theorem aiR{row:List Str}{e:Str×Str}(h:e∈W5 row):e.1∈row/\e.2∈row:=by
 unfold W5 at h;exact ⟨(List.of_mem_zip h).1,List.mem_of_mem_tail (List.of_mem_zip h).2⟩
theorem agq{rows:List (List Str)}{e:Str×Str}(h:e∈edges rows):e.1∈rows.flatten/\e.2∈rows.flatten:=by
 unfold edges at h;obtain ⟨row,h1,h2⟩:=U8.mp h
 have:=aiR h2
 exact ⟨List.mem_flatten.mpr ⟨row,h1,this.1⟩,List.mem_flatten.mpr ⟨row,h1,this.2⟩⟩
noncomputable def C2 (ts:List Str) (f:Str->V):List (B5×V):=ts.map fun t=>(Sum.inr t,f t)
theorem wT(f:Str->V)(z:Str):∀ ts:List Str,((C2 ts f).any fun kv=>decide (kv.1=(Sum.inr z:B5)))=decide (z∈ts)
 | []=>by simp [C2]
 | y::ts=>by
  have ih:=wT f z ts;unfold C2 at ih ⊢
  rw [F6,aL,ih]
  by_cases e:y=z
  .subst e
   simp
  .have e1:decide ((Sum.inr y:B5)=Sum.inr z)=false:=decide_eq_false fun q=>e (Sum.inr.inj q)
   rw [e1,Bool.false_or]
   by_cases h:z∈ts
   .rw [decide_eq_true h,decide_eq_true (O7 _ h)]
   .rw [decide_eq_false h,decide_eq_false];intro q
    rcases L4.mp q with q | q
    .exact e q.symm
    .exact h q
theorem Q5(f:Str->V)(z:Str):∀ ts:List Str,valV (C2 ts f) (Sum.inr z)=if z∈ts then some (f z) else none
 | []=>rfl
 | y::ts=>by
  have ih:=Q5 f z ts;unfold C2 at ih ⊢
  rw [F6]
  by_cases e:y=z
  .subst e;rw [qZ rfl,if_pos N2]
  .rw [cH (fun q=>e (Sum.inr.inj q)),ih]
   by_cases h:z∈ts
   .rw [if_pos h,if_pos (O7 _ h)]
   .rw [if_neg h,if_neg];intro q
    rcases L4.mp q with q | q
    .exact e q.symm
    .exact h q
theorem nS{f:Str->V}(v:V)(h:z∈ts):putK (C2 ts f) (Sum.inr z:B5) v=C2 ts fun t=>if t=z then v else f t:=by
 unfold putK;rw [wT,decide_eq_true h,if_pos rfl];unfold C2;rw [R3];refine jU fun y _=>?_
 show (if (Sum.inr y:B5)=Sum.inr z then ((Sum.inr y:B5),v) else (Sum.inr y,f y))=((Sum.inr y:B5),if y=z then v else f y)
 by_cases e:y=z
 .rw [if_pos (by rw [e]),if_pos e]
 .rw [if_neg (fun q=>e (Sum.inr.inj q)),if_neg e]
theorem fA{f:Str->V}(v:V)(h:z∉ts):putK (C2 ts f) (Sum.inr z:B5) v=C2 (ts++[z]) fun t=>if t=z then v else f t:=by
 unfold putK;rw [wT,decide_eq_false h,if_neg L9];unfold C2;rw [D0]
 congr 1
 .refine jU fun y hy=>?_
  show _=((Sum.inr y:B5),if y=z then v else f y);rw [if_neg (fun e:y=z=>h (by rw [<- e];exact hy))]
 .simp
theorem V4{f g:Str->V}(h:∀ t∈ts,f t=g t):C2 ts f=C2 ts g:=by
 unfold C2;exact jU fun t ht=>by rw [h t ht]
theorem k8(f:Str->V)(ts:List Str):(C2 ts f).length=ts.length:=by unfold C2;rw [A6]
theorem am4{f:Str->V}{k:B5}(h:(C2 ts f)[i]?=some (k,v)):∃ t,ts[i]?=some t/\k=Sum.inr t/\v=f t:=by
 unfold C2 at h;obtain ⟨t,h1,h2⟩:=G5 h;cases h2;exact ⟨t,h1,rfl,rfl⟩
theorem amg(f:Str->V)(ts:List Str):((C2 ts f).map fun kv=>kV kv.1)=ts.map V.str:=by
 unfold C2;rw [R3];rfl
structure DL(H0 H:Hp)(ts:List Str)(ad:Str->Addr)(F:Str->List Str):Prop where
 row:∀ t∈ts,H (ad t)=some (.lst ((F t).map V.str))
 inj:∀ t∈ts,∀ u∈ts,ad t=ad u->t=u
 new:∀ t∈ts,H0 (ad t)=none
theorem DL.same{ad:Str->Addr}{F:Str->List Str}(x:DL H0 H ts ad F)(s:Same H H'):DL H0 H' ts ad F:=⟨fun t h=>s _ _ (x.row t h),x.inj,x.new⟩
theorem DL.app{ad:Str->Addr}{F:Str->List Str}(x:DL H0 H ts ad F)(hz:z∈ts)(ys:List Str):DL H0 (A0 H (ad z) (.lst (ys.map V.str))) ts ad fun t=>if t=z then ys else F t:=by
 refine ⟨fun t ht=>?_,x.inj,x.new⟩;show _=some (HO.lst ((if t=z then ys else F t).map V.str))
 by_cases e:t=z
 .subst e;rw [A3,if_pos rfl]
 .rw [A7 (fun q=>e (x.inj t ht z hz q)),if_neg e];exact x.row t ht
theorem DL.more{ad:Str->Addr}{F:Str->List Str}(x:DL H0 H ts ad F)(hz:z∉ts)(np:H p=none)(n0:H0 p=none):DL H0 (A0 H p (.lst [])) (ts++[z]) (fun t=>if t=z then p else ad t) fun t=>if t=z then [] else F t:=by
 have ne:∀ t∈ts,t≠z:=fun t ht e=>hz (by rw [<- e];exact ht)
 have nad:∀ t∈ts,ad t≠p:=fun t ht e=>by have:=x.row t ht;rw [e,np] at this;cases this
 have cases':∀ t,t∈ts++[z]->(t∈ts/\t≠z)\/t=z:=fun t ht=>by
  rcases G3.mp ht with h | h
  .exact .inl ⟨h,ne t h⟩
  .exact .inr (E7.mp h)
 refine ⟨fun t ht=>?_,fun t ht u hu e=>?_,fun t ht=>?_⟩
 .show A0 H p (.lst []) (if t=z then p else ad t)=some (.lst ((if t=z then [] else F t).map V.str))
  rcases cases' t ht with ⟨h1,h2⟩ | rfl
  .rw [if_neg h2,if_neg h2,A7 (nad t h1)];exact x.row t h1
  .rw [if_pos rfl,if_pos rfl,A3];rfl
 .have e:(if t=z then p else ad t)=(if u=z then p else ad u):=e
  rcases cases' t ht with ⟨h1,h2⟩ | rfl <;> rcases cases' u hu with ⟨h3,h4⟩ | rfl
  .rw [if_neg h2,if_neg h4] at e;exact x.inj t h1 u h3 e
  .rw [if_neg h2,if_pos rfl] at e;exact absurd e (nad t h1)
  .rw [if_pos rfl,if_neg h4] at e;exact absurd e.symm (nad u h3)
  .rfl
 .show H0 (if t=z then p else ad t)=none
  rcases cases' t ht with ⟨h1,h2⟩ | rfl
  .rw [if_neg h2];exact x.new t h1
  .rw [if_pos rfl];exact n0
theorem amh(h:acc.Nodup)(z:Str):(dd acc z).Nodup:=by
 unfold dd
 split
 .exact h
 .rename_i hz
  rw [Y9];refine ⟨h,by simp,fun a ha b hb e=>hz ?_⟩;rw [<- E7.mp hb,<- e];exact ha
theorem wU:∀ {zs acc:List Str},acc.Nodup->(K8 acc zs).Nodup
 | [],_,h=>h
 | z::zs,acc,h=>wU (zs:=zs) (amh h z)
theorem kU(zss:List (List Str)):(toldL zss).Nodup:=by
 unfold toldL;rw [rH];exact wU 'd'
theorem aW(x:Str):∀ (zs acc:List Str),x∈K8 acc zs↔x∈acc\/x∈zs
 | [],acc=>by simp [K8]
 | z::zs,acc=>by
  show x∈K8 (dd acc z) zs↔_;rw [aW x zs];unfold dd
  by_cases h:z∈acc
  .rw [if_pos h,L4]
   constructor
   .rintro (h1 | h1)
    .exact .inl h1
    .exact .inr (.inr h1)
   .rintro (h1 | rfl | h1)
    .exact .inl h1
    .exact .inl h
    .exact .inr h1
  .rw [if_neg h,G3,E7,L4,or_assoc]
theorem wV(x:Str)(zss:List (List Str)):x∈toldL zss↔x∈zss.flatten:=by
 unfold toldL;rw [rH,aW]
 simp
theorem aiS{zss:List (List Str)}{e:Str×Str}(h:e∈edges zss):e.1∈toldL zss/\e.2∈toldL zss:=⟨(wV _ _).mpr (agq h).1,(wV _ _).mpr (agq h).2⟩
theorem aiT{zss:List (List Str)}(h:zss[i]?=some zs):edges (zss.take (i+1))=edges (zss.take i)++W5 zs:=by
 rw [v4,h];unfold edges;rw [b9]
 simp
theorem wW(zs:List Str):(W5 zs).length=min zs.length zs.tail.length:=by unfold W5;rw [List.length_zip]
theorem agr{x:Str}(h1:zs[j]?=some x)(h2:zs.tail[j]?=some y):(W5 zs)[j]?=some (x,y):=by
 unfold W5;rw [List.getElem?_zip_eq_some];exact ⟨h1,h2⟩
theorem ags(zss:List (List Str)):(edges zss).length<=zss.flatten.length:=by
 induction zss with
 | nil=>exact C3 _
 | cons zs zss ih=>
  unfold edges at ih ⊢
  rw [o6,D9,jX,D9,wW];lia
theorem DL.put{ad:Str->Addr}{F:Str->List Str}(x:DL H0 H ts ad F){o u:HO}(hb:H0 b=some u):DL H0 (A0 H b o) ts ad F:=
 ⟨fun t ht=>by rw [A7 (fun e=>by have:=x.new t ht;rw [e,hb] at this;cases this)];exact x.row t ht,x.inj,x.new⟩
theorem DL.congr{ad:Str->Addr}{F G:Str->List Str}(x:DL H0 H ts ad F)(h:∀ t∈ts,F t=G t):DL H0 H ts ad G:=⟨fun t ht=>by rw [<- h t ht];exact x.row t ht,x.inj,x.new⟩
theorem DL.old{H00:Hp}{ad:Str->Addr}{F:Str->List Str}(x:DL H0 H ts ad F)(s:Same H00 H0):DL H00 H ts ad F:=⟨x.row,x.inj,fun t ht=>s.free (x.new t ht)⟩
theorem wX(nd:ts.Nodup)(h:ts[i]?=some z):z∉ts.take i:=fun hm=>by
 obtain ⟨hi,e⟩:=E5.mp h;obtain ⟨j,hj,e2⟩:=j5.mp hm;rw [G7] at hj;rw [List.getElem_take] at e2
 have:=(bW.mp nd)
 rw [eC] at this;exact this j i 'a' hi 'a' (e2.trans e.symm)
theorem M7{α:Type}{ts:List α}{z:α}(h:ts[i]?=some z):ts.take (i+1)=ts.take i++[z]:=by rw [v4,h];rfl
noncomputable def SameBut (d:Addr) (H H':Hp):Prop:=∀ b o,b≠d->H b=some o->H' b=some o
theorem SameBut.put{d q:Addr}{u:HO}(s:SameBut d H0 H)(n:H0 q=none):SameBut d H0 (A0 H q u):=fun b o hb h=>by rw [A7 (v7 h n)];exact s b o hb h
theorem SameBut.thaw{d:Addr}{u:HO}(s:SameBut d H0 H)(h:H0 d=some u):Same H0 (A0 H d u):=fun b o hb=>by
 by_cases e:b=d
 .subst e;rw [A3,<- hb,h]
 .rw [A7 e];exact s b o e hb
theorem RowsAt.grow{q:Addr}{zss:List (List Str)}(R:RowsAt H0 H a rs zss)(S:Same H H')(hq:H q=none)(iQ:H' q=some (.lst (zs.map V.str))):RowsAt H0 (A0 H' a (.lst (rs.map V.ref++[V.ref q]))) a (rs++[q]) (zss++[zs]):=by
 have nq:∀ r∈a::rs,r≠q:=fun r hr z=>by
  obtain ⟨o,e⟩:=R.live hr;rw [z,hq] at e;cases e
 obtain ⟨na,_⟩:=W0.mp R.nd;refine ⟨⟨by rw [A3,D0];rfl,?_⟩,?_,?_,?_⟩
 .refine Paired.snoc (rJ R.rows.row fun r hr zs h=>?_) ?_
  .rw [A7 (fun z:r=a=>na (by rw [<- z];exact hr))];exact S _ _ h
  .rw [A7 (nq a N2).symm];exact iQ
 .show (a::(rs++[q])).Nodup;exact vZ R.nd fun h=>nq q h rfl
 .intro r hr
  rcases L4.mp hr with h | h
  .exact R.new r (by rw [h];exact N2)
  .rcases G3.mp h with h | h
   .exact R.new r (O7 _ h)
   .rw [E7.mp h];exact R.same.free hq
 .exact (R.same.trans S).put (R.new a N2)
noncomputable def spFol:Sp:=fun vs H Q _=>∃ (a:Addr) (rs:List Addr) (zss:List (List Str)),vs=[.ref a]/\IsRows H a rs zss/\zss.flatten.length<=100000/\
 ∀ (d:Addr) (ad:Str->Addr) (H':Hp),H d=none->Same H H'->H' d=some (.dK (C2 (toldL zss) fun t=>.ref (ad t)))->DL H H' (toldL zss) ad (G0 (edges zss))->Q (.ref d) H'
noncomputable def akj:Sp:=fun vs H Q _=>∃ (d:Addr) (ts:List Str) (ad:Str->Addr) (E:List (Str×Str)),vs=[.ref d]/\H d=some (.dK (C2 ts fun t=>.ref (ad t)))/\ts.Nodup/\ts.length<=100000/\E.length<=100000/\
 (∀ t∈ts,H (ad t)=some (.lst ((G0 E t).map V.str)))/\(∀ e∈E,e.1∈ts/\e.2∈ts)/\∀ c H',H c=none->Same H H'->H' c=some (.dK (C2 ts fun t=>.int (cnt E [] t:Nat)))->Q (.ref c) H'
theorem agt:∀ {l m:List Str},l.Nodup->(∀ x∈l,x∈m)->l.length<=m.length
 | [],_,_,_=>F7 _
 | x::l,m,nd,h=>by
  obtain ⟨n1,n2⟩:=W0.mp nd;have hx:=h x N2
  have:=agt (l:=l) (m:=m.erase x) n2 fun y hy=>(List.mem_erase_of_ne (fun e=>n1 (by rw [<- e];exact hy))).mpr (h y (O7 _ hy))
  rw [qN hx] at this;have dF:=qO hx;rw [L3];lia
noncomputable def akk:Sp:=fun vs H Q _=>∃ (a:Addr) (rs:List Addr) (zss:List (List Str)) (rank:Str->Nat),vs=[.ref a]/\IsRows H a rs zss/\zss.flatten.length<=100000/\(∀ e∈edges zss,rank e.1<rank e.2)/\
 ∀ (l:Addr) (line:List Str) (H':Hp),H l=none->Same H H'->H' l=some (.lst (line.map V.str))->V3 (edges zss) (toldL zss) line->(∀ p∈toldL zss,p∈line)->Q (.ref l) H'
theorem SameBut.free{d:Addr}(s:SameBut d H0 H)(n:H p=none)(h:p≠d):H0 p=none:=by
 cases e:H0 p with
 | none=>rfl
 | some o=>
  have:=s p o h e
  rw [n] at this;cases this
theorem SameBut.same{d:Addr}(s:SameBut d H1 H2)(S:Same H H1)(n:H d=none):Same H H2:=fun b o h=>s b o (v7 h n) (S b o h)
theorem ual(d:Addr)(H:Hp):SameBut d H H:=fun _ _ _ h=>h
theorem SameBut.at{d:Addr}{o:HO}(s:SameBut d H H'):SameBut d H (A0 H' d o):=fun b u hb h=>by rw [A7 hb];exact s b u hb h
noncomputable def one (c:Nat):Str:=⟨#[c]⟩
noncomputable def two (c d:Nat):Str:=⟨#[c,d]⟩
theorem SG_nd:SG.Nodup:=by decide +kernel
section
variable {X:Cx}
noncomputable def rAnyB (calm:Bool):List V->Hp->VK->Prop
 | [.ref p],H,Q=>∃ bs:List Bool,calm=true/\H p=some (.lst (bs.map V.bl))/\Q (.bl (bs.any id)) H
 | _,_,_=>False
theorem p_any:CallR X (.builtin "any") (rAnyB X.calm):=by
 intro pins s Y H xs us Q I r h
 match xs,h with
 | [.ref p],⟨bs,hc,hp,q⟩=>
  obtain ⟨u,rfl,rx⟩:=vals1 r
  cases rx
  obtain ⟨z,its,n,rv,hl,e⟩:=I.lstM hp;have pl:s.heap.IsList p its.toArray:=⟨_,e,rfl,n,rfl⟩
  refine call_any_walk (wpAny_pyIter_list pl ?_);have G9:p≠s.heap.objs.size:=M5 (Heap.lt_size e);have hk:∀ b o,s.heap.get? b=some o->(s.heap.push { cls:=.type "list_iterator",data:=.fields #[.ref p,.int 0 0] }).get? b=some o:=fun b o q=>Heap.get?_push_of_some _ q
  refine ⟨_,_,_,_,_,_,fun i=>(bs[i]?).getD false,rfl,Walks.list (show X.A.in1.handled=none from I.ok.hd hc) s.heap.objs.size p G9 its.toArray,⟨⟨_,Heap.get?_push_size _ rfl,rfl,rfl⟩,pl.at fun o q=>hk p o q⟩,?_,?_⟩
  .intro i v s' Q' E' hv hq;have tR:its[i]?=some v:=by simpa using hv
   have hb:∃ b,bs[i]?=some b/\v=.bool b:=by
    cases eb:(bs.map V.bl)[i]? with
    | none=>
     have:=rv.none_of eb
     rw [tR] at this
     cases this
    | some y=>
     obtain ⟨u,h1,h2⟩:=rv.get eb;rw [tR] at h1;cases h1;rw [U4] at eb;cases e3:bs[i]? with
     | none=>rw [e3] at eb;cases eb
     | some b=>
      rw [e3] at eb;cases eb;exact ⟨b,rfl,h2⟩
   obtain ⟨b,e1,rfl⟩:=hb;have hq:Q' ((bs[i]?).getD false) s':=hq;rw [e1] at hq;exact wpAny_truthy_bool hq
  .intro h' tk pU;have e1:(U9 its.toArray.size).any (fun i=>(bs[i]?).getD false)=bs.any id:=by
    have A9:its.toArray.size=bs.length:=by
     rw [K9,<- hl,A6]
    rw [A9,gN,List.any_eq_true,List.any_eq_true]
    constructor
    .rintro ⟨i,hi,hb⟩;rw [j6] at hi;rw [L1 hi,Option.getD_some] at hb;exact ⟨bs[i],jY hi,hb⟩
    .rintro ⟨b,hb,ht⟩;obtain ⟨i,hi,rfl⟩:=j5.mp hb;exact ⟨i,j6.mpr hi,by rw [L1 hi];exact ht⟩
   rw [e1];have I1:Inv X pins Y H { s with heap:=h',toks:=tk }:=I.kept fun b o q=>pU b o (by
    intro hm
    have:b=s.heap.objs.size:=by simpa using hm
    rw [this] at q;exact absurd (Heap.lt_size q) (c9 _)) (hk b o q)
   exact ⟨.bl _,H,I1,rfl,q⟩
theorem q_any(pL:X.calm=calm:=by rfl):QCall X (.builtin "any") (rAnyB calm):=by subst pL;exact ⟨p_any⟩
theorem any_r{cm:Bool} : rAnyB cm [.ref p] H Q=∃ bs:List Bool,cm=true/\H p=some (.lst (bs.map V.bl))/\Q (.bl (bs.any id)) H:=rfl
end
noncomputable def nU (l : Addr) : It :=
  ⟨fun i H => ∃ xs x, H l = some (.lst xs) /\ xs[i]? = some x,
   fun i H v H' => ∃ t xs x, H l = some (.lst xs) /\ xs[i]? = some x /\ H t = none /\ v = .ref t /\ H' = A0 H t (.tup [.int i, x]),
   fun i H => ∃ xs, H l = some (.lst xs) /\ xs.length <= i⟩
theorem akl{P:Program}{w:World}{pos:Pos}(e it l:Addr)(G9:e≠it) :
  Turn P w K (.Tuple elts x1 pos) (nU l) [e,it] e (fun i h=>(∃ old,IsEnum h e it ((i:Nat):Int) old)/\h.IsListIter it l i) where
 mem:=by simp
 obj:=fun i h ⟨⟨old,he⟩,hi⟩ c hc=>by
  have q:c=e\/c=it:=by simpa using hc
  rcases q with rfl | rfl
  .exact ⟨_,he,fun v q=>by cases q⟩
  .obtain ⟨o,e,c,d⟩:=hi;exact ⟨o,e,fun v z=>by rw [d] at z;cases z⟩
 keep:=fun i h h' ⟨⟨old,he⟩,hi⟩ k=>⟨⟨old,k e 'd' _ he⟩,hi.at fun o q=>k it 'd' o q⟩
 item:=by
  intro X hP hw hK hc i pins s Y H E I hf ⟨⟨old,he⟩,hi⟩ hg;subst hP hw hK;obtain ⟨xs,x,e1,hx⟩:=hg;obtain ⟨its1,X0,p1,_⟩:=I.list (D1.of (K:=X.K) e1);obtain ⟨u1,B3,r1⟩:=X0.get hx;refine wpAny_pyNext_enum_item he hi p1.isList (x:=u1) (by simpa using B3) G9 fun h' b1 b2 b3 b4 b5=>⟨_,rfl,wpAny_letOwnedTupleGo_enum b1 fun h2' c1 c2=>?_⟩
  have i8:e<s.heap.objs.size:=Heap.lt_size he;have up:∀ c o,c≠e->h'.get? c=some o->h2'.get? c=some o:=fun c o hc q=>(c2.2 c hc).trans q
  have hT:=up _ _ (Nat.ne_of_gt i8) b3;have nT:∀ c∈[e,it],c≠s.heap.objs.size:=fun c hc=>by
   have q:c=e\/c=it:=by simpa using hc
   refine M5 ?_
   rcases q with rfl | rfl
   .exact i8
   .obtain ⟨o,q,_⟩:=hi;exact Heap.lt_size q
  refine ⟨.ref s.heap.objs.size,A0 H s.heap.objs.size (.tup [.int i,x]),I.turnNew (t':=s.toks+1) (ch:=[e,it]) hf (fun c u hc q=>?_) (C3 _) ⟨by show 2<=sizeLine;decide,[.int i s.toks,u1],.cons ⟨_,rfl⟩ (.cons r1 .nil),?_⟩,rfl,⟨_,xs,x,e1,hx,I.fresh,rfl,rfl⟩,
   ⟨⟨_,c1⟩,b2.at fun o q=>up _ o G9.symm q⟩,fun c hc=>by rw [A7 (nT c hc)];exact (hf c hc).1⟩
  .have q1:c≠e/\c≠it:=⟨fun q=>hc (by simp [q]),fun q=>hc (by simp [q])⟩
   exact up c u q1.1 (b5 c u q1.1 q1.2 q)
  .exact ⟨_,hT,rfl,_,rfl⟩
 done:=by
  intro X hP hw hK hc i pins s Y H E I hf ⟨⟨old,he⟩,hi⟩ hg;subst hP hw hK;obtain ⟨xs,e1,iY⟩:=hg;obtain ⟨its1,X0,p1,_⟩:=I.list (D1.of (K:=X.K) e1);have q1:=X0.length;obtain ⟨f0,f1,f2,f3,f4,f5⟩:=hf it 'd';exact wpAny_pyNext_enum_end (I.ok.hd hc) he hi p1.isList (by simp;lia) fun h' eb=>⟨rfl,I.turned (t':=s.toks) (fun b o hb q=>eb b o hb q) f0 f1 f3 f4 f5⟩
 self:=fun _ _ _ _ _ st h=>by
  obtain ⟨⟨old,he⟩,_⟩:=st;exact wpAny_pyIter_enum he h
section
variable {X:Cx}
noncomputable def iEnum (ta:TA):TI:=fun Y H R=>ta Y H fun vs H1=>∃ (l:Addr) (xs:List V),vs=[.ref l]/\H1 l=some (.lst xs)/\R (nU l) H1
theorem aoN{a:Expr}{p pos:Pos}(hg:Gl X "enumerate")(hm:X.mg "enumerate"=none)(ha:PA X [a] ta)(h1:L7 a=false:=by rfl) :
  PI X (.Tuple elts x1 tpos) (.Call (.Name "enumerate" p) [a] [] pos) (iEnum ta):=by
 intro pins s Y H R I h;refine Call_ (aN I hg hm boot_enumerate (PyProof.Rows.callWith_type1 (B1 (ha pos pins s Y H _ I h) fun us s1 ⟨vs,H1,I1,r1,q1⟩=>?_) (O0 h1) rfl));obtain ⟨l,xs,rfl,e1,q⟩:=q1;obtain ⟨u1,rfl,iZ⟩:=vals1 r1
 cases iZ
 obtain ⟨its1,X0,p1,_⟩:=I1.list (D1.of (K:=X.K) e1);refine call_enumerate_list p1.isList fun h' z1 z2 z3 z4=>wpAny_pyIter_enum z1 ?_
 refine ⟨s1.heap.objs.size+1,[s1.heap.objs.size+1,s1.heap.objs.size],_,_,H1,rfl,I1.kept (t':=s1.toks) z4,akl _ s1.heap.objs.size l (t4 'a'),⟨⟨_,z1⟩,z2⟩,fun b hb=>?_,q⟩;have Z9:s1.heap.objs.size<=b:=by
  have e:b=s1.heap.objs.size+1\/b=s1.heap.objs.size:=by simpa using hb
  rcases e with rfl | rfl
  .exact eL _ _
  .exact C3 _
 exact I1.fpOk Z9 (I1.hok.fresh Z9)
theorem wY{a:Expr}{p pos:Pos}(hm:X.mg "enumerate"=none)(ha:QA X [a] ta)(hg:Gl X "enumerate":=by rfl)(h1:L7 a=false:=by rfl) :
  QI X (.Tuple elts x1 tpos) (.Call (.Name "enumerate" p) [a] [] pos) (iEnum ta):=⟨aoN hg hm ha.out h1⟩
end
theorem ami{R:It->Hp->Prop} : iEnum ta Y H R=ta Y H fun vs H1=>∃ (l:Addr) (xs:List V),vs=[.ref l]/\H1 l=some (.lst xs)/\R (nU l) H1:=rfl
theorem forE{l:Addr}(Pv:Nat->St->Hp->Prop)(h0:Pv 0 Y H)(hl:∀ i Y H,Pv i Y H->H l=some (.lst xs))(hs:∀ i x t Y H,xs[i]?=some x->Pv i Y H->H t=none->g (.ref t) Y (A0 H t (.tup [.int i,x])) fun σ2 H2=>tb { D with nx:=Pv (i+1),ct:=Pv (i+1),bk:=D.nx } σ2 H2)(hd:∀ Y H,Pv xs.length Y H->D.nx Y H):ForIt (nU l) g tb D Y H:=by
 refine ⟨fun i m Y H=>m=xs.length-i/\i<=xs.length/\Pv i Y H,⟨xs.length,by simp,F7 _,h0⟩,?_⟩;rintro i m Y H ⟨rfl,hi,p⟩;have e1:=hl i Y H p
 by_cases C4:i<xs.length
 .refine .inr ⟨⟨xs,xs[i],e1,by simp⟩,Pv (i+1),fun σ' H' p'=>⟨_,by lia,rfl,C4,p'⟩,fun v H' y=>?_⟩;obtain ⟨t,xs',x,f1,hx,ht,rfl,rfl⟩:=y;rw [e1] at f1;cases f1;exact hs i x t Y H hx p ht
 .have e:i=xs.length:=by lia
  subst e;exact .inl ⟨⟨xs,e1,by lia⟩,hd Y H p⟩
noncomputable def MO (P:Program) (w:World) (K:PySem.W.Frag) (mg:Str->Option Value) (base:Heap) (k:Nat) (C:Addr) (m:Str) (ps:List Str) (sp:Sp):Prop:=
 ∃ f fd,FnOk P w K mg base E2 k f fd ps sp/\Cls K C/\Meth K C m f/\Binds K fd ps []
noncomputable def KO (P:Program) (w:World) (K:PySem.W.Frag) (mg:Str->Option Value) (base:Heap) (k:Nat) (C:Addr) (x:Str) (ps:List Str) (sp:Sp):Prop:=
 ∃ f fd,FnOk P w K mg base E2 k f fd ps sp/\Mk K C f/\mg x=some (.ref C)/\Binds K fd ps []
section
variable {X:Cx} {k:Nat} {C:Addr} {ps:List Str} {sp:Sp} {x m:Str} {p pos apos:Pos} {e o:Expr} {es:List Expr} {ta:TE} {t:TA}
theorem aoO(G:KO X.prog X.w X.K X.mg X.base k C x ps sp)(hr:Room (k+1) X.A)(ha:QA X (e::es) t)(hg:Gl X x:=by rfl)(h1:L7 e=false:=by rfl)(h2:Y2 es=true:=by rfl)(U0:(x=='o')=false:=by decide) :
  QE X (.Call (.Name x p) (e::es) [] pos) (tMake C sp [] E0 t):=by
 obtain ⟨f,fd,F,M,hm,hb⟩:=G;exact ⟨anT M F hr hg hm hb .nil pass0 ha.out U0 (O0 h1) (gX h2)⟩
theorem rQ(ho:QE X o ta)(G:MO X.prog X.w X.K X.mg X.base k C m ps sp)(hr:Room k X.A)(ha:QA X (e::es) t)(h1:L7 e=false:=by rfl)(h2:Y2 es=true:=by rfl){pl:Sem Bool}(ht:eval (.Call (.Attribute o m apos) (e::es) [] pos) X.env=(do
   let ov <- eval o X.env
   standAt apos.atName
   let (f,first) <- holding [ov] (getMethod ov m pl)
   callWith pos f first (backTo pos (starEach (e::es) X.env)) (backToKw pos (keywordEach [] X.env))):=by rfl) :
  QE X (.Call (.Attribute o m apos) (e::es) [] pos) (tMeth C m sp [] E0 ta t):=by
 obtain ⟨f,fd,F,c,hm,hb⟩:=G;exact ⟨anS ho.out c hm F hr hb .nil pass0 ha.out (O0 h1) (gX h2) ht⟩
theorem amj(ho:QE X o ta)(G:MO X.prog X.w X.K X.mg X.base k C m ps sp)(hr:Room k X.A){pl:Sem Bool}(ht:eval (.Call (.Attribute o m apos) [] [] pos) X.env=(do
   let ov <- eval o X.env
   standAt apos.atName
   let (f,first) <- holding [ov] (getMethod ov m pl)
   callWith pos f first (backTo pos (starEach [] X.env)) (backToKw pos (keywordEach [] X.env))):=by rfl) :
  QE X (.Call (.Attribute o m apos) [] [] pos) (tMeth C m sp [] E0 ta tNil):=by
 obtain ⟨f,fd,F,c,hm,hb⟩:=G;exact ⟨alv ho.out c hm F hr hb .nil pass0 ht⟩
end
section
variable {C:Addr} {m f:Str} {sp:Sp} {K:PySem.W.Frag} {ta tv:TE} {t:TA} {Y:St} {H:Hp} {Q:VK} {D:Ends}
theorem aoP:tMake C sp [] E0 t Y H Q=t Y H fun vs H1=>∀ x dx,H1 x=none->H1 dx=none->dx≠x->sp (.ref x::(vs++[])) (A0 (A0 H1 dx (.own x)) x (.ins C dx [])) (fun v H2=>v=.non/\Q (.ref x) H2) E0:=rfl
theorem aoQ:tMeth C m sp [] E0 ta t Y H Q=ta Y H fun x H1=>∃ a dx fs,x=.ref a/\H1 a=some (.ins C dx fs)/\fs.lookup m=none/\t Y H1 fun vs H2=>sp (x::(vs++[])) H2 Q E0:=rfl
theorem ary:tFld K ta f Y H Q=ta Y H fun x H1=>∃ a C dx fs v,x=.ref a/\H1 a=some (.ins C dx fs)/\Cls K C/\NoAttr K C f/\fs.lookup f=some v/\Q v H1:=rfl
theorem aoR:sFld K ta tv f D Y H=tv Y H fun y H1=>ta Y H1 fun x H2=>∃ a C dx fs,x=.ref a/\H2 a=some (.ins C dx fs)/\Cls K C/\NoAttr K C f/\fs.length<1000/\D.nx Y (A0 H2 a (.ins C dx (putF f y fs))):=rfl
end
section
variable {X:Cx} {o e:Expr} {apos cpos:Pos} {td ty:TE}
theorem rR(hu:X.A.units+1<cLine)(ho:QE X o td)(he:QE X e ty)(h1:L7 e=false:=by rfl)(G1:attributeBase o "get" X.env (eval o X.env)=eval o X.env:=by rfl)(G2:(apos.endLine==cpos.line)=true:=by rfl):QE X (.Call (.Attribute o "get" apos) [e] [] cpos) (vX td ty):=
 ⟨alH hu ho.out he.out ⟨G1,by rw [O0 h1];rfl,G2,by rw [O0 h1];rfl⟩⟩
theorem amk : vX td ty Y H Q=td Y H fun x H1=>∃ a,x=.ref a/\gW H1 a/\ty Y H1 fun y H2=>∃ o,DGet H2 a y o/\Q (o.getD .non) H2:=rfl
end
noncomputable abbrev Rl:=Str×List Str
noncomputable def tupR (z:Rl):HO:=.tup ((z.1::z.2).map V.str)
structure IsRules(H:Hp)(a:Addr)(rs:List Addr)(R:List Rl):Prop where
 top:H a=some (.lst (rs.map V.ref))
 row:Paired (fun r z=>H r=some (tupR z)) rs R
theorem IsRules.same{R:List Rl}(h:IsRules H a rs R)(s:Same H H'):IsRules H' a rs R:=⟨s _ _ h.top,N9 h.row fun _ _ e=>s _ _ e⟩
theorem IsRules.len{R:List Rl}(h:IsRules H a rs R):rs.length=R.length:=Paired.length h.row
noncomputable def P5 (z:Rl):List Str:=if z.1='i' then z.2.drop 1 else if z.1=("as" : Str) then z.2.take 1 else if z.1=("row" : Str)\/z.1=("marks" : Str)\/z.1=("over" : Str) then z.2 else []
noncomputable def jobD (w:Str):Str:=if w=("row" : Str) then "letter" else if w=("marks" : Str) then "mark" else w
noncomputable def C7 (R:List Rl):List (Str×Str):=R.flatMap fun z=>(P5 z).map fun p=>(p,jobD z.1)
noncomputable def hasW (R:List Rl) (w:Str):Bool:=R.any fun z=>decide (z.1=w)
noncomputable def figO (c:Nat):Bool:=decide (48<=c)&&decide (c<=57)
noncomputable def nV:List Str:=["letter", "mark", "over"]
noncomputable def NC (figs:Bool) (g:Str->Str) (PL:List (Str×Str)):Prop:=∀ i p j,PL[i]?=some (p,j)->j=g p/\(p∈(PL.take i).map (·.1)->j∈nV)/\(figs=true->∀ c∈p.cps.toList,figO c=false)/\p.length<=1000
noncomputable def keysP (PL:List (Str×Str)):List Str:=K8 [] (PL.map (·.1))
theorem afg{R:List Rl}{z:Rl}(h:R[i]?=some z):C7 (R.take (i+1))=C7 (R.take i)++(P5 z).map fun p=>(p,jobD z.1):=by
 rw [v4,h];unfold C7;rw [b9]
 simp
theorem agv(R:List Rl)(i:Nat):∃ more,C7 R=C7 (R.take i)++more:=⟨C7 (R.drop i),by
 unfold C7;rw [<- b9,j4]⟩
theorem aiU(PL:List (Str×Str))(p j:Str):keysP (PL++[(p,j)])=dd (keysP PL) p:=by
 unfold keysP K8;rw [D0,aJ];rfl
theorem rS(x:Str)(PL:List (Str×Str)):x∈keysP PL↔x∈PL.map (·.1):=by
 unfold keysP;rw [aW]
 simp
theorem wZ(PL:List (Str×Str)):(keysP PL).length<=PL.length:=by
 have:=nN (PL.map (·.1)) []
 rw [A6] at this
 simpa [keysP] using this
noncomputable def rowsW (R:List Rl) (w:Str):List (List Str):=(R.filter fun z=>decide (z.1=w)).map (·.2)
theorem afh{R:List Rl}{z:Rl}{w:Str}(h:R[i]?=some z):rowsW (R.take (i+1)) w=if z.1=w then rowsW (R.take i) w++[z.2] else rowsW (R.take i) w:=by
 rw [v4,h];unfold rowsW;rw [bZ,D0]
 by_cases e:z.1=w
 .rw [if_pos e,Option.toList_some,jQ (by simpa using e)];rfl
 .rw [if_neg e,Option.toList_some,jR (by simpa using e)];simp
theorem aX{hi:Option Int}(hk:1<=k)(hn:1<=n):¬ (HT.sIx n 0 (some (k:Int))=0/\HT.sIx n n hi=n):=fun h=>by
 have:=h.1
 rw [HT.sIx_nat] at this;lia
noncomputable abbrev jobsL:List (B5×V):=[((Sum.inr ("row" : Str):B5),V.str "letter"),(Sum.inr ("marks" : Str),V.str "mark"),(Sum.inr 'i',V.str "great"),(Sum.inr ("as" : Str),V.str "as"),(Sum.inr ("over" : Str),V.str "over")]
noncomputable def hV (w:Str):Prop:=w=("row" : Str)\/w=("marks" : Str)\/w='i'\/w=("as" : Str)\/w=("over" : Str)
theorem xA{w:Str}(h:hV w):valV jobsL (Sum.inr w)=some (.str (jobD w)):=by
 rcases h with rfl | rfl | rfl | rfl | rfl <;> decide +kernel
theorem aml{w:Str}(h:¬ hV w):valV jobsL (Sum.inr w)=none:=by
 unfold hV at h;have n:∀ u:Str,w≠u->¬ ((Sum.inr u:B5)=Sum.inr w):=fun u hu e=>hu (Sum.inr.inj e).symm
 rw [cH (n _ (fun e=>h (.inl e))),cH (n _ (fun e=>h (.inr (.inl e)))),cH (n _ (fun e=>h (.inr (.inr (.inl e))))),cH (n _ (fun e=>h (.inr (.inr (.inr (.inl e)))))),cH (n _ (fun e=>h (.inr (.inr (.inr (.inr e))))))];rfl
theorem nW{z:Rl}{p:Str}(h:p∈P5 z):hV z.1:=by
 unfold P5 at h;unfold hV
 split at h
 .rename_i e;exact .inr (.inr (.inl e))
 .split at h
  .rename_i e;exact .inr (.inr (.inr (.inl e)))
  .split at h
   .rename_i e
    rcases e with e | e | e
    .exact .inl e
    .exact .inr (.inl e)
    .exact .inr (.inr (.inr (.inr e)))
   .cases h
theorem arz{R:List Rl}{z:Rl}{p:Str}(hz:R[i]?=some z)(hp:(P5 z)[j]?=some p) :
  (C7 R)[(C7 (R.take i)).length+j]?=some (p,jobD z.1)/\(C7 R).take ((C7 (R.take i)).length+j)=C7 (R.take i)++((P5 z).take j).map fun p=>(p,jobD z.1):=by
 obtain ⟨more,e⟩:=agv R (i+1);rw [afg hz,W8] at e;have hj:j<(P5 z).length:=(E5.mp hp).1;rw [e]
 constructor
 .rw [gG (eL _ _),Nat.add_sub_cancel_left,eD (by rw [A6];exact hj),U4,hp];rfl
 .rw [List.take_append,u9 (eL _ _),Nat.add_sub_cancel_left,List.take_append_of_le_length (by rw [A6];lia),eJ]
theorem arA{c d:Nat} : (([c]:List Nat)<[d])↔c<d:=by
 constructor
 .intro h;cases h with
  | rel h=>exact h
  | cons h=>cases h
 .intro h;exact List.Lex.rel h
theorem A8.same(e:Same H H')(h:A8 K H a xs):A8 K H' a xs:=by
 rcases h with (h | ⟨o,h⟩) | h
 .exact .inl (.inl (e _ _ h))
 .exact .inl (.inr ⟨o,e _ _ h⟩)
 .exact .inr h
theorem A8.dput{d:Addr}{o:HO}(hd:H d=some (.dK kvs))(h:A8 K H a xs):A8 K (A0 H d o) a xs:=by
 rcases h with (h | ⟨o,h⟩) | h
 .exact .inl (.inl (by rw [A7 (fun e=>by rw [e,hd] at h;cases h)];exact h))
 .exact .inl (.inr ⟨o,by rw [A7 (fun e=>by rw [e,hd] at h;cases h)];exact h⟩)
 .exact .inr h
noncomputable def spHas (K:PySem.W.Frag):Sp:=fun vs H Q _=>∃ (a:Addr) (ts:List Addr) (R:List Rl) (w:Str),vs=[.ref a,.str w]/\IsRules H a ts R/\R.length<=1000/\∀ H',Same H H'->Q (.bl (hasW R w)) H'
noncomputable def akm (K:PySem.W.Frag):Sp:=fun vs H Q _=>∃ (t:Addr) (z:Rl),vs=[.ref t]/\H t=some (tupR z)/\∀ p H',Same H H'->A8 K H' p ((P5 z).map V.str)->Q (.ref p) H'
noncomputable def akn:Sp:=fun vs H Q _=>∃ (d:Addr) (p j:Str) (fg:Bool) (ks:List Str) (g:Str->Str),vs=[.ref d,.str p,.str j,.bl fg]/\H d=some (.dK (C2 ks fun t=>.str (g t)))/\p.length<=1000/\(p∈ks->g p=j/\j∈nV)/\(fg=true->∀ c∈p.cps.toList,figO c=false)/\
 ∀ H',Same H H'->Q (.bl false) H'
noncomputable def W6 (R:List Rl):List Str:=if hasW R "blanks"=true then [" "] else []
noncomputable def jobG (g:Str->Str):Str->V:=fun t=>if t=(" " : Str) then .str "over" else .str (g t)
noncomputable def am5 (K:PySem.W.Frag):Sp:=fun vs H Q _=>∃ (a:Addr) (ts:List Addr) (R:List Rl) (g:Str->Str),vs=[.ref a]/\IsRules H a ts R/\R.length<=1000/\(C7 R).length<=10000/\NC (hasW R "figures") g (C7 R)/\(" " : Str)∉(C7 R).map (·.1)/\
 ∀ d H',H d=none->Same H H'->H' d=some (.dK (C2 (keysP (C7 R)++W6 R) (jobG g)))->Q (.ref d) H'
noncomputable def ordF (f b:Bool) (j ll ml md:Addr):List (Str×V):=putF "made" (.ref md) (putF "mark_line" (.ref ml) (putF "letter_line" (.ref ll) (putF "jobs" (.ref j) (putF "behind" (.bl b) (putF "figures" (.bl f) [])))))
theorem aec(f b:Bool)(j ll ml md:Addr):(ordF f b j ll ml md).lookup ("figures" : Str)=some (V.bl f):=by
 unfold ordF;rw [P0,if_neg 'c',P0,if_neg 'c',P0,if_neg 'c',P0,if_neg 'c',P0,if_neg 'c',P0,if_pos rfl]
theorem aeE(f b:Bool)(j ll ml md:Addr):(ordF f b j ll ml md).lookup ("behind" : Str)=some (V.bl b):=by
 unfold ordF;rw [P0,if_neg 'c',P0,if_neg 'c',P0,if_neg 'c',P0,if_neg 'c',P0,if_pos rfl]
theorem agw(f b:Bool)(j ll ml md:Addr):(ordF f b j ll ml md).lookup ("jobs" : Str)=some (V.ref j):=by
 unfold ordF;rw [P0,if_neg 'c',P0,if_neg 'c',P0,if_neg 'c',P0,if_pos rfl]
theorem nX(f b:Bool)(j ll ml md:Addr){m:Str}(h:m∉(["made", "mark_line", "letter_line", "jobs", "behind", "figures"]:List Str)):(ordF f b j ll ml md).lookup m=none:=by
 unfold ordF;have n:∀ u∈(["made", "mark_line", "letter_line", "jobs", "behind", "figures"]:List Str),¬ m=u:=fun u hu e=>h (by rw [e];exact hu)
 rw [P0,if_neg (n _ 'd'),P0,if_neg (n _ 'd'),P0,if_neg (n _ 'd'),P0,if_neg (n _ 'd'),P0,if_neg (n _ 'd'),P0,if_neg (n _ 'd')];rfl
theorem IsRules.but{x:Addr}{R:List Rl}(h:IsRules H a rs R)(s:SameBut x H H'){dx:Addr}{fs:List (Str×V)}(hx:H x=some (.ins C dx fs)):IsRules H' a rs R:=
 ⟨s _ _ (fun e=>by have:=h.top;rw [e,hx] at this;cases this) h.top,N9 h.row fun t z e=>s _ _ (fun q=>by rw [q,hx] at e;cases e) e⟩
theorem SameBut.trans{x:Addr}(a:SameBut x H H1)(b:SameBut x H1 H2):SameBut x H H2:=fun c o hc h=>b c o hc (a c o hc h)
theorem Same.but{x:Addr}(a:Same H H1):SameBut x H H1:=fun c o _ h=>a c o h
noncomputable def Q6 (R:List Rl) (w:Str) (L:List Str):Prop:=V3 (edges (rowsW R w)) (toldL (rowsW R w)) L/\∀ p∈toldL (rowsW R w),p∈L
structure IsOrder(C:Addr)(H:Hp)(x:Addr)(g:Str->Str)(R:List Rl)(L M:List Str):Prop where
 ob:∃ dx j ll ml md,H x=some (.ins C dx (ordF (hasW R "figures") 'e' j ll ml md))/\H j=some (.dK (C2 (keysP (C7 R)++W6 R) (jobG g)))/\H ll=some (.lst (L.map V.str))/\H ml=some (.lst (M.map V.str))
 l1:Q6 R "row" L
 l2:Q6 R "marks" M
noncomputable def am6 (K:PySem.W.Frag):Sp:=fun vs H Q _=>∃ (a:Addr) (ts:List Addr) (R:List Rl) (w:Str) (rank:Str->Nat),vs=[.ref a,.str w]/\IsRules H a ts R/\R.length<=1000/\(rowsW R w).flatten.length<=100000/\(∀ e∈edges (rowsW R w),rank e.1<rank e.2)/\
 ∀ (l:Addr) (line:List Str) (H':Hp),H l=none->Same H H'->H' l=some (.lst (line.map V.str))->V3 (edges (rowsW R w)) (toldL (rowsW R w)) line->(∀ p∈toldL (rowsW R w),p∈line)->Q (.ref l) H'
noncomputable def cellF (ns:List Int) (k:Int):Int:=if k<(ns.length:Int) then ns.getD k.toNat 0 else 0
noncomputable def LA:List Nat:=SG.filter fun c=>!figO c
noncomputable def LB:List Nat:=LA++[48,49,50,51,52,53,54,55,56,57]
noncomputable def listF (d:Bool):List Nat:=if d=true then LB else LA
noncomputable def lenF (d:Bool):Int:=if d=true then 93 else 83
noncomputable def xB (ns:List Int):Bool:=decide (cellF ns 1 / 12 % 2=0)
noncomputable def stepO:List Int:=[1,2,4,5,7,8,10,11,13,23,44,80]
noncomputable def stO (ns:List Int):Int:=(F8 stepO (cellF ns 1 % 12)).getD 0
noncomputable def kW (ns:List Int) (k:Int):Nat:=(F8 (listF (xB ns)) ((cellF ns 0+k*stO ns) % lenF (xB ns))).getD 33
theorem arB{l:List Nat}(nd:l.Nodup){i j:Int}(h0:0<=i)(h1:i<l.length)(h2:0<=j)(h3:j<l.length)(h:(F8 l i).getD 33=(F8 l j).getD 33):i=j:=by
 have li:i.toNat<l.length:=by lia
 have lj:j.toNat<l.length:=by lia
 have a1:F8 l i=some l[i.toNat]:=by
  have:=G8 (xs:=l) (j:=i.toNat) (v:=l[i.toNat]) (L1 li)
  rw [show ((i.toNat:Nat):Int)=i by lia] at this;exact this
 have a2:F8 l j=some l[j.toNat]:=by
  have:=G8 (xs:=l) (j:=j.toNat) (v:=l[j.toNat]) (L1 lj)
  rw [show ((j.toNat:Nat):Int)=j by lia] at this;exact this
 rw [a1,a2] at h
 have:=(bW.mp nd)
 rw [eC] at this
 rcases mX i.toNat j.toNat with z | z | z
 .exact absurd h (this _ _ li lj z)
 .lia
 .exact absurd h.symm (this _ _ lj li z)
theorem aiV{m s t b k l:Int}(ht:s*t % m=1)(e:(b+k*s) % m=(b+l*s) % m)(h0:0<=k)(h1:k<m)(h2:0<=l)(h3:l<m):k=l:=by
 have d1:m ∣ (k-l)*s:=by
  have:=Int.dvd_of_emod_eq_zero (Int.emod_eq_emod_iff_emod_sub_eq_zero.mp e)
  rwa [show (b+k*s)-(b+l*s)=(k-l)*s by rw [Int.sub_mul];lia] at this
 have d3:m ∣ (k-l)*(s*t):=by rw [<- Int.mul_assoc];exact Int.dvd_mul_of_dvd_left d1
 have d4:m ∣ s*t-1:=⟨s*t / m,by have:=Int.emod_add_mul_ediv (s*t) m;lia⟩
 have d5:m ∣ (k-l)*(s*t-1):=Int.dvd_mul_of_dvd_right d4;have d6:=Int.dvd_sub d3 d5;rw [show (k-l)*(s*t)-(k-l)*(s*t-1)=k-l by rw [Int.mul_sub,Int.mul_one];lia] at d6;have d7:=Int.emod_eq_emod_iff_emod_sub_eq_zero.mpr (Int.emod_eq_zero_of_dvd d6)
 rwa [Int.emod_eq_of_lt h0 h1,Int.emod_eq_of_lt h2 h3] at d7
end L2
namespace L2
open PySem PySem.Spec PyProof.Rows
open AutoSeq1 (wpAny_loadPart' idx_int)
noncomputable abbrev bareL (ys:Array Value) (k:Nat):Obj:=⟨.type "list",none,.seq ys k,#[]⟩
noncomputable abbrev anyT (dd:Option Addr) (ys:Array Value) (k:Nat) (ss:Array (Option Value)):Obj:=⟨.type "tuple",dd,.seq ys k,ss⟩
theorem aeG{l:Addr}{ys zs:Array Value}{k2:Nat}{dd:Option Addr}(short:¬ (!ys.isEmpty&&Builtin.List.listTooLong (ys.size+zs.size))=true)(h1:ys.size<=sizeLine)(h2:ys.size+zs.size<=sizeLine+1) :
  Meets (Builtin.«list.extend» ⟨[.ref l,.ref b],[]⟩) (fun _ R s=>s.heap.get? l=some (bareL ys k)/\s.heap.get? b=some (anyT dd zs k2 ss)/\R (.ok (.ret .none)) { s with heap:=s.heap.update l (Obj.mapSeq (·++zs)),toks:=s.toks }):=by
 refine .of_wp fun _ _ _ R s ⟨gl,gb,fin⟩=>?_
 rcases s with ⟨hp,gens,dr,tk,sys⟩
 have c1:=idx_int;have c2:=AutoSeq1.sub_tuple_tuple;have c3:=AutoSeq1.sub_list_list;have c4:=AutoSeq1.sub_tuple_list;have c5:=AutoSeq1.sub_list_tuple;have room:(ys++zs).size<=sizeLine+1:=Array.size_append ▸ h2
 wp_walk using (wpAny_updateSeq gl rfl (hz:=h1) (_hz':=room)),wpAny_loadPart' gl,wpAny_loadPart' gb
 exact ⟨_,rfl,fin⟩
section
variable {X:Cx}
noncomputable def ah7 (K:PySem.W.Frag):V->List V->Hp->VK->Prop:=fun x vs H Q=>∃ l b xs zs,x=.ref l/\vs=[.ref b]/\H l=some (.lst xs)/\A8 K H b zs/\xs.length+zs.length<=sizeLine/\Q .non (A0 H l (.lst (xs++zs)))
theorem aiW:kI X "list.extend" (ah7 X.K):=by
 intro pins s Y H x vs v us Q I rx rv h;obtain ⟨l,b,xs,zs,rfl,rfl,hH,hB,hz,q⟩:=h
 cases rx
 obtain ⟨u,rfl,ru⟩:=rv.one
 cases ru
 obtain ⟨z,its,n,r,hl,e⟩:=I.lstM hH;obtain ⟨its2,r2,⟨⟨c,dct,dt,sl⟩,e2,hc,n2,hd⟩,i6⟩:=I.tuple hB
 replace hc:c=.type "tuple":=hc
 replace hd:dt=.seq its2.toArray n2:=hd
 subst hc hd;have q1:=r2.length;have hsz:its.toArray.size+its2.toArray.size<=sizeLine:=by rw [K9,K9];lia
 have y9:¬ (!its.toArray.isEmpty&&Builtin.List.listTooLong (its.toArray.size+its2.toArray.size))=true:=by
  rw [ahU hsz,Bool.and_false];exact L9
 refine call_meets F.slot_list_extend ⟨_,e,rfl⟩ F.entry_list_extend (F.args_list_extend_2 _ _)
  (aeG (k:=n) (k2:=n2) (dd:=dct) (ss:=sl) y9 (by rw [K9];lia) 'a') ⟨e,e2,?_⟩
 refine ⟨.non,_,I.lset (its':=its++its2) hH e 'd' (r.append r2) ?_,rfl,q⟩;rw [D9];lia
theorem ako(hK:X.K=K:=by rfl):QMt X "list.extend" (ah7 K):=by subst hK;exact ⟨fun pins s Y H x xs v us Q I rx rv h=>aiW pins s Y H x xs v us Q I rx rv h⟩
end
noncomputable def Itv (l : Addr) (n : Nat) : It :=
  ⟨fun i H => ∃ xs x, H l = some (.lst xs) /\ i<n /\ xs[n-1-i]? = some x,
   fun i H v H' => H' = H /\ ∀ xs, H l = some (.lst xs) -> xs[n-1-i]? = some v,
   fun i H => ∃ xs, H l = some (.lst xs) /\ n <= i⟩
theorem afM:bootBuiltins "reversed"=some (.type "reversed"):=by decide +kernel
section
variable {X:Cx}
noncomputable def iRev (ta:TA):TI:=fun Y H R=>ta Y H fun vs H1=>∃ (l:Addr) (xs:List V),vs=[.ref l]/\H1 l=some (.lst xs)/\R (Itv l xs.length) H1
end
theorem aoS{R:It->Hp->Prop} : iRev ta Y H R=ta Y H fun vs H1=>∃ (l:Addr) (xs:List V),vs=[.ref l]/\H1 l=some (.lst xs)/\R (Itv l xs.length) H1:=rfl
noncomputable abbrev fB (l:Addr):Obj:={ cls:=.type "list_iterator",data:=.fields #[.ref l,.int 0 0] }
noncomputable abbrev kX (it:Addr) (i:Int):Obj:={ cls:=.type "enumerate",data:=.fields #[.none,.bool false,.ref it,rawInt i,.none,.none] }
noncomputable abbrev anyL (dd:Option Addr) (ys:Array Value) (k:Nat) (ss:Array (Option Value)):Obj:=⟨.type "list",dd,.seq ys k,ss⟩
set_option maxHeartbeats 4000000 in
theorem aeU{l:Addr}{ys:Array Value}{dd:Option Addr}{i:Int}{t:Tok}(fits:Builtin.SmallTypes.fitsIndex i=true) :
  Meets (Builtin.«enumerate.__new__» ⟨[.type "enumerate",.ref l],[("start",.int i t)]⟩) (fun _ R s=>s.heap.get? l=some (anyL dd ys k ss)/\
   R (.ok (.ret (.ref (s.heap.push (fB l)).objs.size))) { s with heap:=(s.heap.push (fB l)).push (kX s.heap.objs.size i) }):=by
 refine .of_wp fun _ _ _ R s ⟨gl,fin⟩=>?_
 rcases s with ⟨hp,gens,dr,tk,sys⟩
 have c1:=sub_enumerate;have isl:Heap.IsList (Shared.heap ⟨hp,gens,dr,tk,sys⟩) l ys:=⟨_,gl,rfl,k,rfl⟩
 wp_walk using wpAny_loadPart' gl
 refine wpAny_stack_any fun _=>wpAny_pure ?_
 split
 case h_1 c _ _ _ _ _=>
  generalize (c==Value.type "enumerate")=truth
  cases truth <;> (wp_walk using wpAny_loadPart' gl,wpAny_pyIter_list isl;exact ⟨_,rfl,fin⟩)
 case h_2=>(wp_walk using wpAny_loadPart' gl,wpAny_pyIter_list isl;exact ⟨_,rfl,fin⟩)
theorem aiX(a b:Value):checkTypeCall "enumerate" ⟨[a],[("start",b)]⟩=pure ():=by kernel_rfl
theorem akp(a b:Value):checkBuiltinCall "enumerate.__new__" ⟨[.type "enumerate",a],[("start",b)]⟩=pure ():=by kernel_rfl
theorem aiY(a b c:Value):argsOk "object.__init__" ⟨[a,b],[("start",c)]⟩:=by
 unfold argsOk;rw [signature?_of (id:="object.__init__") (n:="__init__".toList.reverse) (o:="object".toList.reverse) (by kernel_rfl) F.owner_object]
 kernel_rfl
theorem akq{self b c:Value} : Meets (Builtin.«object.__init__» ⟨[self,b],[("start",c)]⟩) (fun _ R s=>s.TypeIs self "enumerate"/\R (.ok (.ret .none)) s):=by
 have c1:=F.called_enumerate.init.lookup;have c2:=F.called_enumerate.made;refine .of_wp fun _ _ _ R s ⟨isT,fin⟩=>?_
 repeat (any_goals (first | assumption | wp_step))
 exact ⟨_,rfl,fin⟩
section
variable {prog:Program} {w:World} {A:Around} {E:Value->Shared->Prop} {s:Shared}
theorem aeH{l:Addr}{ys:Array Value}{i:Int}{t:Tok}{Q:Value->Shared->Prop}(isl:s.heap.IsList l ys)(fits:Builtin.SmallTypes.fitsIndex i=true)(fin:∀ h',IsEnum h' (s.heap.objs.size+1) s.heap.objs.size i .none->h'.IsListIter s.heap.objs.size l 0->(∀ b o,s.heap.get? b=some o->h'.get? b=some o)->Q (.ref (s.heap.objs.size+1)) { s with heap:=h' }) :
  wpAny 'j' A (call (.type "enumerate") [.ref l] [("start",.int i t)]) Q E s:=by
 obtain ⟨⟨c,dd,dt,ss⟩,gl,hc,k,hd⟩:=isl;obtain rfl:c=.type "list":=hc;obtain rfl:dt=.seq ys k:=hd;obtain ⟨hd0,tl,c1⟩:=F.called_enumerate.mro;have c2:=F.called_enumerate.made;have c3:=F.called_enumerate.sub;have c4:=F.called_enumerate.notType;have c5:=F.called_enumerate.canCreate;have c6:=F.called_enumerate.init.lookup;have c7:=aiX (.ref l) (.int i t);refine wpAny_call (codeAny_of_tree (show wpAny _ _ (callAny (.type "enumerate") _) _ _ _ from wpAny_pure ⟨Code.quiet_builtin _ 'c',codeAny_builtin F.entry_type_call ?_⟩));rw [Around.under_plain (weight_type_call_type "enumerate" [.ref l] [("start",.int i t)]) (units_type_call_type "enumerate" [.ref l] [("start",.int i t)])]
 repeat (any_goals (first | assumption | wp_step))
 have z:(s.heap.push (fB l)).objs.size=s.heap.objs.size+1:=Heap.size_push ..;have made:IsEnum ((s.heap.push (fB l)).push (kX s.heap.objs.size i)) (s.heap.objs.size+1) s.heap.objs.size i .none:=by
  have g:=Heap.get?_push_size (s.heap.push (fB l)) (o:=kX s.heap.objs.size i) rfl;rw [z] at g;exact g
 have done:=fin _ made ⟨_,Heap.get?_push_of_some _ (Heap.get?_push_size _ rfl),rfl,rfl⟩ fun b o g=>Heap.get?_push_of_some _ (Heap.get?_push_of_some _ g)
 refine codeAny_mono (codeAny_call_builtin F.called_enumerate.plain F.entry_enumerate_new (wpAny_of_eq (akp _ _) (aeU (dd:=dd) (k:=k) (ss:=ss) fits prog w A.in1 (wants (fun v s2=>v=.ref (s.heap.objs.size+1)/\s2={ s with heap:=(s.heap.push (fB l)).push (kX s.heap.objs.size i) }) E) s ⟨gl,?_,?_⟩))) ?_
 .rw [z]
 .rfl
 .intro r s1 hr
  rcases r with e | fl
  .exact hr
  .cases fl with
   | ret v=>
    obtain ⟨rfl,rfl⟩:=hr;have isT:Shared.TypeIs { s with heap:=(s.heap.push (fB l)).push (kX s.heap.objs.size i) } (.ref (s.heap.objs.size+1)) "enumerate":=⟨_,made,rfl⟩
    have c8:=F.called_enumerate.init.bind (.ref (s.heap.objs.size+1))
    repeat (any_goals (first | assumption | wp_step))
    have ran:=akq (self:=.ref (s.heap.objs.size+1)) (b:=.ref l) (c:=.int i t) prog w A.in1 (wants (fun v s2=>v=.none/\s2={ s with heap:=(s.heap.push (fB l)).push (kX s.heap.objs.size i) }) E) _ ⟨isT,rfl,rfl⟩;refine codeAny_mono (codeAny_call_builtin F.called_enumerate.init.plain F.entry_object_init (F.called_enumerate.init.check _ _ _ _ _ _ _ _ isT (aiY _ _ _) ran)) fun r s2 hr=>?_
    rcases r with e | fl
    .exact hr
    .cases fl with
     | ret v=>
      obtain ⟨rfl,rfl⟩:=hr
      repeat (any_goals (first | assumption | wp_step))
     | next=>exact hr.elim
     | brk=>exact hr.elim
     | cont=>exact hr.elim
   | next=>exact hr.elim
   | brk=>exact hr.elim
   | cont=>exact hr.elim
end
theorem arC{w:World}(calm:A.handled=none){l:Addr}(apart:l≠it)(ys:Array Value) :
  Draws prog w A it [it,l] (ys.size+1) (fun i v=>1<=i/\ys[i-1]?=some v) (fun i h=>1<=i/\h.IsListIter it l (i-1)/\h.IsList l ys):=by
 have D:=Draws.list (prog:=prog) (w:=w) calm it l apart ys;refine ⟨fun i h st=>D.live (i-1) h st.2,fun i h h' st same=>⟨st.1,D.frame (i-1) h h' st.2 same⟩,fun i s Q E hi st fin=>?_,fun s Q E st fin=>D.done s Q E st.2 fin⟩;refine D.item (i-1) s Q E (by have:=st.1;lia) st.2 fun x h' tk px st' sb=>fin x h' tk ⟨st.1,px⟩ ⟨by lia,?_⟩ sb
 rw [show i+1-1=i-1+1 by have:=st.1;lia];exact st'
theorem arD{w : World}(calm : A.handled = none){l: Addr}{ys : Array Value}(none : ys[i]? = none) :
    Draws prog w A it [it, l] (i+1) (fun _ _ => True) (fun k h => k = i+1 /\ h.IsListIter it l i /\ h.IsList l ys) :=
  ⟨fun _ _ st => let ⟨o, ho, _⟩ := st.2.1; ⟨o, ho⟩, fun _ _ _ st same => ⟨st.1, st.2.1.at fun o g => same it 'd' o g, st.2.2.at fun o g => same l 'd' o g⟩,
   fun k s Q E hk st => absurd st.1 'a', fun s Q E st fin => wpAny_nextOf_list_end calm st.2.1 st.2.2 none fin⟩
noncomputable def Ite1 (l : Addr) : It :=
  ⟨fun i H => ∃ xs x, H l = some (.lst xs) /\ xs[i]? = some x,
   fun i H v H' => ∃ t xs x, H l = some (.lst xs) /\ xs[i]? = some x /\ H t = none /\ v = .ref t /\ H' = A0 H t (.tup [.int (i+1 : Nat), x]),
   fun i H => ∃ xs, H l = some (.lst xs) /\ xs.length <= i⟩
theorem aiZ{P:Program}{w:World}{pos:Pos}(e it l:Addr)(G9:e≠it) :
  Turn P w K (.Tuple elts x1 pos) (Ite1 l) [e,it] e (fun i h=>(∃ old,IsEnum h e it ((i+1:Nat):Int) old)/\h.IsListIter it l i) where
 mem:=by simp
 obj:=fun i h ⟨⟨old,he⟩,hi⟩ c hc=>by
  have q:c=e\/c=it:=by simpa using hc
  rcases q with rfl | rfl
  .exact ⟨_,he,fun v q=>by cases q⟩
  .obtain ⟨o,e,c,d⟩:=hi;exact ⟨o,e,fun v z=>by rw [d] at z;cases z⟩
 keep:=fun i h h' ⟨⟨old,he⟩,hi⟩ k=>⟨⟨old,k e 'd' _ he⟩,hi.at fun o q=>k it 'd' o q⟩
 item:=by
  intro X hP hw hK hc i pins s Y H E I hf ⟨⟨old,he⟩,hi⟩ hg;subst hP hw hK;obtain ⟨xs,x,e1,hx⟩:=hg;obtain ⟨its1,X0,p1,_⟩:=I.list (D1.of (K:=X.K) e1);obtain ⟨u1,B3,r1⟩:=X0.get hx;have C4:i<its1.length:=(E5.mp B3).1;obtain ⟨ol,gl,cl,_⟩:=p1.isList;have nli:l≠it:=fun q=>by
   obtain ⟨oi,gi,ci,_⟩:=hi;rw [q,gi] at gl
   cases gl
   rw [ci] at cl;exact absurd cl 'h'
  have nle:e≠l:=fun q=>by
   rw [<- q,he] at gl
   cases gl
   exact absurd (show Value.type "enumerate"=Value.type "list" from cl) 'h'
  refine wpAny_pyNext_enum_itemD (i:=i+1) (arC (A:=X.A.in1) (show X.A.in1.handled=none from I.ok.hd hc) nli its1.toArray) he ⟨by lia,by simpa using hi,p1.isList⟩ (by simp;lia) G9 (by simp [G9,nle]) fun y h' tk py b1 b2 b3 b4 b5=>?_
  obtain rfl:u1=y:=by
   have:=py.2
   simp [B3] at this;exact this
  refine ⟨_,rfl,wpAny_letOwnedTupleGo_enum b1 fun h2' c1 c2=>?_⟩;have i8:e<s.heap.objs.size:=Heap.lt_size he;have up:∀ c o,c≠e->h'.get? c=some o->h2'.get? c=some o:=fun c o hc q=>(c2.2 c hc).trans q
  have hT:=up _ _ (Nat.ne_of_gt i8) b3;have nT:∀ c∈[e,it],c≠s.heap.objs.size:=fun c hc=>by
   have q:c=e\/c=it:=by simpa using hc
   refine M5 ?_
   rcases q with rfl | rfl
   .exact i8
   .obtain ⟨o,q,_⟩:=hi;exact Heap.lt_size q
  refine ⟨.ref s.heap.objs.size,A0 H s.heap.objs.size (.tup [.int (i+1:Nat),x]),I.turnNew (t':=tk+1) (ch:=[e,it]) hf (fun c u hc q=>?_) (C3 _) ⟨by show 2<=sizeLine;decide,[.int (i+1:Nat) tk,u1],.cons ⟨_,rfl⟩ (.cons r1 .nil),?_⟩,rfl,⟨_,xs,x,e1,hx,I.fresh,rfl,rfl⟩,
   ⟨⟨_,c1⟩,(show h'.IsListIter it l (i+1) by simpa using b2.2.1).at fun o q=>up _ o G9.symm q⟩,fun c hc=>by rw [A7 (nT c hc)];exact (hf c hc).1⟩
  .have q1:c≠e/\c≠it:=⟨fun q=>hc (by simp [q]),fun q=>hc (by simp [q])⟩
   exact up c u q1.1 (b5 c u q1.1 q1.2 q)
  .exact ⟨_,hT,rfl,_,rfl⟩
 done:=by
  intro X hP hw hK hc i pins s Y H E I hf ⟨⟨old,he⟩,hi⟩ hg;subst hP hw hK;obtain ⟨xs,e1,iY⟩:=hg;obtain ⟨its1,X0,p1,_⟩:=I.list (D1.of (K:=X.K) e1);have q1:=X0.length;obtain ⟨f0,f1,f2,f3,f4,f5⟩:=hf it 'd';exact wpAny_pyNext_enum_endD (arD (A:=X.A.in1) (show X.A.in1.handled=none from I.ok.hd hc) (ys:=its1.toArray) (i:=i) (by simp;lia)) he ⟨rfl,hi,p1.isList⟩ fun h' eb=>⟨rfl,I.turned (t':=s.toks) (fun b o hb q=>eb b o hb q) f0 f1 f3 f4 f5⟩
 self:=fun _ _ _ _ _ st h=>by
  obtain ⟨⟨old,he⟩,_⟩:=st;exact wpAny_pyIter_enum he h
theorem akr:bootBuiltins "enumerate"=some (.type "enumerate"):=by decide +kernel
section
variable {X:Cx}
noncomputable def xC (ta:TA):TI:=fun Y H R=>ta Y H fun vs H1=>∃ (l:Addr) (xs:List V),vs=[.ref l]/\H1 l=some (.lst xs)/\R (Ite1 l) H1
theorem amm{a:Expr}{p pos:Pos}(hg:Gl X "enumerate")(hm:X.mg "enumerate"=none)(ha:PA X [a] ta)(h1:L7 a=false:=by rfl) :
  PI X (.Tuple elts x1 tpos) (.Call (.Name "enumerate" p) [a] [⟨some "start",.Constant (.int 1) ck cpos,kpos⟩] pos) (xC ta):=by
 intro pins s Y H R I h;refine wpAny_Call_Name_kw (aN I hg hm akr (PySem.W.callWith_of (P:=fun _=>True) ?_ (fun _ _=>⟨_,.inr 'f',PySem.W.Looks.of_pure rfl⟩) (PyProof.Rows.evalArgs_kw2 rfl (B1 (ha pos pins s Y H _ I h) fun us s1 ⟨vs,H1,I1,r1,q1⟩=>?_) (O0 h1))))
 .rw [O0 h1];rfl
 have kw:PK X [⟨some "start",.Constant (.int 1) ck cpos,kpos⟩] (tCons (tC (.int 1)) tNil):=anU amS aqO;refine B1 (kw pos pins s1 Y H1 (fun zs H2=>zs=[.int 1]/\H2=H1) I1 ⟨rfl,rfl⟩) fun ws s2 ⟨zs,H2,I2,rz,e1,e2⟩=>⟨trivial,?_⟩
 subst e1 e2;obtain ⟨l,xs,rfl,e1,q⟩:=q1;obtain ⟨u1,rfl,iZ⟩:=vals1 r1
 cases iZ
 obtain ⟨u2,rfl,ru2⟩:=vals1 rz;obtain ⟨t,rfl⟩:=ru2;obtain ⟨its1,X0,p1,_⟩:=I2.list (D1.of (K:=X.K) e1);refine aeH p1.isList 'h' fun h' z1 z2 z4=>wpAny_pyIter_enum z1 ?_
 refine ⟨s2.heap.objs.size+1,[s2.heap.objs.size+1,s2.heap.objs.size],_,_,H2,rfl,I2.kept (t':=s2.toks) z4,aiZ _ s2.heap.objs.size l (t4 'a'),⟨⟨_,z1⟩,z2⟩,fun b hb=>?_,q⟩;have Z9:s2.heap.objs.size<=b:=by
  have e:b=s2.heap.objs.size+1\/b=s2.heap.objs.size:=by simpa using hb
  rcases e with rfl | rfl
  .exact eL _ _
  .exact C3 _
 exact I2.fpOk Z9 (I2.hok.fresh Z9)
theorem amn{a:Expr}{p pos:Pos}(hm:X.mg "enumerate"=none)(ha:QA X [a] ta)(hg:Gl X "enumerate":=by rfl)(h1:L7 a=false:=by rfl) :
  QI X (.Tuple elts x1 tpos) (.Call (.Name "enumerate" p) [a] [⟨some "start",.Constant (.int 1) ck cpos,kpos⟩] pos) (xC ta):=⟨amm hg hm ha.out h1⟩
end
theorem akt{R:It->Hp->Prop} : xC ta Y H R=ta Y H fun vs H1=>∃ (l:Addr) (xs:List V),vs=[.ref l]/\H1 l=some (.lst xs)/\R (Ite1 l) H1:=rfl
theorem forE1{l:Addr}(Pv:Nat->St->Hp->Prop)(h0:Pv 0 Y H)(hl:∀ i Y H,Pv i Y H->H l=some (.lst xs))(hs:∀ i x t Y H,xs[i]?=some x->Pv i Y H->H t=none->g (.ref t) Y (A0 H t (.tup [.int (i+1:Nat),x])) fun σ2 H2=>tb { D with nx:=Pv (i+1),ct:=Pv (i+1),bk:=D.nx } σ2 H2)(hd:∀ Y H,Pv xs.length Y H->D.nx Y H):ForIt (Ite1 l) g tb D Y H:=by
 refine ⟨fun i m Y H=>m=xs.length-i/\i<=xs.length/\Pv i Y H,⟨xs.length,by simp,F7 _,h0⟩,?_⟩;rintro i m Y H ⟨rfl,hi,p⟩;have e1:=hl i Y H p
 by_cases C4:i<xs.length
 .refine .inr ⟨⟨xs,xs[i],e1,by simp⟩,Pv (i+1),fun σ' H' p'=>⟨_,by lia,rfl,C4,p'⟩,fun v H' y=>?_⟩;obtain ⟨t,xs',x,f1,hx,ht,rfl,rfl⟩:=y;rw [e1] at f1;cases f1;exact hs i x t Y H hx p ht
 .have e:i=xs.length:=by lia
  subst e;exact .inl ⟨⟨xs,e1,by lia⟩,hd Y H p⟩
end L2
namespace L2
open PySem PySem.Spec PyProof.Rows
noncomputable def aku:V->List V->Hp->VK->Prop:=fun x vs H Q=>∃ (l:Addr) (zs:List Str) (z:Str),x=.ref l/\vs=[.str z]/\H l=some (.lst (zs.map V.str))/\z∈zs/\Q (.int (zs.idxOf z:Nat)) H
theorem akv : kI X "list.index" aku:=by
 intro pins s Y H x vs v us Q I rx rv h;obtain ⟨l,zs,zz,rfl,rfl,hH,hm,q⟩:=h
 cases rx
 obtain ⟨u,rfl,ru⟩:=rv.one;obtain ⟨t,rfl⟩:=ru;obtain ⟨z,its,n,r,hl,e⟩:=I.lstM hH;have sa:=aeb r;have hj:zs.idxOf zz<zs.length:=eE.mpr hm;rw [A6] at hl z;have V8:∀ (j:Nat) (hj:j<its.toArray.size),∃ y t',zs[j]?=some y/\its.toArray[j]=.str y t':=fun j mH=>by
  have hj2:j<zs.length:=by rw [hl];simpa using mH
  obtain ⟨t',ht⟩:=afe sa (j:=j) (z:=zs[j]) 'd';refine ⟨zs[j],t',by simp,?_⟩
  have:=(E5.mp ht).2
  simpa using this
 have hsz:zs.idxOf zz<its.toArray.size:=by rw [K9,<- hl];exact hj
 rw [sizeLine_eq] at z;refine call_meets F.slot_list_index ⟨_,e,rfl⟩ F.entry_list_index (F.args_list_index_2 _ _)
  (MeetsSeq.list_index l its.toArray n (.str zz t) (isStrOf zz) (fun y hy=>eq_isStrOf zz t sa y (by simpa using hy)) (zs.idxOf zz) hsz 'a' ?_ (fun m dG C4=>?_)) ⟨e,?_⟩
 .obtain ⟨y,t',h1,h2⟩:=V8 _ hsz;rw [h2]
  have:y=zz:=by
   have:=gJ hj
   rw [L1 hj,this] at h1;exact (Option.some.inj h1).symm
  subst this;simp [isStrOf]
 .obtain ⟨y,t',h1,h2⟩:=V8 _ dG;rw [h2]
  have:y≠zz:=fun q=>by
   obtain ⟨h3,h4⟩:=E5.mp h1
   have:=List.not_of_lt_findIdx (show m<zs.findIdx (· == zz) from C4)
   rw [h4] at this;simp [q] at this
  simp [isStrOf,this]
 .exact ⟨.int (zs.idxOf zz:Nat),H,I.tok _,⟨_,rfl⟩,q⟩
theorem amo : QMt X "list.index" aku:=⟨fun pins s Y H x xs v us Q I rx rv h=>akv pins s Y H x xs v us Q I rx rv h⟩
noncomputable def xD:V->List V->Hp->VK->Prop:=fun x vs H Q=>∃ (l:Addr) (zs:List Int) (z:Int),x=.ref l/\vs=[.int z]/\H l=some (.lst (zs.map V.int))/\z∈zs/\Q .non (A0 H l (.lst ((zs.erase z).map V.int)))
theorem rT:∀ {vs:List Value} {zs:List Int},IntsAre vs zs->∀ {j:Nat} {z:Int},zs[j]?=some z->∃ t,vs[j]?=some (.int z t)
 | _,_,.nil,_,_,h=>by simp at h
 | _,_,.cons _ _ _,0,_,h=>by simp at h;subst h;exact ⟨_,rfl⟩
 | _,_,.cons _ _ r,j+1,z,h=>by
  obtain ⟨t,q⟩:=rT r (j:=j) (z:=z) (by simpa using h);exact ⟨t,by simpa using q⟩
theorem ai0 : kI X "list.remove" xD:=by
 intro pins s Y H x vs v us Q I rx rv h;obtain ⟨l,zs,zz,rfl,rfl,hH,hm,q⟩:=h
 cases rx
 obtain ⟨u,rfl,ru⟩:=rv.one;obtain ⟨t,rfl⟩:=ru;obtain ⟨z,its,n,r,hl,e⟩:=I.lstM hH;have sa:=qV r;have hj:zs.idxOf zz<zs.length:=eE.mpr hm;rw [A6] at hl;have V8:∀ (j:Nat) (hj:j<its.toArray.size),∃ y t',zs[j]?=some y/\its.toArray[j]=.int y t':=fun j mH=>by
  have hj2:j<zs.length:=by rw [hl];simpa using mH
  obtain ⟨t',ht⟩:=rT sa (j:=j) (z:=zs[j]) 'd';refine ⟨zs[j],t',by simp,?_⟩
  have:=(E5.mp ht).2
  simpa using this
 have hsz:zs.idxOf zz<its.toArray.size:=by rw [K9,<- hl];exact hj
 refine call_meets F.slot_list_remove ⟨_,e,rfl⟩ F.entry_list_remove (F.args_list_remove_2 _ _)
  (MeetsSeq.list_remove l its.toArray n (.int zz t) (isInt zz) (fun y hy=>eq_isInt zz t sa y (by simpa using hy)) (zs.idxOf zz) hsz ?_ (fun m dG C4=>?_) (by rw [K9,<- hl];rw [A6] at z;exact z)) ⟨e,?_⟩
 .obtain ⟨y,t',h1,h2⟩:=V8 _ hsz;rw [h2]
  have:y=zz:=by
   have:=gJ hj
   rw [L1 hj,this] at h1;exact (Option.some.inj h1).symm
  subst this;simp [isInt]
 .obtain ⟨y,t',h1,h2⟩:=V8 _ dG;rw [h2]
  have:y≠zz:=fun q=>by
   obtain ⟨h3,h4⟩:=E5.mp h1
   have:=List.not_of_lt_findIdx (show m<zs.findIdx (· == zz) from C4)
   rw [h4] at this;simp [q] at this
  simp [isInt,this]
 .refine ⟨.non,_,I.lset (its':=its.eraseIdx (zs.idxOf zz)) hH e ?_ ?_ ?_,rfl,q⟩
  .show its.toArray.eraseIdxIfInBounds (zs.idxOf zz)=_;rw [List.eraseIdxIfInBounds_toArray]
  .rw [List.erase_eq_eraseIdx_of_idxOf (l:=zs) (a:=zz) (w:=rfl),ago];exact r.eraseIdx _
  .rw [A6,qN hm];rw [A6] at z;lia
theorem akw : QMt X "list.remove" xD:=⟨fun pins s Y H x xs v us Q I rx rv h=>ai0 pins s Y H x xs v us Q I rx rv h⟩
theorem arE{l:Addr}{zs:List Int}{z:Int}(h:H l=some (.lst (zs.map V.int)))(hm:z∈zs)(q:Q .non (A0 H l (.lst ((zs.erase z).map V.int)))):xD (.ref l) [.int z] H Q:=⟨l,zs,z,rfl,rfl,h,hm,q⟩
noncomputable def rMinL:List V->Hp->VK->Prop:=fun xs H Q=>∃ (p:Addr) (ns:List Int),xs=[.ref p]/\H p=some (.lst (ns.map V.int))/\ns≠[]/\∀ M:Int,M∈ns->(∀ a∈ns,M<=a)->Q (.int M) H
theorem akx(hc:X.calm=true):CallR X (.builtin "min") rMinL:=by
 intro pins s Y H xs us Q I r h;obtain ⟨p,ns,rfl,hH,G9,q⟩:=h;obtain ⟨u,rfl,ru⟩:=vals1 r
 cases ru
 obtain ⟨z,its,n,rr,hl,e⟩:=I.lstM hH;have hi:=qV rr;have hL:s.heap.IsList p its.toArray:=⟨_,e,rfl,n,rfl⟩
 obtain ⟨ys,e2⟩:=hi.allInts.items;have fQ:ns=ys.toList.map (·.1):=by rw [<- hi.numsOf,<- nums_intItems,<- e2]
 have hsz:0<ys.size:=by
  have h3:=List.length_pos_iff.mpr G9;rw [fQ,A6,eP] at h3;exact h3
 rw [e2] at hL;refine min_intList (I.ok.hd hc) hL hsz fun v h' tk hv hk=>?_
 obtain ⟨t,rfl⟩:=intItems_at hv;obtain ⟨h1,h2⟩:=argBest_lt (numAt ys) (ys.size-1);refine ⟨.int _,H,I.kept hk,⟨t,rfl⟩,q _ ?_ fun a ha=>?_⟩
 .rw [fQ,numAt_eq];exact getD_mem (by rw [A6,eP];lia)
 .rw [fQ] at ha;obtain ⟨j,hj,rfl⟩:=mem_getD ha;rw [A6,eP] at hj;rw [<- numAt_eq];exact h2 j 'a'
theorem arF(hc:X.calm=calm:=by rfl):QCall X (.builtin "min") (rCalm calm rMinL):=⟨fun pins s Y H xs us Q I r h=>akx (hc.trans h.1) pins s Y H xs us Q I r h.2⟩
theorem arG : rMinL [.ref p] H Q=∃ ns:List Int,H p=some (.lst (ns.map V.int))/\ns≠[]/\∀ M:Int,M∈ns->(∀ a∈ns,M<=a)->Q (.int M) H:=
 propext ⟨fun ⟨_,ns,e,h⟩=>(by cases e;exact ⟨ns,h⟩),fun ⟨ns,h⟩=>⟨p,ns,rfl,h⟩⟩
noncomputable def kY (n:Nat) (fr:St) (Pv:Nat->List V->Hp->Prop) (i:Nat) (ys:List V) (σ2:St) (H2:Hp):Prop:=i<=n/\ys.length<=i/\(∃ v w,σ2=v::w::fr)/\Pv i ys H2
theorem kY.put{fr:St}{Pv:Nat->List V->Hp->Prop}{y:V}{o o2:Option V}(hi:i<n)(hy:ys.length<=i)(p:Pv (i+1) (ys++[y]) H):kY n fr Pv (i+1) (ys++[y]) (o::o2::fr) H:=
 ⟨hi,by rw [D9,Y8];lia,⟨_,_,rfl⟩,p⟩
theorem compE{l:Addr}(fr:St)(n9:compStart 2 ixs Y=none::none::fr)(Pv:Addr->Nat->List V->Hp->Prop)(h0:∀ D,H1 D=none->Pv D 0 [] (A0 H1 D (.lst [])))(hl:∀ D i ys H,H1 D=none->i<=xs.length->Pv D i ys H->H l=some (.lst xs))(hs:∀ D i x t ys H,H1 D=none->i<xs.length->xs[i]?=some x->Pv D i ys H->H D=some (.lst ys)->ys.length<=i->H t=none->c (some (.int i)::some x::fr) (A0 H t (.tup [.int i,x])) fun b H4=>
   if b=true then te (some (.int i)::some x::fr) H4 fun y H5=>H5 D=some (.lst ys)/\ys.length<sizeLine/\kY xs.length fr (Pv D) (i+1) (ys++[y]) (some (.int i)::some x::fr) (A0 H5 D (.lst (ys++[y])))
   else H4 D=some (.lst ys)/\kY xs.length fr (Pv D) (i+1) ys (some (.int i)::some x::fr) H4)(hd:∀ D ys H,H1 D=none->Pv D xs.length ys H->H D=some (.lst ys)->ys.length<=xs.length->Q (.ref D) H):eY (nU l) 2 ixs (gTup K 2 (gCons (gName 0) (gCons (gName 1) gNil))) c te Y Q H1:=by
 intro D hD;refine ⟨xs.length,kY xs.length fr (Pv D),⟨F7 _,F7 _,⟨none,none,n9⟩,h0 D hD⟩,?_⟩;rintro i ys σ2 H2 ⟨hi,hy,⟨v,w,rfl⟩,p⟩ hDy;have q:=hl D i ys H2 hD hi p
 by_cases C4:i<xs.length
 .refine .inr ⟨C4,⟨xs,xs[i],q,by simp [C4]⟩,fun x H' y=>?_⟩;obtain ⟨t,xs',x',f1,hx,ht,rfl,rfl⟩:=y;rw [q] at f1;cases f1;exact ⟨t,_,rfl,A8.of A3,rfl,_,_,rfl,_,_,rfl,rfl,hs D i x' t ys H2 hD C4 hx p hDy hy ht⟩
 .have e:i=xs.length:=by lia
  subst e;exact .inl ⟨⟨xs,q,C3 _⟩,hd D ys H2 hD p hDy hy⟩
theorem nY{o i:Expr}{pos:Pos}(ho:QE X o to)(hi:QE X i ti)(ha:∀ v,assign (.Subscript o i pos) X.env v=(do
   let ov <- holding [v] (eval o X.env)
   let iv <- holding [v,ov] (eval i X.env)
   standAt pos
   holding [v,ov,iv] (setItem ov iv v)
   release [v,ov,iv] []):=by intro _;rfl):QG X (.Subscript o i pos) (gSub to ti rSetL):=⟨aqt ho.out hi.out alB ha⟩
theorem arH{k:Int}{Q:Hp->Prop} : rSetL (.ref p) (.int k) v H Q=∃ xs j,H p=some (.lst xs)/\Y0 xs.length k=some j/\Q (A0 H p (.lst (xs.set j v))):=
 propext ⟨fun ⟨_,xs,_,j,e1,e2,h⟩=>(by cases e1;cases e2;exact ⟨xs,j,h⟩),fun ⟨xs,j,h⟩=>⟨p,xs,k,j,rfl,rfl,h⟩⟩
noncomputable def FS (ts bad:List Str) (z:Str->Prop) (fr:List Int):Prop:=fr.Nodup/\∀ n:Int,n∈fr↔∃ (m:Nat) (q:Str),n=(m:Int)/\ts[m]?=some q/\q∉bad/\z q
theorem FS.nil(z:Str->Prop):FS [] [] z []:=⟨by simp,fun n=>by simp⟩
theorem FS.snoc{z:Str->Prop}(h:FS ts bad z fr)(hi:i=ts.length)(hb:q∉bad):(z q->FS (ts++[q]) bad z (fr++[(i:Int)]))/\(¬ z q->FS (ts++[q]) bad z fr):=by
 have E9:∀ (m:Nat) (x:Str),(ts++[q])[m]?=some x↔(ts[m]?=some x\/(m=i/\x=q)):=fun m x=>by
  rcases mX m ts.length with hm | hm | hm
  .rw [eD hm]
   constructor
   .exact .inl
   .rintro (h | ⟨h,_⟩)
    .exact h
    .lia
  .subst hm;rw [gG (C3 _),Nat.sub_self]
   have:ts[ts.length]?=none:=by simp
   rw [this];simp [hi,eq_comm]
  .have h1:ts[m]?=none:=by simp;lia
   have h2:(ts++[q])[m]?=none:=by simp;lia
   rw [h1,h2]
   simp
   lia
 have iS:(i:Int)∉fr:=fun hm=>by
  obtain ⟨m,x,e,h1,_⟩:=(h.2 _).mp hm
  have:=(E5.mp h1).1
  lia
 refine ⟨fun hz=>⟨?_,fun n=>?_⟩,fun hz=>⟨h.1,fun n=>?_⟩⟩
 .rw [Y9];refine ⟨h.1,by simp,fun x hx y hy e=>iS ?_⟩;rw [<- E7.mp hy,<- e];exact hx
 .rw [G3,h.2,E7]
  constructor
  .rintro (⟨m,x,e,h1,h2,h3⟩ | rfl)
   .exact ⟨m,x,e,(E9 m x).mpr (.inl h1),h2,h3⟩
   .exact ⟨i,q,rfl,(E9 i q).mpr (.inr ⟨rfl,rfl⟩),hb,hz⟩
  .rintro ⟨m,x,e,h1,h2,h3⟩
   rcases (E9 m x).mp h1 with h1 | ⟨rfl,rfl⟩
   .exact .inl ⟨m,x,e,h1,h2,h3⟩
   .exact .inr e
 .rw [h.2]
  constructor
  .rintro ⟨m,x,e,h1,h2,h3⟩;exact ⟨m,x,e,(E9 m x).mpr (.inl h1),h2,h3⟩
  .rintro ⟨m,x,e,h1,h2,h3⟩
   rcases (E9 m x).mp h1 with h1 | ⟨rfl,rfl⟩
   .exact ⟨m,x,e,h1,h2,h3⟩
   .exact absurd h3 hz
theorem ah8(nd:ts.Nodup)(h1:ts[i]?=some q)(h2:ts[j]?=some q):i=j:=by
 obtain ⟨a1,b1⟩:=E5.mp h1;obtain ⟨a2,b2⟩:=E5.mp h2
 have:=bW.mp nd
 rw [eC] at this
 rcases mX i j with hl | hl | hl
 .exact absurd (b1.trans b2.symm) (this i j a1 a2 hl)
 .exact hl
 .exact absurd (b2.trans b1.symm) (this j i a2 a1 hl)
theorem FS.take{z:Str->Prop}(nd:ts.Nodup)(h:FS ts bad z fr){M:Nat}{p:Str}(hp:ts[M]?=some p):FS ts (bad++[p]) z (fr.erase (M:Int)):=by
 refine ⟨h.1.erase _,fun n=>?_⟩;rw [h.1.mem_erase_iff,h.2]
 constructor
 .rintro ⟨G9,m,x,e,h1,h2,h3⟩;refine ⟨m,x,e,h1,fun hm=>?_,h3⟩
  rcases G3.mp hm with hm | hm
  .exact h2 hm
  .rw [E7.mp hm] at h1;exact G9 (by rw [e,ah8 nd h1 hp])
 .rintro ⟨m,x,e,h1,h2,h3⟩;refine ⟨fun e2=>h2 ?_,m,x,e,h1,fun hm=>h2 (Q3 _ hm),h3⟩
  have:m=M:=by lia
  subst this;rw [hp] at h1;cases h1
  simp
theorem FS.turn{z z':Str->Prop}(nd:ts.Nodup)(h:FS ts bad z fr)(G9:∀ q,q≠y->(z' q↔z q))(hy:¬ z y)(hm:ts[m]?=some y)(hb:y∉bad):(z' y->FS ts bad z' (fr++[(m:Int)]))/\(¬ z' y->FS ts bad z' fr):=by
 have iS:(m:Int)∉fr:=fun h1=>by
  obtain ⟨k,x,e,h2,_,h3⟩:=(h.2 _).mp h1
  have:k=m:=by lia
  subst this;rw [hm] at h2;cases h2;exact hy h3
 have i9:∀ (k:Nat) (x:Str),ts[k]?=some x->x≠y\/(k=m/\x=y):=fun k x hk=>by
  by_cases e:x=y
  .subst e;exact .inr ⟨ah8 nd hk hm,rfl⟩
  .exact .inl e
 refine ⟨fun hz=>⟨?_,fun n=>?_⟩,fun hz=>⟨h.1,fun n=>?_⟩⟩
 .rw [Y9];refine ⟨h.1,by simp,fun x hx w hw e=>iS ?_⟩;rw [<- E7.mp hw,<- e];exact hx
 .rw [G3,h.2,E7]
  constructor
  .rintro (⟨k,x,e,h1,h2,h3⟩ | rfl)
   .rcases i9 k x h1 with c | ⟨_,rfl⟩
    .exact ⟨k,x,e,h1,h2,(G9 x c).mpr h3⟩
    .exact absurd h3 hy
   .exact ⟨m,y,rfl,hm,hb,hz⟩
  .rintro ⟨k,x,e,h1,h2,h3⟩
   rcases i9 k x h1 with c | ⟨rfl,rfl⟩
   .exact .inl ⟨k,x,e,h1,h2,(G9 x c).mp h3⟩
   .exact .inr e
 .rw [h.2]
  constructor
  .rintro ⟨k,x,e,h1,h2,h3⟩
   rcases i9 k x h1 with c | ⟨_,rfl⟩
   .exact ⟨k,x,e,h1,h2,(G9 x c).mpr h3⟩
   .exact absurd h3 hy
  .rintro ⟨k,x,e,h1,h2,h3⟩
   rcases i9 k x h1 with c | ⟨_,rfl⟩
   .exact ⟨k,x,e,h1,h2,(G9 x c).mp h3⟩
   .exact absurd h3 hz
theorem FS.congr{z z':Str->Prop}(h:FS ts bad z fr)(e:∀ q,z' q↔z q):FS ts bad z' fr:=⟨h.1,fun n=>by rw [h.2];exact ⟨fun ⟨m,x,a,b,c,d⟩=>⟨m,x,a,b,c,(e x).mpr d⟩,fun ⟨m,x,a,b,c,d⟩=>⟨m,x,a,b,c,(e x).mp d⟩⟩⟩
theorem ahd{E:List (Str×Str)}(h:FS ts line (fun q=>cnt E line q=0) fr){M:Int}(hM:M∈fr)(jB:∀ a∈fr,M<=a):∃ (m:Nat) (p:Str),M=(m:Int)/\ts[m]?=some p/\nextP E ts line=some p:=by
 obtain ⟨m,p,e,h1,h2,h3⟩:=(h.2 M).mp hM;refine ⟨m,p,e,h1,?_⟩;rw [aff];obtain ⟨hm,rfl⟩:=E5.mp h1;have e1:ts=ts.take m++ts[m]::ts.drop (m+1):=by rw [<- bX hm,j4]
 generalize hP:(fun p=>!decide (p∈line)&&decide (∀ e∈E,e.2=p->e.1∈line))=P;have hp:P ts[m]=true:=by
  rw [<- hP];simp only [e8,nA,decide_eq_false_iff_not,decide_eq_true_eq];exact ⟨h2,cnt_zero.mp h3⟩
 have pV:(ts.take m).find? P=none:=by
  rw [aI];intro x hx hxP;obtain ⟨k,hk,rfl⟩:=j5.mp hx;rw [G7] at hk;rw [List.getElem_take,<- hP] at hxP;simp only [e8,nA,decide_eq_false_iff_not,decide_eq_true_eq] at hxP
  have:=jB (k:Int) ((h.2 _).mpr ⟨k,ts[k],rfl,by simp,hxP.1,cnt_zero.mpr hxP.2⟩)
  lia
 conv=>lhs;rw [e1]
 rw [List.find?_append,pV,X5,hp];rfl
theorem amp{E:List (Str×Str)}(r:V3 E ts line)(h:q∈line):cnt E line q=0:=by
 obtain ⟨pre,post,rfl⟩:=List.append_of_mem h
 have:=(kT (r pre q post rfl)).2.2
 rw [cnt_zero] at this ⊢
 intro e he h2;exact Q3 _ (this e he h2)
theorem agx{f:Str->V} : ∀ {ts pre:List Str},(pre++ts).Nodup->Y1 (C2 pre f) (C2 ts f)=C2 (pre++ts) f
 | [],pre,_=>by rw [M8];rfl
 | t::ts,pre,h=>by
  have ht:t∉pre:=fun hm=>(Y9.mp h).2.2 t hm t N2 rfl
  show Y1 (putK (C2 pre f) (Sum.inr t) (f t)) (C2 ts f)=_;rw [fA _ ht,show C2 (pre++[t]) (fun x=>if x=t then f t else f x)=C2 (pre++[t]) f from V4 fun x _=>by
   by_cases e:x=t
   .rw [if_pos e,e]
   .rw [if_neg e]]
  rw [agx (pre:=pre++[t]) (by simpa using h)]
  simp
theorem afi:∀ {l m:List Int},l.Nodup->(∀ x∈l,x∈m)->l.length<=m.length
 | [],_,_,_=>F7 _
 | x::l,m,nd,h=>by
  obtain ⟨n1,n2⟩:=W0.mp nd;have hx:=h x N2
  have:=afi (l:=l) (m:=m.erase x) n2 fun y hy=>(List.mem_erase_of_ne (fun e=>n1 (by rw [<- e];exact hy))).mpr (h y (O7 _ hy))
  rw [qN hx] at this;have dF:=qO hx;rw [L3];lia
theorem ah9{f:Str->V} : ∀ {qs:List Addr} {ts:List Str},Paired (fun q t=>H q=some (.tup [.str t,f t])) qs ts->Paired (fun q (kx:B5×V)=>A8 K H q [kV kx.1,kx.2]) qs (C2 ts f)
 | _,_,.nil=>.nil
 | _,_,.cons h t=>.cons (.of h) (ah9 t)
theorem forRs(Pv:Nat->St->Hp->Prop)(h0:Pv 0 Y H)(hs:∀ (P':Nat->St->Hp->Prop) (B':St->Hp->Prop),(∀ i Y H,Pv i Y H->P' i Y H)->∀ i Y H,i<n->Pv i Y H->g (.int (lo+i)) Y H fun σ2 H2=>tb { D with nx:=P' (i+1),ct:=P' (i+1),bk:=B' } σ2 H2)(hd:∀ Y H,Pv n Y H->D.nx Y H):ForIt (p9 lo n) g tb D Y H:=forR Pv h0 (hs Pv _ fun _ _ _ h=>h) hd
theorem forLs(Pv:Nat->St->Hp->Prop)(h0:Pv 0 Y H)(hl:∀ i Y H,i<=xs.length->Pv i Y H->D1 K H a xs)(hs:∀ (P':Nat->St->Hp->Prop) (B':St->Hp->Prop),(∀ i Y H,Pv i Y H->P' i Y H)->∀ i x Y H,xs[i]?=some x->Pv i Y H->g x Y H fun σ2 H2=>tb { D with nx:=P' (i+1),ct:=P' (i+1),bk:=B' } σ2 H2)(hd:∀ Y H,Pv xs.length Y H->D.nx Y H):ForIt (aO K a) g tb D Y H:=forL Pv h0 hl (hs Pv _ fun _ _ _ h=>h) hd
theorem midS{t u:TS}(M:St->Hp->Prop)(h:∀ M':St->Hp->Prop,(∀ Y H,M Y H->M' Y H)->t { D with nx:=M' } Y H)(h2:∀ σ' H',M σ' H'->u D σ' H'):tSeqM t u D Y H:=⟨M,h M fun _ _ h=>h,h2⟩
noncomputable def am7:Sp:=fun vs H Q _=>∃ (a:Addr) (rs:List Addr) (zss:List (List Str)),vs=[.ref a]/\IsRows H a rs zss/\zss.flatten.length<=100000/\
 ∀ l H',H l=none->Same H H'->H' l=some (.lst ((toldL zss).map V.str))->Q (.ref l) H'
noncomputable def kZ:Sp:=fun vs H Q _=>∃ c,vs=[.str ⟨#[c]⟩]/\Q (.bl (figO c)) H
noncomputable def L0 (R:List Rl):List (Str×List Str):=R.filterMap fun z=>if z.1='i' then z.2.head?.map fun y=>(y,z.2.drop 1) else none
noncomputable def E4 (R:List Rl):List Str:=K8 [] ((L0 R).map (·.1))
noncomputable def D8 (R:List Rl) (y:Str):List Str:=((L0 R).filter fun e=>decide (e.1=y)).flatMap (·.2)
theorem cM(A B:List Rl):L0 (A++B)=L0 A++L0 B:=by
 unfold L0;rw [List.filterMap_append]
theorem xE{R:List Rl}{z:Rl}(h:R[i]?=some z):L0 (R.take (i+1))=L0 (R.take i)++L0 [z]:=by
 rw [M7 h,cM]
theorem fC{z:Rl}(h:z.1≠("great" : Str)):L0 [z]=[]:=by
 unfold L0;rw [bY,if_neg h];rfl
theorem xF{fs:List Str} : L0 [('i',y::fs)]=[(y,fs)]:=by
 unfold L0;rw [bY,if_pos rfl];rfl
theorem xG{A:List Rl}{fs:List Str}(x:Str):D8 (A++[('i',y::fs)]) x=if x=y then D8 A x++fs else D8 A x:=by
 unfold D8;rw [cM,xF,bZ,b9]
 by_cases h:x=y
 .subst h;simp
 .have:¬ (y=x):=fun e=>h e.symm
  simp [this,h]
theorem rV{A:List Rl}{fs:List Str} : E4 (A++[('i',y::fs)])=dd (E4 A) y:=by
 unfold E4 K8;rw [cM,xF,D0,aJ];rfl
noncomputable def aia (K:PySem.W.Frag):Sp:=fun vs H Q _=>∃ (a:Addr) (ts:List Addr) (R:List Rl),vs=[.ref a]/\IsRules H a ts R/\(∀ z∈R,z.1='i'->z.2≠[])/\R.length<=1000/\(∀ i y,(D8 (R.take i) y).length<=10000)/\
 ∀ d ad H',H d=none->Same H H'->H' d=some (.dK (C2 (E4 R) fun y=>.ref (ad y)))->DL H H' (E4 R) ad (D8 R)->Q (.ref d) H'
theorem aib(xs:List V)(h:i<=j):cutV xs (some (i:Int)) (some (j:Int))=(xs.drop i).take (j-i):=by
 unfold cutV;rw [HT.sIx_nat,HT.sIx_nat]
 by_cases hi:i<=xs.length
 .rw [eM hi]
  by_cases hj:j<=xs.length
  .rw [eM hj]
  .rw [Nat.min_eq_right 'a',u9 (by rw [aK];exact C3 _),u9 (by rw [aK];lia)]
 .rw [Nat.min_eq_right (by lia:xs.length<=i),mV (C3 _),mV 'a',List.take_nil,List.take_nil]
structure Used(ks:List Str)(g:Str->V)(z:Rl):Prop where
 gr:z.1='i'->∀ p∈z.2.take 1,p∈ks/\g p=.str "letter"
 a1:z.1=("as" : Str)->∀ p∈(z.2.drop 1).take 1,p∈ks/\g p=.str "letter"
 a2:z.1=("as" : Str)->∀ p∈z.2.drop 2,p∈ks/\(g p=.str "letter"\/g p=.str "mark")
noncomputable def am8 (K:PySem.W.Frag):Sp:=fun vs H Q _=>∃ (t d:Addr) (z:Rl) (ks:List Str) (g:Str->V),vs=[.ref t,.ref d]/\H t=some (tupR z)/\H d=some (.dK (C2 ks g))/\Used ks g z/\z.2.length<=1000/\∀ p H',H p=none->Same H H'->H' p=some (.lst [])->Q (.ref p) H'
noncomputable def aic (K:PySem.W.Frag):Sp:=fun vs H Q _=>∃ (a d:Addr) (ts:List Addr) (R:List Rl) (ks:List Str) (g:Str->V),vs=[.ref a,.ref d]/\IsRules H a ts R/\H d=some (.dK (C2 ks g))/\(∀ z∈R,Used ks g z/\z.2.length<=1000)/\∀ H',Same H H'->Q .non H'
noncomputable abbrev Tr:=Int×Int×Int
noncomputable def tupT (s:Tr):HO:=.tup [.int s.1,.int s.2.1,.int s.2.2]
structure StepAt(H:Hp)(r:Addr)(ss:List Tr):Prop where
 ex:∃ ts:List Addr,H r=some (.tup (ts.map V.ref))/\Paired (fun t s=>H t=some (tupT s)) ts ss
theorem StepAt.same{ss:List Tr}(h:StepAt H r ss)(S:Same H H'):StepAt H' r ss:=
 let ⟨ts,h1,h2⟩:=h.ex
 ⟨ts,S _ _ h1,N9 h2 fun _ _ e=>S _ _ e⟩
theorem StepAt.put{d:Addr}{ss:List Tr}{o o':HO}(h:StepAt H r ss)(hd:H d=some o')(hn:∀ xs,o'≠.tup xs):StepAt (A0 H d o) r ss:=by
 obtain ⟨ts,h1,h2⟩:=h.ex;refine ⟨ts,?_,N9 h2 fun t s e=>?_⟩
 .rw [A7 (fun e=>by rw [e,hd] at h1;exact hn _ (Option.some.inj h1))];exact h1
 .rw [A7 (fun q=>by rw [q,hd] at e;exact hn _ (Option.some.inj e))];exact e
theorem StepAt.one{t:Addr}{s:Tr}(h1:H r=some (.tup [.ref t]))(h2:H t=some (tupT s)):StepAt H r [s]:=⟨[t],h1,.cons h2 .nil⟩
noncomputable def IsMade (H:Hp) (d:Addr) (ks:List Str) (F:Str->List Tr):Prop:=∃ ad:Str->Addr,H d=some (.dK (C2 ks fun y=>.ref (ad y)))/\∀ y∈ks,StepAt H (ad y) (F y)
theorem IsMade.same{d:Addr}{F:Str->List Tr}(h:IsMade H d ks F)(S:Same H H'):IsMade H' d ks F:=
 let ⟨ad,h1,h2⟩:=h
 ⟨ad,S _ _ h1,fun y hy=>(h2 y hy).same S⟩
theorem IsMade.put{d:Addr}{F:Str->List Tr}{ad:Str->Addr}(h1:H d=some (.dK (C2 ks fun y=>.ref (ad y))))(h2:∀ y∈ks,StepAt H (ad y) (F y)){l:Str}(hp:StepAt H p (F l)) :
  IsMade (A0 H d (.dK (putK (C2 ks fun y=>.ref (ad y)) (Sum.inr l) (.ref p)))) d (dd ks l) F:=by
 refine ⟨fun y=>if y=l then p else ad y,?_,fun y hy=>?_⟩
 .rw [A3];have e:∀ t,(if t=l then V.ref p else V.ref (ad t))=V.ref (if t=l then p else ad t):=fun t=>by
   by_cases h:t=l
   .rw [if_pos h,if_pos h]
   .rw [if_neg h,if_neg h]
  unfold dd
  by_cases hl:l∈ks
  .rw [if_pos hl,nS _ hl];exact congrArg (fun x=>some (HO.dK x)) (V4 fun t _=>e t)
  .rw [if_neg hl,fA _ hl];exact congrArg (fun x=>some (HO.dK x)) (V4 fun t _=>e t)
 .by_cases h:y=l
  .subst h;show StepAt _ (if y=y then p else ad y) _;rw [if_pos rfl];exact hp.put h1 (by intro xs e;cases e)
  .show StepAt _ (if y=l then p else ad y) _;rw [if_neg h];refine (h2 y ?_).put h1 (by intro xs e;cases e);unfold dd at hy
   by_cases hl:l∈ks
   .rw [if_pos hl] at hy;exact hy
   .rw [if_neg hl] at hy
    rcases G3.mp hy with q | q
    .exact q
    .exact absurd (E7.mp q) h
structure StI(H H2:Hp)(d:Addr)(P:List Str)(F:Str->List Tr):Prop where
 same:Same H H2
 made:IsMade H2 d (K8 [] P) F
theorem amq(P:List Str)(x:Str):K8 [] (P++[x])=dd (K8 [] P) x:=by
 unfold K8;rw [aJ];rfl
theorem StI.putX{d:Addr}{P:List Str}{F:Str->List Tr}(nd:H d=none)(h:StI H H2 d P F)(hP:P.length<100000){l:Str}(hp:StepAt H2 p (F l)) :
  ∃ kvs o,H2 d=some (.dK kvs)/\DPut H2 d (V.str l) (V.ref p) (A0 H2 d o)/\StI H (A0 H2 d o) d (P++[l]) F:=by
 obtain ⟨ad,h1,h2⟩:=h.made;have hl:=nN P [];rw [Z0,Nat.zero_add] at hl;refine ⟨_,_,h1,cI (k:=Sum.inr l) h1 (by rw [k8];exact L8 'a'),h.same.put nd,?_⟩;rw [amq];exact IsMade.put h1 h2 hp
theorem StI.put{d:Addr}{P:List Str}{F:Str->List Tr}(nd:H d=none)(h:StI H H2 d P F)(hP:P.length<100000){l:Str}(hp:StepAt H2 p (F l)) :
  ∃ x,DPut H2 d (V.str l) (V.ref p) x/\StI H x d (P++[l]) F:=
 let ⟨_,_,_,h1,h2⟩:=h.putX nd hP hp
 ⟨_,h1,h2⟩
theorem StI.more{d:Addr}{P:List Str}{F:Str->List Tr}(h:StI H H2 d P F)(S:Same H2 H3):StI H H3 d P F:=⟨h.same.trans S,h.made.same S⟩
theorem StI.frz{d:Addr}{P:List Str}{F:Str->List Tr}{o:HO}(h:StI H H2 d P F)(hf:H2 f=some (.dK kvs))(n:H f=none)(nf:f≠d):StI H (A0 H2 f o) d P F:=
 let ⟨ad,h1,h2⟩:=h.made
 ⟨h.same.put n,ad,by rw [A7 nf.symm];exact h1,fun y hy=>(h2 y hy).put hf (by intro xs e;cases e)⟩
theorem StI.thaw{d:Addr}{P:List Str}{F:Str->List Tr}{q:Obj}{o o':HO}(h:StI H H2 d P F)(hf:H2 f=some (.frz q o'))(n:H f=none)(nf:f≠d):StI H (A0 H2 f o) d P F:=
 let ⟨ad,h1,h2⟩:=h.made
 ⟨h.same.put n,ad,by rw [A7 nf.symm];exact h1,fun y hy=>(h2 y hy).put hf (by intro xs e;cases e)⟩
structure FoI(H H2:Hp)(d f:Addr)(o:Obj)(ts:List Str)(af:Str->Addr)(G:Str->List Str)(P:List Str)(F:Str->List Tr):Prop where
 frz:H2 f=some (.frz o (.dK (C2 ts fun y=>.ref (af y))))
 rows:∀ y∈ts,H2 (af y)=some (.lst ((G y).map V.str))
 st:StI H H2 d P F
theorem FoI.more{d:Addr}{af:Str->Addr}{G:Str->List Str}{P:List Str}{F:Str->List Tr}(h:FoI H H2 d f o ts af G P F)(S:Same H2 H3):FoI H H3 d f o ts af G P F:=⟨S _ _ h.frz,fun y hy=>S _ _ (h.rows y hy),h.st.more S⟩
theorem FoI.put{d:Addr}{af:Str->Addr}{G:Str->List Str}{P:List Str}{F:Str->List Tr}(nd:H d=none)(h:FoI H H2 d f o ts af G P F)(hP:P.length<100000){l:Str}(hp:StepAt H2 p (F l)) :
  ∃ x,DPut H2 d (V.str l) (V.ref p) x/\FoI H x d f o ts af G (P++[l]) F:=by
 obtain ⟨kvs,o',h0,h1,h2⟩:=h.st.putX nd hP hp;refine ⟨_,h1,?_,fun y hy=>?_,h2⟩
 .rw [A7 (fun e=>by have:=h.frz;rw [e,h0] at this;cases this)];exact h.frz
 .rw [A7 (fun e=>by have:=h.rows y hy;rw [e,h0] at this;cases this)];exact h.rows y hy
theorem StI.putL{d:Addr}{P:List Str}{F:Str->List Tr}{o:HO}(h:StI H H2 d P F)(hf:H2 f=some (.lst xs))(n:H f=none):StI H (A0 H2 f o) d P F:=
 let ⟨ad,h1,h2⟩:=h.made
 ⟨h.same.put n,ad,by rw [A7 (fun e=>by rw [e,hf] at h1;cases h1)];exact h1,fun y hy=>(h2 y hy).put hf (by intro xs e;cases e)⟩
structure AsI(H H7 H2:Hp)(d:Addr)(P:List Str)(F:Str->List Tr)(ts:List Addr)(ss:List Tr):Prop where
 st:StI H H2 d P F
 pr:Paired (fun t s=>H2 t=some (tupT s)) ts ss
 sm:Same H7 H2
theorem AsI.putL{H7:Hp}{d:Addr}{P:List Str}{F:Str->List Tr}{ts:List Addr}{ss:List Tr}{o:HO}(h:AsI H H7 H2 d P F ts ss)(hf:H2 f=some (.lst xs))(n:H f=none)(n7:H7 f=none):AsI H H7 (A0 H2 f o) d P F ts ss:=
 ⟨h.st.putL hf n,N9 h.pr fun t s e=>by rw [A7 (fun q=>by rw [q,hf] at e;cases e)];exact e,h.sm.put n7⟩
noncomputable def asKs (R:List Rl):List Str:=R.filterMap fun z=>if z.1=("as" : Str) then z.2.head? else none
theorem agy{R:List Rl}{z:Rl}(h:R[i]?=some z):asKs (R.take (i+1))=asKs (R.take i)++asKs [z]:=by
 rw [M7 h];unfold asKs;rw [List.filterMap_append]
theorem aky{z:Rl}(h:z.1≠("as" : Str)):asKs [z]=[]:=by
 unfold asKs;rw [bY,if_neg h];rfl
theorem aid{fs:List Str} : asKs [(("as" : Str),y::fs)]=[y]:=by
 unfold asKs;rw [bY,if_pos rfl];rfl
theorem amr(R:List Rl):(asKs R).length<=R.length:=List.length_filterMap_le _ _
structure Made(R:List Rl)(L M:List Str)(F:Str->List Tr):Prop where
 lt:∀ (i:Nat) y,L[i]?=some y->F y=[(2,(i:Int),0)]
 mr:∀ (i:Nat) y,M[i]?=some y->F y=[(0,(i:Int),0)]
 gl:∀ y∈E4 R,y∈L
 gr:∀ y∈E4 R,∀ (c:Nat) f,(D8 R y)[c]?=some f->F f=[(2,(L.idxOf y:Int),((c+1:Nat):Int))]
 ne:∀ z∈R,z.1=("as" : Str)\/z.1='i'->z.2≠[]
 pt:∀ z∈R,z.1=("as" : Str)->∀ q∈z.2.drop 1,q∈L\/q∈M
 as:∀ z∈R,z.1=("as" : Str)->∀ p qs,z.2=p::qs->F p=qs.map fun q=>(F q).headD (0,0,0)
noncomputable def allKs (R:List Rl) (L M:List Str):List Str:=L++M++(E4 R).flatMap (D8 R)++asKs R
theorem Made.base{R:List Rl}{F:Str->List Tr}(m:Made R L M F)(h:q∈L\/q∈M):∃ s,F q=[s]:=by
 rcases h with h | h
 .obtain ⟨i,hi,e⟩:=j5.mp h;exact ⟨_,m.lt i q (by rw [L1 hi,e])⟩
 .obtain ⟨i,hi,e⟩:=j5.mp h;exact ⟨_,m.mr i q (by rw [L1 hi,e])⟩
theorem Made.letter{R:List Rl}{F:Str->List Tr}(m:Made R L M F)(h:q∈L):F q=[(2,(L.idxOf q:Int),0)]:=by
 have hi:=eE.mpr h;exact m.lt (L.idxOf q) q (by rw [L1 hi,gJ])
noncomputable def aie (K:PySem.W.Frag):Sp:=fun vs H Q _=>∃ (a b c:Addr) (ts:List Addr) (R:List Rl) (L M:List Str) (F:Str->List Tr),vs=[.ref a,.ref b,.ref c]/\IsRules H a ts R/\Made R L M F/\H b=some (.lst (L.map V.str))/\H c=some (.lst (M.map V.str))/\(∀ z∈R,z.2.length<=1000)/\R.length<=1000/\(∀ i y,(D8 (R.take i) y).length<=10000)/\(allKs R L M).length<=50000/\
 ∀ d H',H d=none->Same H H'->IsMade H' d (K8 [] (allKs R L M)) F->Q (.ref d) H'
noncomputable def baseT (L M:List Str) (q:Str):Tr:=if q∈L then (2,(L.idxOf q:Int),0) else (0,(M.idxOf q:Int),0)
noncomputable def rW (L M:List Str) (R:List Rl):List (Str×List Tr):=R.filterMap fun z=>if z.1=("as" : Str) then z.2.head?.map fun p=>(p,(z.2.drop 1).map (baseT L M)) else none
noncomputable def putsL (R:List Rl) (L M:List Str):List (Str×List Tr):=
 (L.zipIdx.map fun e=>(e.1,[((2:Int),(e.2:Int),(0:Int))]))++(M.zipIdx.map fun e=>(e.1,[((0:Int),(e.2:Int),(0:Int))]))++((E4 R).flatMap fun y=>(D8 R y).zipIdx.map fun e=>(e.1,[((2:Int),(L.idxOf y:Int),((e.2+1:Nat):Int))]))++rW L M R
noncomputable def stepF (R:List Rl) (L M:List Str) (p:Str):List Tr:=((putsL R L M).lookup p).getD []
theorem akz{p:Str}{s:List Tr} : ∀ {l:List (Str×List Tr)},(l.map (·.1)).Nodup->(p,s)∈l->l.lookup p=some s
 | [],_,h=>by cases h
 | (y,t)::l,nd,h=>by
  rw [F6,W0] at nd;rw [List.lookup_cons]
  rcases L4.mp h with h | h
  .obtain ⟨rfl,rfl⟩:=Prod.mk.inj h
   simp
  .have:p≠y:=fun e=>nd.1 (C6.mpr ⟨_,h,e⟩)
   have e:(p==y)=false:=by simpa using this
   rw [e];exact akz nd.2 h
theorem agz(R:List Rl)(L M:List Str):(putsL R L M).map (·.1)=allKs R L M:=by
 have z:∀ (l:List Str) (f:Nat->List Tr),(l.zipIdx.map fun e=>(e.1,f e.2)).map (·.1)=l:=fun l f=>by
  rw [R3];exact List.zipIdx_map_fst 0 l
 have a:(rW L M R).map (·.1)=asKs R:=by
  unfold rW asKs;rw [List.map_filterMap]
  congr 1
  funext z
  by_cases h:z.1=("as" : Str)
  .rw [if_pos h,if_pos h]
   cases z.2 <;> rfl
  .rw [if_neg h,if_neg h];rfl
 unfold putsL allKs;rw [D0,D0,D0,z L fun i=>[(2,(i:Int),0)],z M fun i=>[(0,(i:Int),0)],a,List.map_flatMap]
 congr 2
 congr 1
 funext y
 exact z (D8 R y) fun i=>[(2,(L.idxOf y:Int),((i+1:Nat):Int))]
theorem lA{R:List Rl}(nd:(allKs R L M).Nodup){p:Str}{s:List Tr}(h:(p,s)∈putsL R L M):stepF R L M p=s:=by
 unfold stepF;rw [akz (by rw [agz];exact nd) h];rfl
theorem aoT{R:List Rl}(nd:(allKs R L M).Nodup)(gl:∀ y∈E4 R,y∈L)(ne:∀ z∈R,z.1=("as" : Str)\/z.1='i'->z.2≠[])(pt:∀ z∈R,z.1=("as" : Str)->∀ q∈z.2.drop 1,q∈L\/q∈M):Made R L M (stepF R L M):=by
 have m1:∀ (i:Nat) y,L[i]?=some y->(y,[((2:Int),(i:Int),(0:Int))])∈putsL R L M:=fun i y h=>by
  refine Q3 _ (Q3 _ (Q3 _ (C6.mpr ⟨(y,i),?_,rfl⟩)));rw [List.mem_zipIdx_iff_getElem?];exact h
 have m2:∀ (i:Nat) y,M[i]?=some y->(y,[((0:Int),(i:Int),(0:Int))])∈putsL R L M:=fun i y h=>by
  refine Q3 _ (Q3 _ (N7 _ (C6.mpr ⟨(y,i),?_,rfl⟩)));rw [List.mem_zipIdx_iff_getElem?];exact h
 have hb:∀ q,q∈L\/q∈M->stepF R L M q=[baseT L M q]:=fun q hq=>by
  unfold baseT
  by_cases h:q∈L
  .rw [if_pos h];have hi:=eE.mpr h;exact lA nd (m1 (L.idxOf q) q (by rw [L1 hi,gJ]))
  .rw [if_neg h];have hm:=hq.resolve_left h;have hi:=eE.mpr hm;exact lA nd (m2 (M.idxOf q) q (by rw [L1 hi,gJ]))
 refine ⟨fun i y h=>lA nd (m1 i y h),fun i y h=>lA nd (m2 i y h),gl,fun y hy c f h=>lA nd ?_,ne,pt,fun z hz e p qs ez=>?_⟩
 .refine Q3 _ (N7 _ (U8.mpr ⟨y,hy,C6.mpr ⟨(f,c),?_,rfl⟩⟩));rw [List.mem_zipIdx_iff_getElem?];exact h
 .have:(p,qs.map (baseT L M))∈putsL R L M:=N7 _ (jV.mpr ⟨z,hz,by rw [if_pos e,ez];rfl⟩)
  rw [lA nd this];refine jU fun q hq=>?_
  rw [hb q (pt z hz e q (by rw [ez];exact hq))];rfl
theorem aoU{g:Str->Str}{PL:List (Str×Str)}(nc:NC fg g PL):PL.Pairwise fun a b=>a.1=b.1->b.2∈nV:=by
 rw [eC];intro i j hi hj hij e;refine (nc j PL[j].1 PL[j].2 (by rw [L1 hj])).2.1 ?_;rw [<- e];refine C6.mpr ⟨PL[i],?_,rfl⟩;rw [jP];exact ⟨i,by lia,rfl⟩
theorem nZ{g:Str->Str}{PL:List (Str×Str)}(nc:NC fg g PL){p j:Str}(h:(p,j)∈PL):g p=j:=by
 obtain ⟨i,hi,e⟩:=j5.mp h;exact (nc i p j (by rw [L1 hi,e])).1.symm
theorem akA{g:Str->Str}{PL:List (Str×Str)}(nc:NC fg g PL){j:Str}(hj:j∉nV):((PL.filter fun e=>decide (e.2=j)).map (·.1)).Nodup:=by
 rw [bW,List.pairwise_map];refine List.Pairwise.imp_of_mem ?_ ((aoU nc).filter _);intro a b _ hb h e
 have:=h e
 have hb2:b.2=j:=by simpa using (X4.mp hb).2
 rw [hb2] at this;exact hj this
theorem rX{w:Str}(h:hV w):(jobD w='i'↔w="great")/\(jobD w=("as" : Str)↔w="as")/\(jobD w=("letter" : Str)↔w="row")/\(jobD w=("mark" : Str)↔w="marks")/\(jobD w=("over" : Str)↔w="over"):=by
 rcases h with rfl | rfl | rfl | rfl | rfl <;> decide +kernel
theorem agB{R:List Rl}{p j:Str} : (p,j)∈C7 R↔∃ z∈R,p∈P5 z/\jobD z.1=j:=by
 unfold C7;rw [U8]
 constructor
 .rintro ⟨z,hz,h⟩;obtain ⟨q,hq,e⟩:=C6.mp h;obtain ⟨rfl,rfl⟩:=Prod.mk.inj e;exact ⟨z,hz,hq,rfl⟩
 .rintro ⟨z,hz,hp,rfl⟩;exact ⟨z,hz,C6.mpr ⟨p,hp,rfl⟩⟩
theorem oA(z:Rl)(R:List Rl):C7 (z::R)=((P5 z).map fun p=>(p,jobD z.1))++C7 R:=by
 unfold C7;rw [o6]
theorem aY{z:Rl} : (z.1='i'->P5 z=z.2.drop 1)/\(z.1=("as" : Str)->P5 z=z.2.take 1)/\(z.1=("row" : Str)\/z.1=("marks" : Str)\/z.1=("over" : Str)->P5 z=z.2):=by
 unfold P5;refine ⟨fun h=>by rw [if_pos h],fun h=>?_,fun h=>?_⟩
 .rw [if_neg (by rw [h];decide +kernel),if_pos h]
 .rw [if_neg,if_neg,if_pos h]
  .rcases h with h | h | h <;> rw [h] <;> decide +kernel
  .rcases h with h | h | h <;> rw [h] <;> decide +kernel
theorem oB:∀ R:List Rl,((C7 R).filter fun e=>decide (e.2='i')).map (·.1)=(L0 R).flatMap (·.2)
 | []=>rfl
 | z::R=>by
  rw [oA,bZ,D0,oB R];have e:L0 (z::R)=L0 [z]++L0 R:=cM [z] R;rw [e,b9]
  congr 1
  by_cases h:z.1='i'
  .obtain ⟨w,ps⟩:=z;obtain rfl:w='i':=h;rw [aY.1 rfl,List.filter_eq_self.mpr,R3]
   .cases ps with
    | nil=>simp [L0]
    | cons y fs=>
     rw [xF];show List.map _ fs=_;simp [Function.comp_def]
   .intro a ha;obtain ⟨q,_,rfl⟩:=C6.mp ha;exact decide_eq_true (show jobD "great"='i' by decide +kernel)
  .rw [fC h,mU.mpr]
   .rfl
   .intro a ha;obtain ⟨q,hq,rfl⟩:=C6.mp ha
    have:=(rX (nW hq)).1
    simp only [decide_eq_true_eq];exact fun e=>h (this.mp e)
theorem rY:∀ R:List Rl,((C7 R).filter fun e=>decide (e.2=("as" : Str))).map (·.1)=asKs R
 | []=>rfl
 | z::R=>by
  rw [oA,bZ,D0,rY R];have e:asKs (z::R)=asKs [z]++asKs R:=by unfold asKs;rw [<- List.filterMap_append];rfl
  rw [e]
  congr 1
  by_cases h:z.1=("as" : Str)
  .obtain ⟨w,ps⟩:=z;obtain rfl:w=("as" : Str):=h;rw [aY.2.1 rfl,List.filter_eq_self.mpr,R3]
   .cases ps with
    | nil=>simp [asKs]
    | cons y fs=>
     rw [aid];rfl
   .intro a ha;obtain ⟨q,_,rfl⟩:=C6.mp ha;exact decide_eq_true (show jobD "as"=("as" : Str) by decide +kernel)
  .rw [aky h,mU.mpr]
   .rfl
   .intro a ha;obtain ⟨q,hq,rfl⟩:=C6.mp ha
    have:=(rX (nW hq)).2.1
    simp only [decide_eq_true_eq];exact fun e=>h (this.mp e)
theorem agC{R:List Rl}{w p:Str} : p∈(rowsW R w).flatten↔∃ z∈R,z.1=w/\p∈z.2:=by
 unfold rowsW;rw [List.mem_flatten]
 constructor
 .rintro ⟨l,hl,hp⟩;obtain ⟨z,hz,rfl⟩:=C6.mp hl;obtain ⟨h1,h2⟩:=X4.mp hz;exact ⟨z,h1,by simpa using h2,hp⟩
 .rintro ⟨z,hz,e,hp⟩;exact ⟨z.2,C6.mpr ⟨z,X4.mpr ⟨hz,by simpa using e⟩,rfl⟩,hp⟩
theorem mem_letter{R:List Rl}{p:Str} : (p,("letter" : Str))∈C7 R↔p∈(rowsW R "row").flatten:=by
 rw [agB,agC]
 constructor
 .rintro ⟨z,hz,hp,e⟩
  have:=(rX (nW hp)).2.2.1.mp e
  exact ⟨z,hz,this,by rw [aY.2.2 (.inl this)] at hp;exact hp⟩
 .rintro ⟨z,hz,e,hp⟩;exact ⟨z,hz,by rw [aY.2.2 (.inl e)];exact hp,by rw [e];decide +kernel⟩
theorem mem_mark{R:List Rl}{p:Str} : (p,("mark" : Str))∈C7 R↔p∈(rowsW R "marks").flatten:=by
 rw [agB,agC]
 constructor
 .rintro ⟨z,hz,hp,e⟩
  have:=(rX (nW hp)).2.2.2.1.mp e
  exact ⟨z,hz,this,by rw [aY.2.2 (.inr (.inl this))] at hp;exact hp⟩
 .rintro ⟨z,hz,e,hp⟩;exact ⟨z,hz,by rw [aY.2.2 (.inr (.inl e))];exact hp,by rw [e];decide +kernel⟩
theorem xH{zss:List (List Str)}{p:Str} : p∈toldL zss↔p∈zss.flatten:=by
 unfold toldL;rw [rH,aW]
 simp
theorem fD{R:List Rl}{w:Str}(h:Q6 R w L){p:Str} : p∈L↔p∈(rowsW R w).flatten:=by
 rw [<- xH];exact ⟨h.1.sub,h.2 p⟩
structure GoodR(g:Str->Str)(r1 r2:Str->Nat)(R:List Rl):Prop where
 len:R.length<=1000
 plen:(C7 R).length<=10000
 nc:NC (hasW R "figures") g (C7 R)
 nb:(" " : Str)∉(C7 R).map (·.1)
 zl:∀ z∈R,z.2.length<=1000
 ne:∀ z∈R,z.1=("as" : Str)\/z.1='i'->z.2≠[]
 gl:∀ z∈R,z.1='i'->∀ p∈z.2.take 1,(p,("letter" : Str))∈C7 R
 al:∀ z∈R,z.1=("as" : Str)->∀ p∈(z.2.drop 1).take 1,(p,("letter" : Str))∈C7 R
 am:∀ z∈R,z.1=("as" : Str)->∀ p∈z.2.drop 2,(p,("letter" : Str))∈C7 R\/(p,("mark" : Str))∈C7 R
 f1:(rowsW R "row").flatten.length<=10000
 f2:(rowsW R "marks").flatten.length<=10000
 a1:∀ e∈edges (rowsW R "row"),r1 e.1<r1 e.2
 a2:∀ e∈edges (rowsW R "marks"),r2 e.1<r2 e.2
theorem GoodR.job{g:Str->Str}{r1 r2:Str->Nat}{R:List Rl}(h:GoodR g r1 r2 R){p j:Str}(hp:(p,j)∈C7 R):p∈keysP (C7 R)++W6 R/\jobG g p=.str j:=by
 have hm:p∈(C7 R).map (·.1):=C6.mpr ⟨_,hp,rfl⟩;refine ⟨Q3 _ ((rS _ _).mpr hm),?_⟩;unfold jobG;rw [if_neg (fun e=>h.nb (by rw [<- e];exact hm)),nZ h.nc hp]
theorem GoodR.used{g:Str->Str}{r1 r2:Str->Nat}{R:List Rl}(h:GoodR g r1 r2 R){z:Rl}(hz:z∈R):Used (keysP (C7 R)++W6 R) (jobG g) z:=
 ⟨fun e p hp=>h.job (h.gl z hz e p hp),fun e p hp=>h.job (h.al z hz e p hp),fun e p hp=>(h.am z hz e p hp).elim (fun q=>⟨(h.job q).1,.inl (h.job q).2⟩) fun q=>⟨(h.job q).1,.inr (h.job q).2⟩⟩
theorem forms_mem{R:List Rl}{f:Str} : f∈D8 R y↔∃ e∈L0 R,e.1=y/\f∈e.2:=by
 unfold D8;rw [U8]
 constructor
 .rintro ⟨e,he,hf⟩;obtain ⟨h1,h2⟩:=X4.mp he;exact ⟨e,h1,by simpa using h2,hf⟩
 .rintro ⟨e,he,h,hf⟩;exact ⟨e,X4.mpr ⟨he,by simpa using h⟩,hf⟩
theorem mem_formKs{R:List Rl} : y∈E4 R↔∃ e∈L0 R,e.1=y:=by
 unfold E4;rw [aW,C6]
 simp
theorem am9{g:Str->Str}{r1 r2:Str->Nat}{R:List Rl}(h:GoodR g r1 r2 R)(hL:Q6 R "row" L)(hM:Q6 R "marks" M):(allKs R L M).Nodup:=by
 have Z:((L0 R).flatMap (·.2)).Nodup:=by rw [<- oB];exact akA h.nc 'c'
 have jl:∀ p∈L,g p="letter":=fun p hp=>nZ h.nc (mem_letter.mpr ((fD hL).mp hp))
 have jm:∀ p∈M,g p="mark":=fun p hp=>nZ h.nc (mem_mark.mpr ((fD hM).mp hp))
 have jf:∀ p∈(E4 R).flatMap (D8 R),g p="great":=fun p hp=>by
  obtain ⟨y,_,hp⟩:=U8.mp hp;obtain ⟨e,he,_,hf⟩:=forms_mem.mp hp
  have:p∈(L0 R).flatMap (·.2):=U8.mpr ⟨e,he,hf⟩
  rw [<- oB] at this;obtain ⟨⟨q,j⟩,hq,rfl⟩:=C6.mp this;obtain ⟨h1,h2⟩:=X4.mp hq;have h2:j='i':=by simpa using h2
  subst h2;exact nZ h.nc h1
 have ja:∀ p∈asKs R,g p="as":=fun p hp=>by
  rw [<- rY] at hp;obtain ⟨⟨q,j⟩,hq,rfl⟩:=C6.mp hp;obtain ⟨h1,h2⟩:=X4.mp hq;have h2:j=("as" : Str):=by simpa using h2
  subst h2;exact nZ h.nc h1
 have nf:((E4 R).flatMap (D8 R)).Nodup:=by
  rw [bW,List.pairwise_flatMap] at Z ⊢
  obtain ⟨z1,z2⟩:=Z;refine ⟨fun y _=>?_,?_⟩
  .unfold D8;rw [List.pairwise_flatMap];exact ⟨fun e he=>z1 e (X4.mp he).1,z2.filter _⟩
  .have nk:(E4 R).Nodup:=by unfold E4;exact wU 'd'
   refine List.Pairwise.imp ?_ (bW.mp nk);intro y y' hyy f hf f' hf' e;subst e;obtain ⟨e1,h1,r1,f1⟩:=forms_mem.mp hf;obtain ⟨e2,h2,r2,f2⟩:=forms_mem.mp hf';obtain ⟨i,hi,q1⟩:=j5.mp h1;obtain ⟨j,hj,q2⟩:=j5.mp h2;rw [eC] at z2
   rcases mX i j with c | c | c
   .exact z2 i j hi hj c f (by rw [q1];exact f1) f (by rw [q2];exact f2) rfl
   .subst c;exact hyy (by rw [<- r1,<- r2,<- q1,<- q2])
   .exact z2 j i hj hi c f (by rw [q2];exact f2) f (by rw [q1];exact f1) rfl
 have na:(asKs R).Nodup:=by rw [<- rY];exact akA h.nc 'c'
 have n1:("letter" : Str)≠"mark"/\("letter" : Str)≠"great"/\("letter" : Str)≠"as"/\("mark" : Str)≠"great"/\("mark" : Str)≠"as"/\("great" : Str)≠"as":=by decide +kernel
 unfold allKs;rw [Y9,Y9,Y9];refine ⟨⟨⟨hL.1.nodup,hM.1.nodup,fun a ha b hb e=>?_⟩,nf,fun a ha b hb e=>?_⟩,na,fun a ha b hb e=>?_⟩
 .subst e;exact n1.1 ((jl a ha).symm.trans (jm a hb))
 .subst e
  rcases G3.mp ha with ha | ha
  .exact n1.2.1 ((jl a ha).symm.trans (jf a hb))
  .exact n1.2.2.2.1 ((jm a ha).symm.trans (jf a hb))
 .subst e
  rcases G3.mp ha with ha | ha
  .rcases G3.mp ha with ha | ha
   .exact n1.2.2.1 ((jl a ha).symm.trans (ja a hb))
   .exact n1.2.2.2.2.1 ((jm a ha).symm.trans (ja a hb))
  .exact n1.2.2.2.2.2 ((jf a ha).symm.trans (ja a hb))
theorem oC{g:Str->Str}{r1 r2:Str->Nat}{R:List Rl}(h:GoodR g r1 r2 R)(hL:Q6 R "row" L)(hM:Q6 R "marks" M):Made R L M (stepF R L M):=by
 refine aoT (am9 h hL hM) (fun y hy=>?_) h.ne fun z hz e q hq=>?_
 .obtain ⟨e,he,rfl⟩:=mem_formKs.mp hy;unfold L0 at he;obtain ⟨z,hz,hh⟩:=jV.mp he
  by_cases hg:z.1='i'
  .rw [if_pos hg] at hh;obtain ⟨w,ps⟩:=z
   cases ps with
   | nil=>cases hh
   | cons y fs=>
    have hh:=Option.some.inj hh;rw [<- hh];exact (fD hL).mpr (mem_letter.mp (h.gl _ hz hg y 'd'))
  .rw [if_neg hg] at hh;cases hh
 .rw [<- j4 1 (z.2.drop 1)] at hq
  rcases G3.mp hq with hq | hq
  .exact .inl ((fD hL).mpr (mem_letter.mp (h.al z hz e q hq)))
  .rw [List.drop_drop] at hq
   rcases h.am z hz e q hq with h1 | h1
   .exact .inl ((fD hL).mpr (mem_letter.mp h1))
   .exact .inr ((fD hM).mpr (mem_mark.mp h1))
theorem aoV{g:Str->Str}{r1 r2:Str->Nat}{R:List Rl}(h:GoodR g r1 r2 R)(hL:Q6 R "row" L)(hM:Q6 R "marks" M):(allKs R L M).length<=10000:=by
 refine N8 ?_ h.plen
 have:=List.Nodup.length_le_of_subset (l₂:=(C7 R).map (·.1)) (am9 h hL hM) fun p hp=>by
  unfold allKs at hp
  rcases G3.mp hp with hp | hp
  .rcases G3.mp hp with hp | hp
   .rcases G3.mp hp with hp | hp
    .exact C6.mpr ⟨_,mem_letter.mpr ((fD hL).mp hp),rfl⟩
    .exact C6.mpr ⟨_,mem_mark.mpr ((fD hM).mp hp),rfl⟩
   .obtain ⟨y,_,hp⟩:=U8.mp hp;obtain ⟨e,he,_,hf⟩:=forms_mem.mp hp
    have:p∈(L0 R).flatMap (·.2):=U8.mpr ⟨e,he,hf⟩
    rw [<- oB] at this;obtain ⟨q,hq,rfl⟩:=C6.mp this;exact C6.mpr ⟨q,(X4.mp hq).1,rfl⟩
  .rw [<- rY] at hp;obtain ⟨q,hq,rfl⟩:=C6.mp hp;exact C6.mpr ⟨q,(X4.mp hq).1,rfl⟩
 rw [A6] at this;exact this
theorem akB{g:Str->Str}{r1 r2:Str->Nat}{R:List Rl}(h:GoodR g r1 r2 R)(i:Nat)(y:Str):(D8 (R.take i) y).length<=10000:=by
 refine N8 ?_ h.plen;have h1:(D8 (R.take i) y).length<=((L0 (R.take i)).flatMap (·.2)).length:=by
  unfold D8;generalize L0 (R.take i)=E
  induction E with
  | nil=>exact C3 _
  | cons e E ih=>
   rw [List.filter_cons]
   split
   .rw [o6,o6,D9,D9];lia
   .rw [o6,D9];lia
 have h2:((L0 (R.take i)).flatMap (·.2)).length<=(C7 (R.take i)).length:=by
  rw [<- oB,A6];exact List.length_filter_le _ _
 obtain ⟨more,e⟩:=agv R i;rw [e,D9];lia
theorem IsMade.mod{d:Addr}{F:Str->List Tr}{o o':HO}(h:IsMade H d ks F)(ha:H a=some o')(hn:∀ xs,o'≠.tup xs)(nd:d≠a):IsMade (A0 H a o) d ks F:=
 let ⟨ad,h1,h2⟩:=h
 ⟨ad,by rw [A7 nd];exact h1,fun y hy=>(h2 y hy).put ha hn⟩
structure IsOrd(C:Addr)(H:Hp)(x j ll ml md:Addr)(g:Str->Str)(R:List Rl)(L M:List Str):Prop where
 ob:∃ dx,H x=some (.ins C dx (ordF (hasW R "figures") 'e' j ll ml md))
 jobs:H j=some (.dK (C2 (keysP (C7 R)++W6 R) (jobG g)))
 lets:H ll=some (.lst (L.map V.str))
 mrks:H ml=some (.lst (M.map V.str))
 made:IsMade H md (K8 [] (allKs R L M)) (stepF R L M)
 l1:Q6 R "row" L
 l2:Q6 R "marks" M
theorem IsOrd.same{x j:Addr}{g:Str->Str}{R:List Rl}(h:IsOrd C H x j ll ml md g R L M)(s:Same H H'):IsOrd C H' x j ll ml md g R L M:=
 ⟨let ⟨dx,e⟩:=h.ob;⟨dx,s _ _ e⟩,s _ _ h.jobs,s _ _ h.lets,s _ _ h.mrks,h.made.same s,h.l1,h.l2⟩
noncomputable def rZ (C:Addr):Sp:=fun vs H Q _=>∃ (x dx a:Addr) (ts:List Addr) (R:List Rl) (g:Str->Str) (r1 r2:Str->Nat),vs=[.ref x,.ref a]/\H x=some (.ins C dx [])/\IsRules H a ts R/\GoodR g r1 r2 R/\
 ∀ j ll ml md L M H',H j=none->H ll=none->H ml=none->H md=none->SameBut x H H'->IsOrd C H' x j ll ml md g R L M->Q .non H'
noncomputable def xI (C:Addr):Sp:=fun vs H Q _=>∃ (x j ll ml md:Addr) (p:Str) (g:Str->Str) (R:List Rl) (L M:List Str),vs=[.ref x,.str p]/\IsOrd C H x j ll ml md g R L M/\Q (if p∈keysP (C7 R)++W6 R then jobG g p else .non) H
structure RulesAt(H0 H:Hp)(a:Addr)(ts:List Addr)(R:List Rl):Prop where
 rows:IsRules H a ts R
 nd:(a::ts).Nodup
 new:∀ r∈a::ts,H0 r=none
 same:Same H0 H
theorem ai1{E:List (Str×Str)}(r:V3 E ts line){e:Str×Str}(he:e∈E)(h2:e.2∈line):line.idxOf e.1<line.idxOf e.2:=by
 obtain ⟨pre,post,el⟩:=List.append_of_mem h2;obtain ⟨h3,h4,h5⟩:=kT (r pre e.2 post el);have h6:=cnt_zero.mp h5 e he rfl;rw [el,List.idxOf_append,if_pos h6,List.idxOf_append,if_neg h4]
 have:=eE.mpr h6
 lia
theorem akD{E:List (Str×Str)}(nd:ps.Nodup)(tnd:ts.Nodup)(r:V3 E ts line)(cov:∀ p∈ts,p∈line)(hm:∀ p,p∈ts↔p∈ps)(hE:∀ e∈W5 ps,e∈E):line=ps:=by
 have hl:line.length=ps.length:=by
  rw [rP tnd r cov];exact ((List.perm_ext_iff_of_nodup tnd nd).mpr fun a=>hm a).length_eq
 have E9:∀ p∈ps,p∈line:=fun p hp=>cov p ((hm p).mpr hp)
 have C4:∀ i (h:i<ps.length),line.idxOf ps[i]<ps.length:=fun i h=>by
  rw [<- hl];exact eE.mpr (E9 _ (jY h))
 have step:∀ i (h:i+1<ps.length),line.idxOf ps[i]<line.idxOf ps[i+1]:=fun i h=>by
  have he:(ps[i],ps[i+1])∈W5 ps:=by
   have:=agr (zs:=ps) (j:=i) (x:=ps[i]) (y:=ps[i+1]) (L1 'a') (by rw [List.getElem?_tail];exact L1 h)
   exact G6 this
  exact ai1 r (hE _ he) (E9 _ (jY h))
 have up:∀ i (h:i<ps.length),i<=line.idxOf ps[i]:=by
  intro i
  induction i with
  | zero=>intro h;exact F7 _
  | succ i ih=>
   intro h
   have:=ih 'a'
   have:=step i h
   lia
 have down:∀ d i (h:i<ps.length),ps.length-1-i=d->line.idxOf ps[i]<=i:=by
  intro d
  induction d with
  | zero=>
   intro i h e
   have:=C4 i h
   lia
  | succ d ih=>
   intro i h e;have h1:=ih (i+1) 'a' 'a';have h2:=step i 'a';lia
 refine List.ext_getElem hl fun i h1 h2=>?_
 have e:line.idxOf ps[i]=i:=Nat.le_antisymm (down _ i h2 rfl) (up i h2)
 have:=gJ (x:=ps[i]) (xs:=line) (by rw [e];exact h1)
 simp only [e] at this;exact this
noncomputable def xJ (ns:List Int) (k:Int) (p:Str):Prop:=∃ rest:List Nat,p.cps.toList=kW ns k::rest/\rest.length<=1/\∀ c∈rest,∃ m:Int,c=kW ns m
noncomputable def PcS (ns:List Int) (S:Int->Prop) (p:Str):Prop:=∃ k,S k/\xJ ns k p
structure Dis(ns:List Int)(S:Int->Prop)(ps:List Str):Prop where
 nd:ps.Nodup
 pc:∀ p∈ps,PcS ns S p
 uq:∀ p∈ps,∀ q∈ps,∀ k:Int,20<=k->k<83->xJ ns k p->xJ ns k q->p=q
noncomputable def LetS (k:Int):Prop:=0<=k/\k<16
structure LetW(ns:List Int)(n:Int)(ps:List Str):Prop where
 n0:2<=n
 n1:n<=16
 all:∀ k:Int,0<=k->k<n->one (kW ns k)∈ps
 each:∀ p∈ps,∃ k:Int,0<=k/\k<n/\(p=one (kW ns k)\/∃ m:Int,0<=m/\m<n/\p=one (kW ns k)++one (kW ns m))
noncomputable def OthZ (ls ms:List Str) (z:Rl):Prop:=(z.1='i'/\∃ l fs,z.2=l::fs/\l∈ls/\1<=fs.length/\fs.length<=2)\/(z.1=("as" : Str)/\∃ p q qs,z.2=p::q::qs/\q∈ls/\(∀ r∈qs,r∈ls\/r∈ms)/\qs.length<=2)\/(z.1=("over" : Str)/\z.2.length<=2)
noncomputable def GS (i:Nat) (k:Int):Prop:=(30<=k/\k<30+(i:Int))\/(34<=k/\k<34+(i:Int))
noncomputable def AS (i:Nat) (k:Int):Prop:=GS 3 k\/(40<=k/\k<40+(i:Int))
noncomputable def OS (k:Int):Prop:=AS 3 k\/(50<=k/\k<52)
structure AsR(ls ms:List Str)(H0 H:Hp)(t:Addr)(p:Str)(qs:List Str)(j:Nat):Prop where
 same:Same H0 H
 tup:H t=some (tupR ("as",p::qs))
 new:H0 t=none
 len:qs.length=j
 ok:∀ i q,qs[i]?=some q->q∈ls\/(0<i/\q∈ms)
noncomputable def MarkS (k:Int):Prop:=20<=k/\k<25
noncomputable def flagW (w:Str):Prop:=w=("figures" : Str)\/w=("behind" : Str)\/w=("blanks" : Str)
theorem flagW.no{w:Str}(h:flagW w):w≠"row"/\w≠"marks"/\w≠"great"/\w≠"as"/\w≠"over":=by
 rcases h with rfl | rfl | rfl <;> decide +kernel
theorem ai2{w:Str}(h:flagW w):P5 (w,[])=[]:=by
 obtain ⟨n1,n2,n3,n4,n5⟩:=h.no;unfold P5;rw [if_neg n3,if_neg n4]
 split <;> rfl
structure RulP(ns:List Int)(ls ms:List Str)(b:Bool)(n:Nat)(R:List Rl):Prop where
 dis:Dis ns (fun k=>LetS k\/OS k\/(b=true/\MarkS k)) ((C7 R).map (·.1))
 row:rowsW R "row"=[ls]
 mrk:rowsW R "marks"=if b=true then [ms] else []
 each:∀ z∈R,z=(("row" : Str),ls)\/(z=(("marks" : Str),ms)/\b=true)\/OthZ ls ms z\/(z.2=[]/\flagW z.1)
 len:R.length<=n
 fig:hasW R "figures"=true->xB ns=false
 oi:∀ z∈R,OthZ ls ms z->∀ p∈P5 z,PcS ns OS p
noncomputable def oE (R:List Rl) (p:Str):Str:=((C7 R).lookup p).getD ""
theorem agD(nd:ps.Nodup){e:Str×Str}(he:e∈W5 ps):ps.idxOf e.1<ps.idxOf e.2:=by
 unfold W5 at he;obtain ⟨i,hi,e1⟩:=j5.mp he;rw [List.getElem_zip] at e1;have bO:i+1<ps.length:=by rw [List.length_zip,List.length_tail] at hi;lia
 have mI:i<ps.tail.length:=by rw [List.length_tail];lia
 have e3:ps.tail[i]'mI=ps[i+1]:=List.getElem_tail mI;have f1:ps[i]=e.1:=congrArg Prod.fst e1;have f2:ps[i+1]=e.2:=e3.symm.trans (congrArg Prod.snd e1);have a1:ps.idxOf ps[i]=i:=List.Nodup.idxOf_getElem nd i 'a';have a2:ps.idxOf ps[i+1]=i+1:=List.Nodup.idxOf_getElem nd (i+1) bO;rw [<- f1,<- f2,a1,a2];lia
structure RulG(ns:List Int)(ls ms:List Str)(R:List Rl):Prop where
 p:∃ b,RulP ns ls ms b 12 R/\(b=false->ms=[])
 l0:2<=ls.length
 l1:ls.length<=19
 ld:Dis ns LetS ls
 lw:∃ n,LetW ns n ls
 m1:ms.length<=4
 md:Dis ns MarkS ms
noncomputable def spLaw (K:PySem.W.Frag):Sp:=fun vs H Q _=>∃ (a:Addr) (ns:List Int),vs=[.ref a]/\D1 K H a (ns.map V.int)/\ns.length<=63/\∀ H',Q (.bl true) H'
noncomputable def rIntU:List V->Hp->VK->Prop
 | [.bl b],H,Q=>Q (.int (if b then 1 else 0)) H
 | [.str x],H,Q=>PySem.NumText.AllDigits x.cps.toList/\1<=x.length/\x.length<=640/\Q (.int ((nC x.cps.toList:Nat):Int)) H
 | _,_,_=>False
theorem ana : QCall X (.type "int") rIntU:=⟨by
 intro pins s Y H xs us Q I r h
 match xs,h with
 | [.bl b],h=>exact ajA pins s Y H _ us Q I r (.inr ⟨b,rfl,h⟩)
 | [.str x],h=>
  obtain ⟨h1,h2,h3,q⟩:=h;obtain ⟨u,rfl,r1⟩:=vals1 r;obtain ⟨t,rfl⟩:=r1;have G9:x.cps.toList≠[]:=fun e=>by
   have:x.cps.toList.length=x.length:=by simp [Str.length]
   rw [e] at this;simp at this;lia
  exact PySem.W.KIN.call_text (PySem.intText_digits h1 G9 'a') h3 ⟨V.int ((nC x.cps.toList:Nat):Int),H,I.tok _,⟨_,rfl⟩,q⟩⟩
theorem arI{b:Bool} : rIntU [.bl b] H Q=Q (.int (if b then 1 else 0)) H:=rfl
theorem arJ{x:Str} : rIntU [.str x] H Q=(PySem.NumText.AllDigits x.cps.toList/\1<=x.length/\x.length<=640/\Q (.int ((nC x.cps.toList:Nat):Int)) H):=rfl
noncomputable def rInD (K:PySem.W.Frag) (x y:V) (H:Hp) (Q:VK):Prop:=∃ (d:PyData) (ds:List PyData),Dn K H x d/\Dn K H y (.list ds)/\min (cC ds) d.depth<=60/\Q (.bl (ds.any fun e=>X9 e d)) H
theorem arK{y:V} : rInD K x y H Q=∃ (d:PyData) (ds:List PyData),Dn K H x d/\Dn K H y (.list ds)/\min (cC ds) d.depth<=60/\Q (.bl (ds.any fun e=>X9 e d)) H:=rfl
end L2
namespace L2
open PySem PySem.Spec PyProof.Rows
open PySem.Builtin PySem.Builtin.Str PySem.StrLaws
noncomputable def rTupA (K:PySem.W.Frag):R2:=fun x y H Q=>∃ a b xs ys,x=.ref a/\y=.ref b/\A8 K H a xs/\A8 K H b ys/\ys≠[]/\xs.length+ys.length<=sizeLine/\∀ p H',Same H H'->A8 K H' p (xs++ys)->(H' p=some (.tup (xs++ys))\/xs=[]/\p=b)->Q (.ref p) H'
theorem arL : rTupA K (.ref a) (.ref b) H Q=∃ xs ys,A8 K H a xs/\A8 K H b ys/\ys≠[]/\xs.length+ys.length<=sizeLine/\∀ p H',Same H H'->A8 K H' p (xs++ys)->(H' p=some (.tup (xs++ys))\/xs=[]/\p=b)->Q (.ref p) H':=
 propext ⟨fun ⟨_,_,xs,ys,e1,e2,h⟩=>(by cases e1;cases e2;exact ⟨xs,ys,h⟩),fun ⟨xs,ys,h⟩=>⟨a,b,xs,ys,rfl,rfl,h⟩⟩
end L2
namespace L2
open PySem PySem.Spec PyProof.Rows
theorem arM{d:Value}(h:(us++[d]).length=3):∃ u1 u2,us=[u1,u2]:=by
 match us,h with
 | [a,b],_=>exact ⟨a,b,rfl⟩
 | [],h=>simp at h
 | [_],h=>simp at h
 | _::_::_::r,h=>simp at h
theorem lB(g:List Str)(z:Str):(valV (kvOf g) (Sum.inr z)).isSome=decide (z∈g):=by
 rw [<- wK];unfold valV;rw [eQ,List.isSome_find?]
theorem xK{y rest:List Nat}(h:z.cps.toList=pre++(y++rest)):cutS z (some (pre.length:Int)) (some ((pre.length:Int)+(y.length:Int)))=⟨y.toArray⟩:=by
 have hl:z.length=pre.length+(y.length+rest.length):=by
  have:=congrArg c0 h
  simp [Str.length] at this ⊢
  lia
 apply Str.ext'
 apply Array.toList_inj.mp
 rw [agk,h];have e1:HT.sIx z.length 0 (some (pre.length:Int))=pre.length:=by rw [HT.sIx_nat];lia
 have e2:HT.sIx z.length z.length (some ((pre.length:Int)+(y.length:Int)))=pre.length+y.length:=by
  rw [show (pre.length:Int)+(y.length:Int)=((pre.length+y.length:Nat):Int) by lia,HT.sIx_nat];lia
 rw [e1,e2,List.drop_left,show pre.length+y.length-pre.length=y.length by lia,List.take_left]
theorem agE{c:Nat}(h:z.cps.toList=pre++[c]):cutS z (some (pre.length:Int)) (some ((pre.length:Int)+2))=one c:=by
 have hl:z.length=pre.length+1:=by
  have:=congrArg c0 h
  simp [Str.length] at this ⊢
  lia
 apply Str.ext'
 apply Array.toList_inj.mp
 rw [agk,h];have e1:HT.sIx z.length 0 (some (pre.length:Int))=pre.length:=by rw [HT.sIx_nat];lia
 have e2:HT.sIx z.length z.length (some ((pre.length:Int)+2))=pre.length+1:=by
  rw [show (pre.length:Int)+2=((pre.length+2:Nat):Int) by lia,HT.sIx_nat];lia
 rw [e1,e2,List.drop_left,show pre.length+1-pre.length=1 by lia];rfl
theorem akE{r:List Nat}{c:Nat} : F8 (pre++c::r) (pre.length:Int)=some c:=G8 (by rw [gG (C3 _),Nat.sub_self];rfl)
theorem afk:∀ (zs acc:List Str),Y1 (kvOf acc) (kvOf zs)=kvOf (K8 acc zs)
 | [],acc=>rfl
 | z::zs,acc=>by
  show Y1 (putK (kvOf acc) (Sum.inr z) (.bl true)) (kvOf zs)=kvOf (K8 (dd acc z) zs);rw [agj,afk zs]
noncomputable def akF:Sp:=fun vs H Q _=>∃ (z:Str) (pre rest:List Nat),vs=[.str z,.int pre.length]/\z.length<=1000/\z.cps.toList=pre++rest/\Q (.str ⟨(rest.takeWhile figO).toArray⟩) H
theorem ams(h:(us++[]).length=3):∃ u1 u2 u3,us=[u1,u2,u3]:=by
 match us,h with
 | [a,b,c],_=>exact ⟨a,b,c,rfl⟩
 | [],h=>simp at h
 | [_],h=>simp at h
 | [_,_],h=>simp at h
 | _::_::_::_::r,h=>simp at h
theorem lenL(z:Str):z.cps.toList.length=z.length:=by simp [Str.length]
noncomputable def partG (g:List Str):List Nat->Option Str
 | []=>none
 | [c]=>if one c∈g then some (one c) else none
 | c::d::_=>if two c d∈g then some (two c d) else if one c∈g then some (one c) else none
theorem lC(g:List Str)(c:Nat):partG g [c]=if one c∈g then some (one c) else none:=rfl
theorem lD(g:List Str)(c d:Nat)(r:List Nat):partG g (c::d::r)=if two c d∈g then some (two c d) else if one c∈g then some (one c) else none:=rfl
noncomputable def partF (w:Bool) (g:List Str):List Nat->Option Str
 | []=>none
 | c::r=>if (w&&figO c)=true then some ⟨((c::r).takeWhile figO).toArray⟩ else partG g (c::r)
theorem lE(w:Bool)(g:List Str)(c:Nat)(r:List Nat):partF w g (c::r)=if (w&&figO c)=true then some ⟨((c::r).takeWhile figO).toArray⟩ else partG g (c::r):=rfl
theorem afl{g:List Str} : ∀ {l:List Nat},partG g l=some y->∃ rest,l=y.cps.toList++rest/\1<=y.length
 | [],h=>by cases h
 | [c],h=>by
  rw [lC] at h
  by_cases hc:one c∈g
  .rw [if_pos hc] at h;cases h;exact ⟨[],rfl,by show 1<=1;decide⟩
  .rw [if_neg hc] at h;cases h
 | c::d::r,h=>by
  rw [lD] at h
  by_cases h2:two c d∈g
  .rw [if_pos h2] at h;cases h;exact ⟨r,rfl,by show 1<=2;decide⟩
  .rw [if_neg h2] at h
   by_cases hc:one c∈g
   .rw [if_pos hc] at h;cases h;exact ⟨d::r,rfl,by show 1<=1;decide⟩
   .rw [if_neg hc] at h;cases h
theorem ahf{g:List Str}(h:∀ x,x∈g↔x∈g'):∀ l,partG g l=partG g' l
 | []=>rfl
 | [c]=>by
  rw [lC,lC]
  by_cases hc:one c∈g
  .rw [if_pos hc,if_pos ((h _).mp hc)]
  .rw [if_neg hc,if_neg (fun z=>hc ((h _).mpr z))]
 | c::d::r=>by
  rw [lD,lD]
  by_cases h2:two c d∈g
  .rw [if_pos h2,if_pos ((h _).mp h2)]
  .rw [if_neg h2,if_neg (fun z=>h2 ((h _).mpr z))]
   by_cases hc:one c∈g
   .rw [if_pos hc,if_pos ((h _).mp hc)]
   .rw [if_neg hc,if_neg (fun z=>hc ((h _).mpr z))]
theorem ahg{w:Bool}{g:List Str}(h:∀ x,x∈g↔x∈g')(l:List Nat):partF w g l=partF w g' l:=by
 cases l with
 | nil=>rfl
 | cons c r=>rw [lE,lE,ahf h]
theorem afm{w:Bool}{g:List Str}{l:List Nat}(h:partF w g l=some y):∃ rest,l=y.cps.toList++rest/\1<=y.length:=by
 cases l with
 | nil=>cases h
 | cons c r=>
  rw [lE] at h
  by_cases hw:(w&&figO c)=true
  .rw [if_pos hw] at h;cases h;rw [e8] at hw;refine ⟨(c::r).dropWhile figO,(List.takeWhile_append_dropWhile).symm,?_⟩;show 1<=((c::r).takeWhile figO).length;rw [List.takeWhile_cons_of_pos hw.2]
   simp
  .rw [if_neg hw] at h;exact afl h
noncomputable def cutFn (w:Bool) (g:List Str):Nat->List Nat->Nat×List Str
 | 0,_=>(0,[])
 | n+1,l=>match partF w g l with
  | none=>(0,[])
  | some y=>((cutFn w g n (l.drop y.length)).1+y.length,y::(cutFn w g n (l.drop y.length)).2)
noncomputable def cutF (w:Bool) (g:List Str) (l:List Nat):Nat×List Str:=cutFn w g l.length l
theorem afn(w:Bool)(g:List Str):∀ (n m:Nat) (l:List Nat),l.length<=n->l.length<=m->cutFn w g n l=cutFn w g m l
 | 0,0,_,_,_=>rfl
 | 0,m+1,l,h,_=>by
  have:l=[]:=aH.mp 'a'
  subst this;rfl
 | n+1,0,l,_,h=>by
  have:l=[]:=aH.mp 'a'
  subst this;rfl
 | n+1,m+1,l,h1,h2=>by
  cases e:partF w g l with
  | none=>show (match partF w g l with | none=>_ | some y=>_)=(match partF w g l with | none=>_ | some y=>_);rw [e]
  | some y=>
   obtain ⟨rest,e1,e2⟩:=afm e;have hd:(l.drop y.length).length=l.length-y.length:=aK
   have:=afn w g n m (l.drop y.length) 'a' 'a'
   show (match partF w g l with | none=>_ | some y=>_)=(match partF w g l with | none=>_ | some y=>_);rw [e]
   dsimp only
   rw [this]
theorem oF{w:Bool}{g:List Str}{l:List Nat}(h:partF w g l=none):cutF w g l=(0,[]):=by
 unfold cutF;cases hl:l.length with
 | zero=>rfl
 | succ n=>
  show (match partF w g l with | none=>_ | some y=>_)=_;rw [h]
theorem oG(w:Bool)(g:List Str):cutF w g []=(0,[]):=rfl
theorem lF{w:Bool}{g:List Str}{l:List Nat}(h:partF w g l=some y):∃ rest,l=y.cps.toList++rest/\cutF w g l=((cutF w g rest).1+y.length,y::(cutF w g rest).2)/\1<=y.length:=by
 obtain ⟨rest,e1,e2⟩:=afm h;refine ⟨rest,e1,?_,e2⟩;have el:l.length=y.length+rest.length:=by rw [e1,D9,lenL]
 have ed:l.drop y.length=rest:=by rw [e1,<- lenL,List.drop_left]
 unfold cutF;cases hl:l.length with
 | zero=>lia
 | succ k=>
  show (match partF w g l with | none=>_ | some y=>_)=_;rw [h]
  dsimp only
  rw [ed,afn w g k rest.length rest 'a' (C3 _)]
theorem ai3{w:Bool}{g:List Str}(h:∀ x,x∈g↔x∈g')(l:List Nat):cutF w g l=cutF w g' l:=by
 have:∀ n l,cutFn w g n l=cutFn w g' n l:=by
  intro n
  induction n with
  | zero=>intro l;rfl
  | succ n ih=>
   intro l;show (match partF w g l with | none=>_ | some y=>_)=(match partF w g' l with | none=>_ | some y=>_);rw [ahg h]
   cases partF w g' l with
   | none=>rfl
   | some y=>dsimp only;rw [ih]
 exact this _ _
theorem xL{w:Bool}{g:List Str} : ∀ (n:Nat) (l:List Nat),l.length<=n->(cutF w g l).1<=l.length/\(cutF w g l).2.length<=l.length/\∀ y∈(cutF w g l).2,∀ c∈y.cps.toList,c∈l
 | 0,l,h=>by
  have:l=[]:=aH.mp 'a'
  subst this;rw [oG];exact ⟨C3 _,C3 _,by simp⟩
 | n+1,l,h=>by
  cases e:partF w g l with
  | none=>rw [oF e];exact ⟨F7 _,F7 _,by simp⟩
  | some y=>
   obtain ⟨rest,e1,e2,e3⟩:=lF e;have hl:l.length=y.length+rest.length:=by rw [e1,D9,lenL]
   obtain ⟨a,b,c⟩:=xL (w:=w) (g:=g) n rest 'a';rw [e2];refine ⟨by dsimp only;lia,by dsimp only;rw [L3];lia,fun z hz x hx=>?_⟩;rw [e1]
   rcases L4.mp hz with r | r
   .rw [r] at hx;exact G3.mpr (.inl hx)
   .exact G3.mpr (.inr (c z r x hx))
noncomputable def aZ (w:Bool) (g:List Str) (z:Str):Prop:=(cutF w g z.cps.toList).1=z.length
noncomputable def akG:Sp:=fun vs H Q _=>∃ (d:Addr) (z:Str) (g:List Str) (pre:List Nat) (c:Nat) (r:List Nat) (w:Bool) (y:Str),vs=[.ref d,.str z,.int pre.length,.bl w]/\H d=some (.dK (kvOf g))/\z.length<=1000/\z.cps.toList=pre++c::r/\partF w g (c::r)=some y/\Q (.str y) H
noncomputable def sA (K:PySem.W.Frag):Sp:=fun vs H Q _=>∃ (a:Addr) (z:Str) (ks:List Str) (w:Bool),vs=[.ref a,.str z,.bl w]/\D1 K H a (ks.map V.str)/\ks.length<=1000/\z.length<=1000/\aZ w ks z/\
 ∀ l H',H l=none->Same H H'->H' l=some (.lst ((cutF w ks z.cps.toList).2.map V.str))->Q (.ref l) H'
noncomputable abbrev J7:=Int×Int×List Int×Int
noncomputable def addM (U:List J7) (p:Int):List J7:=match U.getLast? with
 | none=>[(0,0,[p],0)]
 | some u=>U.dropLast++[(u.1,u.2.1,u.2.2.1++[p],u.2.2.2)]
noncomputable def addS (U:List J7) (s:Tr):List J7:=if s.1=0 then addM U s.2.1 else U++[(s.1,s.2.1,[],s.2.2)]
noncomputable def UnAt (H:Hp) (e:Addr×Addr) (u:J7):Prop:=H e.1=some (.tup [.int u.1,.int u.2.1,.ref e.2,.int u.2.2.2])/\H e.2=some (.lst (u.2.2.1.map V.int))
structure UnI(H0 H:Hp)(l:Addr)(es:List (Addr×Addr))(U:List J7):Prop where
 top:H l=some (.lst (es.map fun e=>V.ref e.1))
 row:Paired (UnAt H) es U
 nd:(l::es.map (·.2)).Nodup
 new:∀ a∈l::es.map (·.2),H0 a=none
 same:Same H0 H
theorem UnI.more{l:Addr}{es:List (Addr×Addr)}{U:List J7}(h:UnI H0 H l es U)(S:Same H H'):UnI H0 H' l es U:=⟨S _ _ h.top,N9 h.row fun _ _ e=>⟨S _ _ e.1,S _ _ e.2⟩,h.nd,h.new,h.same.trans S⟩
theorem UnI.live{l:Addr}{es:List (Addr×Addr)}{U:List J7}(h:UnI H0 H l es U)(ha:a∈es.map (·.2)):∃ xs,H a=some (.lst xs):=by
 obtain ⟨e,he,rfl⟩:=C6.mp ha;obtain ⟨i,hi,q⟩:=j5.mp he;obtain ⟨u,_,hu⟩:=Paired.at h.row (i:=i) (a:=e) (by rw [L1 hi,q]);exact ⟨_,hu.2⟩
theorem UnI.push{l m t:Addr}{es:List (Addr×Addr)}{U:List J7}(h:UnI H0 H l es U)(nm:H m=none){k w c:Int}(nt:A0 H m (.lst []) t=none) :
  UnI H0 (A0 (A0 (A0 H m (.lst [])) t (.tup [.int k,.int w,.ref m,.int c])) l (.lst ((es.map fun e=>V.ref e.1)++[V.ref t]))) l (es++[(t,m)]) (U++[(k,w,[],c)]):=by
 have nlm:l≠m:=fun e=>by have:=h.top;rw [e,nm] at this;cases this
 have nmt:m≠t:=fun e=>by rw [<- e,A3] at nt;cases nt
 have S:Same H (A0 (A0 H m (.lst [])) t (.tup [.int k,.int w,.ref m,.int c])):=(Same.new nm).trans (Same.new nt);have hl:=S _ _ h.top;have nlt:l≠t:=fun e=>by rw [<- e,(Same.new nm) _ _ h.top] at nt;cases nt
 have tY:=W0.mp h.nd;refine ⟨by rw [A3,D0];rfl,Paired.snoc (rJ h.row fun e he u hu=>⟨?_,?_⟩) ⟨?_,?_⟩,?_,fun a ha=>?_,(h.same.trans S).put (h.new l N2)⟩
 .rw [A7 (fun q=>by have:=S _ _ hu.1;rw [q,hl] at this;cases this)];exact S _ _ hu.1
 .rw [A7 (fun q=>tY.1 (by rw [<- q];exact C6.mpr ⟨e,he,rfl⟩))];exact S _ _ hu.2
 .rw [A7 nlt.symm,A3]
 .rw [A7 nlm.symm,A7 nmt,A3];rfl
 .rw [D0];exact vZ h.nd fun q=>by
   rcases L4.mp q with q | q
   .exact nlm q.symm
   .obtain ⟨xs,hx⟩:=h.live q;rw [nm] at hx;cases hx
 .rw [D0] at ha
  rcases L4.mp ha with q | q
  .rw [q];exact h.new l N2
  .rcases G3.mp q with q | q
   .exact h.new a (O7 _ q)
   .rw [E7.mp q];exact h.same.free nm
theorem UnI.mark{l:Addr}{es:List (Addr×Addr)}{e:Addr×Addr}{U:List J7}{u:J7}(h:UnI H0 H l (es++[e]) (U++[u]))(p:Int) :
  UnI H0 (A0 H e.2 (.lst (u.2.2.1.map V.int++[V.int p]))) l (es++[e]) (U++[(u.1,u.2.1,u.2.2.1++[p],u.2.2.2)]):=by
 obtain ⟨hr,he⟩:=wL h.row;have tY:=h.nd;have nl:l≠e.2:=fun q=>(W0.mp tY).1 (by rw [q];simp)
 have nn:∀ x∈es,x.2≠e.2:=fun x hx q=>by
  have:=(W0.mp tY).2
  rw [D0,Y9] at this;exact this.2.2 x.2 (C6.mpr ⟨x,hx,rfl⟩) e.2 'd' q
 have nt:∀ {x:Addr×Addr} {v:J7},UnAt H x v->x.1≠e.2:=fun {x v} hx q=>by
  have:=hx.1;rw [q,he.2] at this;cases this
 refine ⟨by rw [A7 nl];exact h.top,Paired.snoc (rJ hr fun x hx v hv=>⟨?_,?_⟩) ⟨?_,?_⟩,h.nd,h.new,h.same.put (h.new _ (O7 _ 'd'))⟩
 .rw [A7 (nt hv)];exact hv.1
 .rw [A7 (nn x hx)];exact hv.2
 .rw [A7 (nt he)];exact he.1
 .rw [A3,D0];rfl
noncomputable def IsUn (H:Hp) (l:Addr) (U:List J7):Prop:=∃ es:List (Addr×Addr),H l=some (.lst (es.map fun e=>V.ref e.1))/\Paired (fun e (u:J7)=>H e.1=some (.tup [.int u.1,.int u.2.1,.ref e.2,.int u.2.2.2])/\H e.2=some (.tup (u.2.2.1.map V.int))) es U
noncomputable def G4 (R:List Rl):List Str:=keysP (C7 R)++W6 R
noncomputable def Q7 (S:Str->List Tr) (ps:List Str):List J7:=(ps.flatMap S).foldl addS []
noncomputable def xM (C:Addr):Sp:=fun vs H Q _=>∃ (x j ll ml md:Addr) (g:Str->Str) (R:List Rl) (L M:List Str),vs=[.ref x]/\IsOrd C H x j ll ml md g R L M/\∀ l,H l=none->Q (.ref l) (A0 H l (.lst ((G4 R).map V.str)))
noncomputable def oH (C:Addr):Sp:=fun vs H Q _=>∃ (x j ll ml md:Addr) (p:Str) (g:Str->Str) (R:List Rl) (L M:List Str),vs=[.ref x,.str p]/\IsOrd C H x j ll ml md g R L M/\∀ r H',Same H H'->StepAt H' r (stepF R L M p)->Q (.ref r) H'
noncomputable def aih (C:Addr):Sp:=fun vs H Q _=>∃ (x j ll ml md:Addr) (z:Str) (g:Str->Str) (R:List Rl) (L M:List Str),vs=[.ref x,.str z]/\IsOrd C H x j ll ml md g R L M/\(G4 R).length<=1000/\z.length<=1000/\aZ (hasW R "figures") (G4 R) z/\
 ∀ l H',H l=none->Same H H'->H' l=some (.lst ((cutF (hasW R "figures") (G4 R) z.cps.toList).2.map V.str))->Q (.ref l) H'
theorem ai4{R:List Rl}{p:Str}(h:p∉allKs R L M):stepF R L M p=[]:=by
 unfold stepF
 have:(putsL R L M).lookup p=none:=by
  rw [List.lookup_eq_none_iff];intro e he
  have:e.1∈allKs R L M:=by rw [<- agz];exact C6.mpr ⟨e,he,rfl⟩
  have ne:p≠e.1:=fun q=>h (by rw [q];exact this)
  simpa using ne
 rw [this];rfl
noncomputable def stepY (R:List Rl) (L M:List Str) (y:Str):List Tr:=if (hasW R "figures" && figO (y.cps.toList.headD 0))=true then [(1,((nC y.cps.toList:Nat):Int),0)] else stepF R L M y
theorem aii{R:List Rl}(h:hasW R "figures"=false)(L M:List Str):stepY R L M=stepF R L M:=by
 funext y
 unfold stepY;rw [h,Bool.false_and,if_neg L9]
noncomputable def FigR (y:Str):Prop:=figO (y.cps.toList.headD 0)=true->PySem.NumText.AllDigits y.cps.toList
noncomputable def agF (C:Addr):Sp:=fun vs H Q _=>∃ (x j ll ml md:Addr) (c:Nat) (r:List Nat) (y:Str) (g:Str->Str) (R:List Rl) (L M:List Str),vs=[.ref x,.str y]/\y.cps.toList=c::r/\y.length<=640/\IsOrd C H x j ll ml md g R L M/\(hasW R "figures"=true->FigR y)/\∀ r H',Same H H'->StepAt H' r (stepY R L M y)->Q (.ref r) H'
noncomputable def agG (K:PySem.W.Frag):Sp:=fun vs H Q _=>∃ (l:Addr) (p:Int) (H0:Hp) (es:List (Addr×Addr)) (U:List J7),vs=[.ref l,.int p]/\UnI H0 H l es U/\U.length<=10000/\(∀ u∈U,u.2.2.1.length<=10000)/\∀ es' H',UnI H0 H' l es' (addM U p)->Q .non H'
noncomputable def agH (C:Addr):Sp:=fun vs H Q _=>∃ (x l j ll ml md:Addr) (c:Nat) (r:List Nat) (y:Str) (g:Str->Str) (R:List Rl) (L M:List Str) (H0:Hp) (es:List (Addr×Addr)) (U:List J7),vs=[.ref x,.ref l,.str y]/\y.cps.toList=c::r/\y.length<=640/\IsOrd C H0 x j ll ml md g R L M/\(hasW R "figures"=true->FigR y)/\UnI H0 H l es U/\(stepY R L M y).length<=1000/\U.length<=9000/\(∀ u∈U,u.2.2.1.length<=9000)/\
 ∀ es' H',UnI H0 H' l es' ((stepY R L M y).foldl addS U)->Q .non H'
theorem amt{U:List J7}{p:Int} : (addM U p).length<=U.length+1:=by
 unfold addM;cases e:U.getLast? with
 | none=>simp
 | some u=>simp only [D9,List.length_dropLast,Y8];lia
theorem ai5{U:List J7}{p:Int}(h:∀ u∈U,u.2.2.1.length<=n):∀ u∈addM U p,u.2.2.1.length<=n+1:=by
 unfold addM;cases e:U.getLast? with
 | none=>intro u hu;rw [E7.mp hu];simp
 | some v=>
  intro u hu
  rcases G3.mp hu with q | q
  .have:=h u ((List.dropLast_sublist U).subset q);lia
  .rw [E7.mp q]
   have:=h v (List.mem_of_getLast? e)
   simp only [D9,Y8];lia
theorem amu{U:List J7}{s:Tr} : (addS U s).length<=U.length+1:=by
 unfold addS
 split
 .exact amt
 .simp
theorem ai6{U:List J7}{s:Tr}(h:∀ u∈U,u.2.2.1.length<=n):∀ u∈addS U s,u.2.2.1.length<=n+1:=by
 unfold addS
 split
 .exact ai5 h
 .intro u hu
  rcases G3.mp hu with q | q
  .have:=h u q;lia
  .rw [E7.mp q];exact F7 _
theorem xN:∀ (ss:List Tr) (U:List J7),(ss.foldl addS U).length<=U.length+ss.length
 | [],U=>C3 _
 | s::ss,U=>by
  rw [jZ,L3];have h1:=xN ss (addS U s);have h2:=amu (U:=U) (s:=s);lia
theorem xO:∀ (ss:List Tr) (U:List J7) (n:Nat),(∀ u∈U,u.2.2.1.length<=n)->∀ u∈ss.foldl addS U,u.2.2.1.length<=n+ss.length
 | [],U,n,h=>h
 | s::ss,U,n,h=>by
  intro u hu
  have:=xO ss (addS U s) (n+1) (ai6 h) u hu
  rw [L3];lia
theorem akH(f b:Bool)(j ll ml md:Addr):(ordF f b j ll ml md).lookup ("made" : Str)=some (V.ref md):=by
 unfold ordF;rw [P0,if_pos rfl]
noncomputable def cutH (H:Hp) (as:List Addr):Hp:=fun a=>if a∈as then none else H a
theorem agI(H:Hp)(as:List Addr):Same (cutH H as) H:=fun a o h=>by
 unfold cutH at h
 by_cases q:a∈as
 .rw [if_pos q] at h;cases h
 .rw [if_neg q] at h;exact h
theorem UnI.base{l:Addr}{es:List (Addr×Addr)}{U:List J7}(S:Same H0 H1)(h:UnI H1 H l es U):UnI H0 H l es U:=⟨h.top,h.row,h.nd,fun a ha=>S.free (h.new a ha),S.trans h.same⟩
theorem UnI.cut{l:Addr}{es:List (Addr×Addr)}{U:List J7}(h:UnI H0 H l es U):∃ H1,Same H0 H1/\UnI H1 H l es U/\∀ a xs,H a=some (.tup xs)->H1 a=some (.tup xs):=by
 refine ⟨cutH H (l::es.map (fun e=>e.2)),fun a o ha=>?_,⟨h.top,h.row,h.nd,fun a ha=>by unfold cutH;exact if_pos ha,agI _ _⟩,fun a xs ha=>?_⟩
 .unfold cutH;rw [if_neg (fun q=>by rw [h.new a q] at ha;cases ha)];exact h.same _ _ ha
 .unfold cutH;rw [if_neg fun q=>?_]
  .exact ha
  .rcases L4.mp q with q | q
   .rw [q,h.top] at ha;cases ha
   .obtain ⟨ys,hy⟩:=h.live q;rw [hy] at ha;cases ha
theorem ai7{α β:Type}{F:α->β->Prop}{m:List β}(h:Paired F [] m):m=[]:=by cases h;rfl
theorem xP{α:Type}{l:List α}(h:l≠[]):∃ l' x,l=l'++[x]:=⟨l.dropLast,l.getLast h,(List.dropLast_concat_getLast h).symm⟩
noncomputable def akI (C:Addr):Sp:=fun vs H Q _=>∃ (x j ll ml md:Addr) (z:Str) (g:Str->Str) (R:List Rl) (L M:List Str),vs=[.ref x,.str z]/\IsOrd C H x j ll ml md g R L M/\(G4 R).length<=1000/\z.length<=500/\aZ (hasW R "figures") (G4 R) z/\(∀ y,(stepY R L M y).length<=15)/\
 ∀ l H',H l=none->Same H H'->IsUn H' l (Q7 (stepY R L M) (cutF (hasW R "figures") (G4 R) z.cps.toList).2)->Q (.ref l) H'
noncomputable def xQ (n:Nat) (fr:St) (Pv:Nat->List V->Hp->Prop) (i:Nat) (ys:List V) (σ2:St) (H2:Hp):Prop:=i<=n/\ys.length<=i/\(∃ v0 v1 v2 v3,σ2=v0::v1::v2::v3::fr)/\Pv i ys H2
theorem arN(fr:St)(n9:compStart 4 ixs Y=none::none::none::none::fr)(Pv:Addr->Nat->List V->Hp->Prop)(h0:∀ D,H1 D=none->Pv D 0 [] (A0 H1 D (.lst [])))(hl:∀ D i ys H,H1 D=none->i<=xs.length->Pv D i ys H->D1 K H a xs)(hs:∀ D i x ys H,H1 D=none->i<xs.length->xs[i]?=some x->Pv D i ys H->H D=some (.lst ys)->ys.length<=i->∃ t v0 v1 v2 v3,x=.ref t/\A8 K H t [v0,v1,v2,v3]/\c (some v0::some v1::some v2::some v3::fr) H fun b H4=>
   if b=true then te (some v0::some v1::some v2::some v3::fr) H4 fun y H5=>H5 D=some (.lst ys)/\ys.length<sizeLine/\xQ xs.length fr (Pv D) (i+1) (ys++[y]) (some v0::some v1::some v2::some v3::fr) (A0 H5 D (.lst (ys++[y])))
   else H4 D=some (.lst ys)/\xQ xs.length fr (Pv D) (i+1) ys (some v0::some v1::some v2::some v3::fr) H4)(hd:∀ D ys H,H1 D=none->Pv D xs.length ys H->H D=some (.lst ys)->ys.length<=xs.length->Q (.ref D) H):eY (aO K a) 4 ixs (gTup K 4 (gCons (gName 0) (gCons (gName 1) (gCons (gName 2) (gCons (gName 3) gNil))))) c te Y Q H1:=by
 intro D hD;refine ⟨xs.length,xQ xs.length fr (Pv D),⟨F7 _,F7 _,⟨none,none,none,none,n9⟩,h0 D hD⟩,?_⟩;rintro i ys σ2 H2 ⟨hi,hy,⟨w0,w1,w2,w3,rfl⟩,p⟩ hDy;have q:=hl D i ys H2 hD hi p
 by_cases C4:i<xs.length
 .refine .inr ⟨C4,⟨xs,xs[i],q,by simp [C4]⟩,fun x H' y=>?_⟩;obtain ⟨e,y⟩:=y;subst e;obtain ⟨t,v0,v1,v2,v3,rfl,ht,z⟩:=hs D i x ys _ hD C4 (y xs q) p hDy hy;exact ⟨t,_,rfl,ht,rfl,_,_,rfl,_,_,rfl,_,_,rfl,_,_,rfl,rfl,z⟩
 .have e:i=xs.length:=by lia
  subst e;exact .inl ⟨⟨xs,q,C3 _⟩,hd D ys H2 hD p hDy hy⟩
theorem akJ{w:Bool}{g:List Str} : ∀ (n:Nat) (l:List Nat),l.length<=n->∀ y∈(cutF w g l).2,1<=y.length
 | 0,l,h,y,hy=>by
  have:l=[]:=aH.mp 'a'
  subst this;rw [oG] at hy;cases hy
 | n+1,l,h,y,hy=>by
  cases e:partF w g l with
  | none=>rw [oF e] at hy;cases hy
  | some x=>
   obtain ⟨rest,e1,e2,e3⟩:=lF e;rw [e2] at hy
   rcases L4.mp hy with q | q
   .rw [q];exact e3
   .refine akJ n rest ?_ y q
    have:=congrArg c0 e1
    rw [D9,lenL] at this;lia
theorem ahi{S:Str->List Tr}(h:ps[i]?=some y):Q7 S (ps.take (i+1))=(S y).foldl addS (Q7 S (ps.take i)):=by
 unfold Q7;rw [M7 h,b9,aJ,o6,List.flatMap_nil,M8]
theorem xR{S:Str->List Tr}(hs:∀ y,(S y).length<=15):∀ (ps:List Str),(Q7 S ps).length<=15*ps.length/\∀ u∈Q7 S ps,u.2.2.1.length<=15*ps.length:=fun ps=>by
 have h0:(ps.flatMap S).length<=15*ps.length:=by
  induction ps with
  | nil=>exact C3 _
  | cons p ps ih=>
   rw [o6,D9,L3]
   have:=hs p
   lia
 have h1:=xN (ps.flatMap S) [];have h2:=xO (ps.flatMap S) [] 0 'd';unfold Q7;rw [Z0] at h1;exact ⟨by lia,fun u hu=>by have:=h2 u hu;lia⟩
theorem agJ{w:Bool}{g:List Str} : ∀ (n:Nat) (l:List Nat),l.length<=n->∀ y∈(cutF w g l).2,y.length<=l.length
 | 0,l,h,y,hy=>by
  have:l=[]:=aH.mp 'a'
  subst this;rw [oG] at hy;cases hy
 | n+1,l,h,y,hy=>by
  cases e:partF w g l with
  | none=>rw [oF e] at hy;cases hy
  | some x=>
   obtain ⟨rest,e1,e2,e3⟩:=lF e;rw [e2] at hy;have hl:=congrArg c0 e1;rw [D9,lenL] at hl
   rcases L4.mp hy with q | q
   .rw [q];lia
   .have:=agJ n rest 'a' y q
    lia
theorem anb{p:Nat->Bool}{d:Nat} : ∀ {l:List Nat},d∈l.takeWhile p->p d=true
 | [],h=>by cases h
 | c::r,h=>by
  rw [List.takeWhile_cons] at h
  by_cases hc:p c=true
  .rw [if_pos hc] at h
   rcases L4.mp h with q | q
   .rw [q];exact hc
   .exact anb q
  .rw [if_neg hc] at h;cases h
theorem akK{w:Bool}{g:List Str}{l:List Nat}(h:partF w g l=some y):w=true->FigR y:=by
 intro hw hf
 cases l with
 | nil=>cases h
 | cons c r=>
  rw [lE,hw,Bool.true_and] at h
  by_cases hc:figO c=true
  .rw [if_pos hc] at h;obtain rfl:=Option.some.inj h;intro d hd;have hd:d∈(c::r).takeWhile figO:=by simpa using hd
   have:=anb hd
   unfold figO at this;rw [e8,decide_eq_true_eq,decide_eq_true_eq] at this;exact this
  .exfalso
   rw [if_neg hc] at h;obtain ⟨rest,e,hl⟩:=afl h
   have:y.cps.toList.headD 0=c:=by
    cases hy:y.cps.toList with
    | nil=>rw [<- lenL,hy] at hl;simp at hl
    | cons d t=>rw [hy] at e;exact (List.cons.inj e).1.symm
   rw [this] at hf;exact hc hf
theorem aij{w:Bool}{g:List Str} : ∀ (n:Nat) (l:List Nat),l.length<=n->∀ y∈(cutF w g l).2,w=true->FigR y
 | 0,l,h,y,hy=>by
  have:l=[]:=aH.mp 'a'
  subst this;rw [oG] at hy;cases hy
 | n+1,l,h,y,hy=>by
  cases e:partF w g l with
  | none=>rw [oF e] at hy;cases hy
  | some x=>
   obtain ⟨rest,e1,e2,e3⟩:=lF e;rw [e2] at hy;have hl:=congrArg c0 e1;rw [D9,lenL] at hl
   rcases L4.mp hy with q | q
   .rw [q];exact akK e
   .exact aij n rest 'a' y q
end L2
variable {R R':List L2.Rl}
namespace L2
open PySem PySem.Spec PyProof.Rows
structure StepL(H:Hp)(r:Addr)(ss:List Tr):Prop where
 ex:∃ ts:List Addr,H r=some (.lst (ts.map V.ref))/\Paired (fun t s=>H t=some (tupT s)) ts ss
noncomputable def IsMk (H:Hp) (d:Addr) (ks:List Str) (F:Str->List Tr):Prop:=∃ ad:Str->Addr,H d=some (.dK (C2 ks fun y=>.ref (ad y)))/\∀ y∈ks,StepL H (ad y) (F y)
structure MkI(H H2:Hp)(d:Addr)(P:List Str)(F:Str->List Tr):Prop where
 same:Same H H2
 made:IsMk H2 d (K8 [] P) F
theorem e9{t:Addr}(hT:A8 K H t xs)(q:∀ p H',Same H H'->A8 K H' p (xs.take 2)->Q (.ref p) H'):rSlR K t none (some 2) H Q:=by
 by_cases h:xs.length<=2
 .refine rSlR.w hT ⟨rfl,?_⟩ (q t H (aQ H) (by rw [u9 h];exact hT));rw [show ((2:Int))=((2:Nat):Int) from rfl,HT.sIx_nat];lia
 .refine rSlR.t hT (fun e=>?_) fun p np=>q p _ (Same.new np) (.of ?_)
  .have:=e.2
   rw [show ((2:Int))=((2:Nat):Int) from rfl,HT.sIx_nat] at this;lia
  .rw [A3,show cutV xs none (some 2)=_ from aV xs 2]
noncomputable def UnT (H:Hp) (e:Addr×Addr) (u:J7):Prop:=H e.1=some (.tup [.int u.1,.int u.2.1,.ref e.2,.int u.2.2.2])/\H e.2=some (.tup (u.2.2.1.map V.int))
structure UnJ(H0 H:Hp)(l:Addr)(es:List (Addr×Addr))(U:List J7):Prop where
 same:Same H0 H
 new:H0 l=none
 top:H l=some (.lst (es.map fun e=>V.ref e.1))
 row:Paired (UnT H) es U
noncomputable def tRev (K:PySem.W.Frag) (te:TE) (tk:TO):TE:=fun Y H Q=>te Y H fun x H1=>tk Y H1 fun k H2=>k=some (-1)/\∃ a xs,x=.ref a/\D1 K H2 a xs/\∀ p,H2 p=none->Q (.ref p) (A0 H2 p (.lst xs.reverse))
theorem uaj(r:Vals xs us):Vals xs.reverse us.reverse:=by
 induction r with
 | nil=>exact .nil
 | cons h t ih=>
  rw [jW,jW];exact ih.append (.cons h .nil)
theorem aoW{tk:TO} : tRev K te tk Y H Q=te Y H fun x H1=>tk Y H1 fun k H2=>k=some (-1)/\∃ a xs,x=.ref a/\D1 K H2 a xs/\∀ p,H2 p=none->Q (.ref p) (A0 H2 p (.lst xs.reverse)):=rfl
end L2
namespace PySem
section
variable {prog:Program} {w:World} {A:Around} {E:Value->Shared->Prop} {s:Shared}
theorem ai8:typeLookup (.type "list_reverseiterator") "__len__"=pure none:=by rw [typeLookup_type,builtinLookup_eq_fast];kernel_rfl
theorem amv:typeLookup (.type "list_reverseiterator") "__length_hint__"=pure (some (.builtin "list_reverseiterator.__length_hint__")):=by rw [typeLookup_type,builtinLookup_eq_fast];kernel_rfl
theorem amw{Q:Bool->Shared->Prop}(hT:s.TypeIs (.ref r) "list_reverseiterator")(h:Q false s):wpAny 'j' A (Builtin.List.listLengthHint (.ref r)) Q E s:=by
 unfold Builtin.List.listLengthHint;refine wpAny_bind (wpAny_specialOf hT ai8 ?_);show wpAny _ A (specialOf (Value.ref r) (Str.ofString "__length_hint__") >>= _) _ _ _;refine wpAny_bind (wpAny_specialOf hT amv ?_);generalize hid:("list_reverseiterator.__length_hint__" : String)=id0
 wp_delta
 rw [show splitId id0=some ("list_reverseiterator", "__length_hint__") from by subst hid;decide +kernel];subst hid;refine wpAny_bind (wpAny_isInstance (T:="list_reverseiterator") (b:=true) hT (by rw [isSubtype_type];kernel_rfl) ?_);refine wpAny_ite_split (fun Y6=>absurd Y6 'h') (fun _=>?_);refine wpAny_ite_split (fun _=>?_) (fun Y6=>absurd 'c' Y6);refine wpAny_ite_split (fun Y6=>absurd Y6 'c') (fun _=>?_);exact wpAny_pure h
theorem ai9{R:Result->Shared->Prop}{l:Addr}(hh:A.handled=none)(mJ:s.heap.IsRevIter r l ((items.size:Int)-1))(hl:s.heap.IsList l items)(G9:l≠r)(hsz:items.size<=sizeLine)(S:Addr)(res:Value)(zd:Nat)(hSr:S≠r)(hSl:S≠l)(hS:s.heap.get? S=some { cls:=.type "list",data:=.seq #[] zd })(hR:∀ h' tk acc' c',(∀ b o,b≠S->b≠r->s.heap.get? b=some o->h'.get? b=some o)->h'.get? S=some { cls:=.type "list",dict:=none,data:=.seq acc' c',slots:=#[] }->
   ItemsOf (fun i v=>items[items.size-1-i]?=some v) acc' items.size->R (.ok (.ret res)) { s with heap:=h',toks:=tk }) :
  wpAny 'j' A.in1 (Builtin.List.listExtendWith (.ref S) (.ref r) res)
   (fun fin s'=>match fin with | .done f=>R (.ok f) s' | .again c'=>c'.quiet=true/\codeAny 'j' A c' R s') (fun e s'=>R (.error e) s') s:=by
 have W:=(Walks.listRev (prog:=prog) (w:=w) (A:=A.in1) hh r l G9 items).toS;have hT:=mJ.typeIs;unfold Builtin.List.listExtendWith;refine wpAny_bind (wpAny_typeOf hT ?_);have h1:Builtin.List.listSameRef (.ref S) (.ref r)=false:=by simp [Builtin.List.listSameRef,hSr]
 have h2:(Value.type "list_reverseiterator" == Value.type "list")=false:=by decide
 have h3:(Value.type "list_reverseiterator" == Value.type "tuple")=false:=by decide
 simp only [h1,h2,h3,Bool.or_false,mZ,if_false];refine wpAny_bind (wpAny_pyIter_revIter mJ ?_);refine wpAny_bind (wpAny_holding (amw hT ?_));refine wpAny_ite_split (fun Y6=>absurd Y6 'c') (fun _=>?_);refine wpAny_pure ⟨plainId_quiet F.plain_extend_loop _,?_⟩;refine codeAny_extend_loopS W hsz S (by simp [hSr,hSl]) res items.size 0 _ #[] zd rfl (F7 _) ⟨F7 _,by simpa using mJ,hl⟩ hS (ItemsOf.nil _) fun s' acc' c' hm hS' U3=>?_
 rw [Moved.eq_with hm];refine hR s'.heap s'.toks acc' c' (fun b o hb hb2 e=>hm.heap b o (fun jC=>?_) e) hS' U3
 rcases L4.mp jC with e' | jC
 .exact hb e'
 .exact hb2 (E7.mp jC)
theorem amx{Q:Value->Shared->Prop}{l:Addr}(hh:A.handled=none)(mJ:s.heap.IsRevIter r l ((items.size:Int)-1))(hl:s.heap.IsList l items)(G9:l≠r)(hsz:items.size<=sizeLine)(hQ:∀ h' tk acc' c',(∀ b o,b≠r->s.heap.get? b=some o->h'.get? b=some o)->
   h'.get? s.heap.objs.size=some { cls:=.type "list",dict:=none,data:=.seq acc' c',slots:=#[] }->ItemsOf (fun i v=>items[items.size-1-i]?=some v) acc' items.size->Q (.ref s.heap.objs.size) { s with heap:=h',toks:=tk }) :
  wpAny 'j' A (call (.type "list") [.ref r]) Q E s:=by
 refine callType_codes (Q₁:=fun obj zu=>obj=.ref s.heap.objs.size/\zu={ s with heap:=s.heap.push { cls:=.type "list",data:=.seq #[] } }) F.called_list (F.typeCall_list_1 _) F.entry_list_init
  (code_list_new _ ⟨rfl,rfl⟩) fun obj zu zr=>?_
 obtain ⟨rfl,rfl⟩:=zr;have hS:(s.heap.push { cls:=.type "list",data:=.seq #[] }).get? s.heap.objs.size=some { cls:=.type "list",data:=.seq #[] }:=Heap.get?_push_size _ rfl;obtain ⟨o1,e1,_⟩:=id mJ;obtain ⟨o2,e2,_⟩:=id hl;have n1:s.heap.objs.size≠r:=fun e=>c9 _ (e ▸ Heap.lt_size e1)
 have n2:s.heap.objs.size≠l:=fun e=>c9 _ (e ▸ Heap.lt_size e2)
 refine ⟨⟨_,hS,rfl⟩,F.args_list_init_2 _ _,?_⟩;show wpAny _ _ (do let old <- Builtin.List.listItems (.ref s.heap.objs.size);Builtin.List.listUpdate (.ref s.heap.objs.size) (fun _=>#[]);letGo old.toList.reverse;Builtin.List.listExtendWith (.ref s.heap.objs.size) (.ref r) .none) _ _ _;refine wpAny_bind ?_;unfold Builtin.List.listItems;refine wpAny_bind (wpAny_seqItems hS rfl (wpAny_pure ?_));show wpAny _ _ (updateSeq s.heap.objs.size (fun _=>#[]) >>= fun _=>letGo (#[]:Array Value).toList.reverse >>= fun _=>Builtin.List.listExtendWith (.ref s.heap.objs.size) (.ref r) .none) _ _ _;refine wpAny_bind (wpAny_updateSeq hS rfl ?_);have zc:=Heap.get?_update_self (Obj.mapSeq (fun _=>(#[]:Array Value))) hS rfl;have oth:∀ b o,b≠s.heap.objs.size->s.heap.get? b=some o->((s.heap.push { cls:=.type "list",data:=.seq #[] }).update s.heap.objs.size (Obj.mapSeq (fun _=>(#[]:Array Value)))).get? b=some o:=
  fun b o hb e=>(Heap.get?_update_other _ _ (Ne.symm hb)).trans (Heap.get?_push_of_some _ e)
 refine wpAny_bind (wpAny_letGo ?_);refine ai9 (A:=A.in1) hh (mJ.at fun o e=>oth r o n1.symm e) (hl.at fun o e=>oth l o n2.symm e) G9 hsz _ .none _ n1 n2 zc fun h' tk acc' c' hk hS' U3=>?_
 exact ⟨rfl,hQ h' tk acc' c' (fun b o hb e=>hk b o (M5 (Heap.lt_size e)) hb (oth b o (M5 (Heap.lt_size e)) e)) hS' U3⟩
end
end PySem
namespace L2
open PySem PySem.Spec PyProof.Rows
noncomputable def tLRev (ta:TA):TE:=fun Y H Q=>ta Y H fun vs H1=>∃ (l:Addr) (xs:List V),vs=[.ref l]/\H1 l=some (.lst xs)/\∀ p,H1 p=none->Q (.ref p) (A0 H1 p (.lst xs.reverse))
theorem aoX{a:Expr}{p pos:Pos}(hc:X.calm=true)(hg:Gl X "reversed")(hm:X.mg "reversed"=none)(dH:Gl X "list")(fT:X.mg "list"=none)(ha:PA X [a] ta)(h1:L7 a=false:=by rfl) :
  PE X (.Call (.Name "list" p1) [.Call (.Name "reversed" p) [a] [] pos] [] pos1) (tLRev ta):=by
 sleep 1;refine Call_ (aN I dH fT kN (PyProof.Rows.callWith_type1 ?_ rfl rfl));show wpAny _ _ (spliced ((false,eval (.Call (.Name "reversed" p) [a] [] pos) X.env)::backTo pos1 (starEach [] X.env))) _ _ s;refine Calls.spliced_cons (Call_ (aN I hg hm afM (PyProof.Rows.callWith_type1 (B1 (ha pos pins s Y H _ I h) fun us s1 ⟨vs,H1,I1,r1,q1⟩=>?_) (O0 h1) rfl)));obtain ⟨l,xs,rfl,e1,q⟩:=q1;obtain ⟨u1,rfl,iZ⟩:=vals1 r1
 cases iZ
 obtain ⟨its1,X0,p1,hz⟩:=I1.list (D1.of (K:=X.K) e1);have q1:=X0.length;refine call_reversed_list p1.isList ?_;refine Calls.spliced_nil ?_;have C4:l<s1.heap.objs.size:=by obtain ⟨o,e,_⟩:=p1.isList;exact Heap.lt_size e
 have z1:(s1.heap.push (revObj l ((its1.toArray.size:Int)-1))).IsRevIter s1.heap.objs.size l ((its1.toArray.size:Int)-1):=⟨_,Heap.get?_push_size _ rfl,rfl,rfl⟩
 refine amx (I1.ok.hd hc) z1 (p1.isList.at fun o e=>Heap.get?_push_of_some _ e) (M5 C4) (by rw [K9];lia) fun h' tk acc' c' hk hS' U3=>?_
 have ea:acc'.toList=its1.reverse:=by
  refine List.ext_getElem? fun j=>?_
  by_cases hj:j<its1.length
  .have mH:j<acc'.size:=by rw [U3.1,K9];exact hj
   have hv:=U3.2 j acc'[j] (Array.getElem?_eq_getElem mH);rw [List.getElem?_reverse hj,Array.getElem?_toList,Array.getElem?_eq_getElem mH,<- hv,List.getElem?_toArray,K9]
  .rw [List.getElem?_eq_none (by rw [eP,U3.1,K9];lia),List.getElem?_eq_none (by rw [List.length_reverse];lia)]
 refine ⟨.ref _,_,I1.laid (o:=.lst xs.reverse) (t':=tk) (fun b o e=>hk b o (M5 (Heap.lt_size e)) (Heap.get?_push_of_some _ e)) (by show s1.heap.objs.size<=(s1.heap.push _).objs.size;rw [Heap.size_push];lia) ⟨by rw [List.length_reverse];exact hz,acc'.toList,c',ea ▸ uaj X0,by simpa using hS'⟩,rfl,q _ (I1.hok.fresh (by show s1.heap.objs.size<=(s1.heap.push _).objs.size;rw [Heap.size_push];lia))⟩
theorem aoY{a:Expr}{p pos:Pos}(hm:X.mg "reversed"=none)(fT:X.mg "list"=none)(ha:QA X [a] ta)(hc:X.calm=true:=by rfl)(hg:Gl X "reversed":=by rfl)(dH:Gl X "list":=by rfl)(h1:L7 a=false:=by rfl) :
  QE X (.Call (.Name "list" p1) [.Call (.Name "reversed" p) [a] [] pos] [] pos1) (tLRev ta):=⟨aoX hc hg hm dH fT ha.out h1⟩
theorem aoZ : tLRev ta Y H Q=ta Y H fun vs H1=>∃ (l:Addr) (xs:List V),vs=[.ref l]/\H1 l=some (.lst xs)/\∀ p,H1 p=none->Q (.ref p) (A0 H1 p (.lst xs.reverse)):=rfl
noncomputable def bA (U:List J7):Nat:=(U.map fun u=>u.2.2.1.length).sum
theorem ahj(U:List J7)(s:Tr):bA (addS U s)<=bA U+1:=by
 unfold addS
 by_cases h:s.1=0
 .rw [if_pos h]
  by_cases hU:U=[]
  .subst hU;unfold addM bA
   simp
  .obtain ⟨U',u,rfl⟩:=xP hU;unfold addM;rw [List.getLast?_append,List.getLast?_singleton];simp [bA];lia
 .rw [if_neg h];simp [bA]
theorem aeL:∀ (ss:List Tr) (U:List J7),bA (ss.foldl addS U)<=bA U+ss.length
 | [],U=>C3 _
 | s::ss,U=>by
  rw [jZ,L3];have h1:=aeL ss (addS U s);have h2:=ahj U s;lia
theorem agK{S:Str->List Tr}(hs:∀ y,(S y).length<=15)(ps:List Str):bA (Q7 S ps)<=15*ps.length:=by
 have h0:(ps.flatMap S).length<=15*ps.length:=by
  induction ps with
  | nil=>exact C3 _
  | cons p ps ih=>
   rw [o6,D9,L3]
   have:=hs p
   lia
 have h1:=aeL (ps.flatMap S) [];unfold Q7;have h2:bA []=0:=rfl;lia
theorem xS{α β:Type}{F:α->β->Prop} : ∀ {as:List α} {bs:List β},Paired F as bs->Paired F as.reverse bs.reverse
 | _,_,.nil=>.nil
 | _,_,.cons h t=>by
  rw [jW,jW];exact Paired.snoc (xS t) h
theorem ahk{S:Str->List Tr}(hs:∀ y,(S y).length<=15){w:Bool}(hy:y.length<=500) :
  (Q7 S (cutF w ks y.cps.toList).2).length<=10000/\(∀ u∈Q7 S (cutF w ks y.cps.toList).2,u.2.2.1.length<=10000)/\bA (Q7 S (cutF w ks y.cps.toList).2)<=100000:=by
 have h1:=xR hs (cutF w ks y.cps.toList).2;have h2:=(xL (w:=w) (g:=ks) _ y.cps.toList (C3 _)).2.1;have h3:=agK hs (cutF w ks y.cps.toList).2;rw [lenL] at h2;exact ⟨by lia,fun u hu=>by have:=h1.2 u hu;lia,by lia⟩
end L2
namespace PySem.SeqAt
open AutoSeq1 (wpAny_loadPart')
open MeetsSeq MeetsSeq2 MeetsSeq3 SeqRoads2
noncomputable def RcLt (A:Around) (s:Shared) (y x:Value) (b:Bool):Prop:=
 ∀ (prog:Program) (w:World) (E:Value->Shared->Prop) (Q:Value->Shared->Prop),Q (.bool b) s->wpAny 'j' A (richCompare .Lt y x) Q E s
theorem akL{α:Type}[DecidableEq α][LT α][DecidableLT α](Q0:∀ a:α,¬ a<a){xs ys:List α}(h1:i<xs.length)(h2:i<ys.length) :
  decide (xs.drop i<ys.drop i)=if decide (xs[i]=ys[i])=true then decide (xs.drop (i+1)<ys.drop (i+1)) else decide (xs[i]<ys[i]):=by
 rw [bX h1,bX h2]
 by_cases e:xs[i]=ys[i]
 .rw [if_pos (decide_eq_true e)];refine decide_eq_decide.mpr ?_;rw [gH,e];exact ⟨fun h=>h.elim (fun h=>absurd h (Q0 _)) (fun h=>h.2),fun h=>.inr ⟨rfl,h⟩⟩
 .rw [if_neg (by simpa using e)];refine decide_eq_decide.mpr ?_;rw [gH];exact ⟨fun h=>h.elim id fun h=>absurd h.1 e,.inl⟩
theorem anc{α:Type}[LT α][DecidableEq α][DecidableLT α]{ys:List α}{m':Nat}(hx:m=m')(hy:n=ys.length)(hi:i=m):decide ([]<ys.drop i)=decide (m<n):=by
 refine decide_eq_decide.mpr ?_;cases e:ys.drop i with
 | nil=>
  have:=List.drop_eq_nil_iff.mp e
  exact ⟨fun h=>absurd h (List.not_lt_nil _),fun h=>by lia⟩
 | cons a r=>
  have:i<ys.length:=by
   rcases Nat.lt_or_ge i ys.length with h | h
   .exact h
   .rw [mW h] at e;cases e
  exact ⟨fun _=>by lia,fun _=>List.nil_lt_cons _ _⟩
theorem akM{α:Type}[DecidableEq α][LT α][DecidableLT α](Q0:∀ a:α,¬ a<a)(l b:Addr)(items items2:Array Value)(n n2:Nat)(dd m7:Option Addr)(sl e9:Array (Option Value))(xs ys:List α)(hx:items.size=xs.length)(hy:items2.size=ys.length)(k:Nat) :
  ∀ i:Nat,items.size-i=k->i<=items.size->i<=items2.size->Meets (Builtin.«list.__eq__.loop» ⟨[.ref l,.ref b,rawInt i,rawInt 0],[]⟩)
   (fun A R s=>s.heap.get? l=some { cls:=.type "list",dict:=dd,data:=.seq items n,slots:=sl }/\s.heap.get? b=some { cls:=.type "list",dict:=m7,data:=.seq items2 n2,slots:=e9 }/\
    (∀ j (h1:j<items.size) (h2:j<items2.size) (g1:j<xs.length) (g2:j<ys.length),EqAt A.in1 s items[j] items2[j] (decide (xs[j]=ys[j]))/\RcLt A.in1 s items[j] items2[j] (decide (xs[j]<ys[j])))/\
    R (.ok (.ret (.bool (decide (xs.drop i<ys.drop i))))) s):=by
 induction k with
 | zero=>
  intro i hk l1 l2 prog w A R s h;obtain ⟨hp,g,d,tk,os⟩:=s;obtain ⟨hl,hb,he,h⟩:=h
  wp_walk using wpAny_loadPart' hl,wpAny_loadPart' hb
  have dE:items[((i:Nat):Int).toNat]?=none:=by simp;lia
  rw [dE]
  wp_walk using wpAny_loadPart' hl,wpAny_loadPart' hb
  show R (.ok (.ret (.bool (decide (items.size<items2.size))))) _;have e:decide (xs.drop i<ys.drop i)=decide (items.size<items2.size):=by
   rw [mW (as:=xs) 'a'];exact anc hx hy 'a'
  rw [e] at h;exact h
 | succ k ih=>
  intro i hk l1 l2 prog w A R s h;obtain ⟨hp,g,d,tk,os⟩:=s;obtain ⟨hl,hb,he,h⟩:=h
  wp_walk using wpAny_loadPart' hl,wpAny_loadPart' hb
  have C4:i<items.size:=by lia
  have dE:items[((i:Nat):Int).toNat]?=some items[i]:=by simp [C4]
  by_cases pW:i<items2.size
  .have bO:items2[((i:Nat):Int).toNat]?=some items2[i]:=by simp [pW]
   have hc:((i:Int)+1)=((i+1:Nat):Int):=by push_cast;rfl
   rw [dE,bO];obtain ⟨h1,h2⟩:=he i C4 pW 'a' 'a';rw [akL Q0 'a' 'a'] at h;refine wpAny_bind (h1 prog w _ _ ?_);cases Z9:decide (xs[i]'(by lia)=ys[i]'(by lia)) with
   | true=>
    rw [Z9,if_pos rfl] at h
    wp_walk
    rw [hc];exact ⟨plainId_quiet plain_eq_loop _,codeAny_builtin entry_eq_loop (by
     rw [Around.under_plainId plain_eq_loop _];exact ih (i+1) 'a' 'a' 'a' prog w A R _ ⟨hl,hb,he,h⟩)⟩
   | false=>
    rw [Z9,if_neg 'h'] at h
    wp_walk using wpAny_loadPart' hl,wpAny_loadPart' hb
    rw [dE,bO];refine wpAny_bind (h2 prog w _ _ ?_)
    wp_walk
    exact h
  .have bO:items2[((i:Nat):Int).toNat]?=none:=by simp;lia
   rw [dE,bO]
   wp_walk using wpAny_loadPart' hl,wpAny_loadPart' hb
   show R (.ok (.ret (.bool (decide (items.size<items2.size))))) _;have e:decide (xs.drop i<ys.drop i)=decide (items.size<items2.size):=by
    rw [mW (as:=ys) 'a'];refine decide_eq_decide.mpr ?_;exact ⟨fun h=>absurd h (List.not_lt_nil _),fun h=>by lia⟩
   rw [e] at h;exact h
theorem akN{α:Type}[DecidableEq α][LT α][DecidableLT α](Q0:∀ a:α,¬ a<a)(l b:Addr)(items items2:Array Value)(n n2:Nat)(dd m7:Option Addr)(sl e9:Array (Option Value))(xs ys:List α)(hx:items.size=xs.length)(hy:items2.size=ys.length) :
  Meets (Builtin.«list.__lt__» ⟨[.ref l,.ref b],[]⟩)
   (fun A R s=>s.heap.get? l=some { cls:=.type "list",dict:=dd,data:=.seq items n,slots:=sl }/\s.heap.get? b=some { cls:=.type "list",dict:=m7,data:=.seq items2 n2,slots:=e9 }/\
    (∀ j (h1:j<items.size) (h2:j<items2.size) (g1:j<xs.length) (g2:j<ys.length),EqAt A.in1 s items[j] items2[j] (decide (xs[j]=ys[j]))/\RcLt A.in1 s items[j] items2[j] (decide (xs[j]<ys[j])))/\
    R (.ok (.ret (.bool (decide (xs<ys))))) s):=by
 intro prog w A R s h;obtain ⟨hp,g,d,tk,os⟩:=s;obtain ⟨hl,hb,he,h⟩:=h;have f3:=AutoSeq1.sub_list_list
 wp_walk using wpAny_loadPart' hl,wpAny_loadPart' hb
 exact ⟨plainId_quiet plain_eq_loop _,codeAny_builtin entry_eq_loop (by
  rw [Around.under_plainId plain_eq_loop _];exact akM Q0 l b items items2 n n2 dd m7 sl e9 xs ys hx hy _ 0 rfl (F7 _) (F7 _) prog w A R _ ⟨hl,hb,he,h⟩)⟩
theorem aja{α:Type}[DecidableEq α][LT α][DecidableLT α](Q0:∀ a:α,¬ a<a)(l b:Addr)(items items2:Array Value)(n n2:Nat)(dd m7:Option Addr)(sl e9:Array (Option Value))(xs ys:List α)(hx:items.size=xs.length)(hy:items2.size=ys.length) :
  Meets (Builtin.«tuple.__lt__» ⟨[.ref l,.ref b],[]⟩)
   (fun A R s=>s.heap.get? l=some { cls:=.type "tuple",dict:=dd,data:=.seq items n,slots:=sl }/\s.heap.get? b=some { cls:=.type "tuple",dict:=m7,data:=.seq items2 n2,slots:=e9 }/\
    (∀ j (h1:j<items.size) (h2:j<items2.size) (g1:j<xs.length) (g2:j<ys.length),EqAt A.in1 s items[j] items2[j] (decide (xs[j]=ys[j]))/\RcLt A.in1 s items[j] items2[j] (decide (xs[j]<ys[j])))/\
    R (.ok (.ret (.bool (decide (xs<ys))))) s):=
 .of_wp fun prog w A R s h=>by
  obtain ⟨hp,g,d,tk,os⟩:=s;obtain ⟨hl,hb,he,h⟩:=h;have f2:=AutoSeq1.sub_tuple_tuple;have hZ:(items.toList.zip items2.toList).length=min items.size items2.size:=by simp
  wp_walk using wpAny_loadPart' hl,wpAny_loadPart' hb,wpAny_forIn_list _ (fun rest b s'=>b.1=none/\s'=⟨hp,g,d,tk,os⟩/\∃ i,rest=(items.toList.zip items2.toList).drop i/\i<=min items.size items2.size/\
   R (.ok (.ret (.bool (decide (xs.drop i<ys.drop i))))) ⟨hp,g,d,tk,os⟩) _
  case turn=>
   rintro ⟨y,x⟩ rest b s' ⟨Z9,rfl,i,hz,hi,hR⟩;have C4:i<(items.toList.zip items2.toList).length:=by
    rcases Nat.lt_or_ge i (items.toList.zip items2.toList).length with h' | h'
    .exact h'
    .rw [mV h'] at hz;cases hz
   have hm:i<min items.size items2.size:=hZ ▸ C4;have h1:i<items.size:=W1 hm (Nat.min_le_left _ _);have h2:i<items2.size:=W1 hm (Nat.min_le_right _ _);rw [bX C4] at hz
   injection hz with hyx i7
   have z9:y=items[i]:=by have:=congrArg Prod.fst hyx;simpa using this
   have hx':x=items2[i]:=by have:=congrArg Prod.snd hyx;simpa using this
   subst z9 hx';rw [akL Q0 'a' 'a'] at hR;obtain ⟨q1,q2⟩:=he i h1 h2 'a' 'a';refine wpAny_bind (q1 prog w _ _ ?_);cases z9:decide (xs[i]'(by lia)=ys[i]'(by lia)) with
   | true=>
    rw [z9,if_pos rfl] at hR
    wp_walk
    exact ⟨rfl,rfl,i+1,i7,hm,hR⟩
   | false=>
    rw [z9,if_neg 'h'] at hR;refine wpAny_ite_split (fun _=>?_) (fun Y6=>absurd rfl Y6);refine wpAny_bind (wpAny_rule ?_);refine wpAny_bind (q2 prog w _ _ ?_)
    wp_walk
    exact ⟨_,rfl,hR⟩
  case fin=>
   rintro ⟨b1,b2⟩ s' ⟨Z9,rfl,i,hz,hi,hR⟩;simp only at Z9;subst Z9;have hge:min items.size items2.size<=i:=by
    rcases Nat.lt_or_ge i (items.toList.zip items2.toList).length with h' | h'
    .rw [bX h'] at hz;cases hz
    .exact hZ ▸ h'
   have e:decide (xs.drop i<ys.drop i)=decide (items.size<items2.size):=by
    by_cases hc:items.size<=i
    .rw [mW (as:=xs) 'a'];exact anc hx hy 'a'
    .rw [mW (as:=ys) 'a'];refine decide_eq_decide.mpr ?_;exact ⟨fun h=>absurd h (List.not_lt_nil _),fun h=>by lia⟩
   rw [e] at hR
   wp_walk
   exact ⟨_,rfl,by simpa [Builtin.Tuple.tupleCompareSizes] using hR⟩
  case h=>
   exact ⟨rfl,rfl,0,rfl,F7 _,h⟩
section
variable {A:Around} {s:Shared}
theorem RcLt.lists{α:Type}[DecidableEq α][LT α][DecidableLT α](Q0:∀ a:α,¬ a<a){l:Addr}{xs ys:List α}(hl:s.heap.IsList l items)(hb:s.heap.IsList b items2)(hx:items.size=xs.length)(hy:items2.size=ys.length)(hu:A.units<cLine)(he:∀ j (h1:j<items.size) (h2:j<items2.size) (g1:j<xs.length) (g2:j<ys.length),EqAt A.in1 s items[j] items2[j] (decide (xs[j]=ys[j]))/\RcLt A.in1 s items[j] items2[j] (decide (xs[j]<ys[j]))):RcLt A s (.ref l) (.ref b) (decide (xs<ys)):=fun prog w E Q h=>by
 obtain ⟨⟨cls,dd,data,sl⟩,ho,hc,n,hd⟩:=id hl;obtain ⟨⟨cls2,m7,data2,e9⟩,bL,P6,n2,V7⟩:=id hb;simp only at hc hd P6 V7;subst hc hd P6 V7;exact richCompare_meets_room (op:=.Lt) ⟨_,ho,rfl⟩ ⟨_,bL,rfl⟩ F.slot_list_lt F.entry_list_lt (F.args_list_lt_2 _ _) (akN Q0 l b items items2 n n2 dd m7 sl e9 xs ys hx hy)
  ⟨ho,bL,he,show Value.bool (decide (xs<ys))≠Value.notImplemented/\Q (.bool (decide (xs<ys))) s from ⟨(fun x=>nomatch x),h⟩⟩ hu
theorem RcLt.tuples{α:Type}[DecidableEq α][LT α][DecidableLT α](Q0:∀ a:α,¬ a<a){l:Addr}{xs ys:List α}(hl:s.heap.IsTuple l items)(hb:s.heap.IsTuple b items2)(hx:items.size=xs.length)(hy:items2.size=ys.length)(hu:A.units<cLine)(he:∀ j (h1:j<items.size) (h2:j<items2.size) (g1:j<xs.length) (g2:j<ys.length),EqAt A.in1 s items[j] items2[j] (decide (xs[j]=ys[j]))/\RcLt A.in1 s items[j] items2[j] (decide (xs[j]<ys[j]))):RcLt A s (.ref l) (.ref b) (decide (xs<ys)):=fun prog w E Q h=>by
 obtain ⟨⟨cls,dd,data,sl⟩,ho,hc,n,hd⟩:=id hl;obtain ⟨⟨cls2,m7,data2,e9⟩,bL,P6,n2,V7⟩:=id hb;simp only at hc hd P6 V7;subst hc hd P6 V7;exact richCompare_meets_room (op:=.Lt) ⟨_,ho,rfl⟩ ⟨_,bL,rfl⟩ F.slot_tuple_lt F.entry_tuple_lt (F.args_tuple_lt_2 _ _) (aja Q0 l b items items2 n n2 dd m7 sl e9 xs ys hx hy)
  ⟨ho,bL,he,show Value.bool (decide (xs<ys))≠Value.notImplemented/\Q (.bool (decide (xs<ys))) s from ⟨(fun x=>nomatch x),h⟩⟩ hu
theorem RcLt.int_int(a:Int)(t:Tok)(b:Int)(u:Tok):RcLt A s (.int a t) (.int b u) (decide (a<b)):=fun prog w E Q h=>PySem.P.lt_int h
end
end PySem.SeqAt
namespace L2
open PySem PySem.Spec PyProof.Rows
theorem xT{xs ys:List Int}(r1:Vals (xs.map V.int) its)(r2:Vals (ys.map V.int) its2) :
  ∀ j (h1:j<its.toArray.size) (h2:j<its2.toArray.size) (g1:j<xs.length) (g2:j<ys.length),SeqAt.EqAt A s its.toArray[j] its2.toArray[j] (decide (xs[j]=ys[j]))/\SeqAt.RcLt A s its.toArray[j] its2.toArray[j] (decide (xs[j]<ys[j])):=by
 intro j h1 h2 g1 g2;obtain ⟨t,e1⟩:=rT (qV r1) (j:=j) (z:=xs[j]) 'd';obtain ⟨u,e2⟩:=rT (qV r2) (j:=j) (z:=ys[j]) 'd';have q1:its.toArray[j]=.int xs[j] t:=by have:=(E5.mp e1).2;simpa using this
 have q2:its2.toArray[j]=.int ys[j] u:=by have:=(E5.mp e2).2;simpa using this
 rw [q1,q2];refine ⟨?_,SeqAt.RcLt.int_int _ _ _ _⟩
 have:=SeqAt.EqAt.int_int (A:=A) (s:=s) xs[j] t ys[j] u
 rwa [show (xs[j]==ys[j])=decide (xs[j]=ys[j]) by rw [Bool.beq_eq_decide_eq]] at this
noncomputable def rLtR (K:PySem.W.Frag) (a b:Addr) (H:Hp) (Q:VK):Prop:=
 (∃ xs ys:List Int,D1 K H a (xs.map V.int)/\D1 K H b (ys.map V.int)/\Q (.bl (decide (xs<ys))) H)\/
 (∃ xs ys:List Int,A8 K H a (xs.map V.int)/\A8 K H b (ys.map V.int)/\Q (.bl (decide (xs<ys))) H)\/
 ∃ (as bs:List Addr) (xs ys:List (List Int)),D1 K H a (as.map V.ref)/\D1 K H b (bs.map V.ref)/\Paired (fun c x=>A8 K H c (x.map V.int)) as xs/\Paired (fun c x=>A8 K H c (x.map V.int)) bs ys/\Q (.bl (decide (xs<ys))) H
noncomputable def rLtK (K:PySem.W.Frag):V->V->Hp->VK->Prop
 | .int i,.int j,H,Q=>Q (.bl (decide (i<j))) H
 | .str i,.str j,H,Q=>Q (.bl (decide (i.cps.toList<j.cps.toList))) H
 | .ref a,.ref b,H,Q=>rLtR K a b H Q
 | _,_,_,_=>False
theorem q_ltK(hu:X.A.units+64<cLine)(hK:X.K=K:=by rfl):QOp X (compareOp .Lt) (rLtK K):=⟨by
 subst hK;sleep 0;have u0:X.A.units<cLine:=by lia
 have u1:X.A.in1.units<cLine:=by rw [show X.A.in1.units=X.A.units+1 from rfl];lia
 have u2:X.A.in1.in1.units<cLine:=by rw [show X.A.in1.in1.units=X.A.units+2 from rfl];lia
 cases x <;> cases y <;> try exact h.elim
 .exact op_lt pins s Y H _ _ v u Q I rx ry ⟨_,_,rfl,rfl,h⟩
 .exact af3 pins s Y H _ _ v u Q I rx ry ⟨_,_,rfl,rfl,h⟩
 cases rx
 cases ry
 rcases h with ⟨xs,ys,h1,h2,q⟩ | ⟨xs,ys,h1,h2,q⟩ | ⟨as,bs,xs,ys,h1,h2,p1,p2,q⟩
 .obtain ⟨its,r1,l1,_⟩:=I.list h1;obtain ⟨its2,r2,l2,_⟩:=I.list h2;have e1:=r1.length;have e2:=r2.length;rw [A6] at e1 e2;exact SeqAt.RcLt.lists eR l1.isList l2.isList (by simpa using e1.symm) (by simpa using e2.symm) u0 (xT r1 r2) _ _ _ _ ⟨.bl _,H,I,rfl,q⟩
 .obtain ⟨its,r1,l1,_⟩:=I.tuple h1;obtain ⟨its2,r2,l2,_⟩:=I.tuple h2;have e1:=r1.length;have e2:=r2.length;rw [A6] at e1 e2;exact SeqAt.RcLt.tuples eR l1 l2 (by simpa using e1.symm) (by simpa using e2.symm) u0 (xT r1 r2) _ _ _ _ ⟨.bl _,H,I,rfl,q⟩
 .obtain ⟨its,r1,l1,_⟩:=I.list h1;obtain ⟨its2,r2,l2,_⟩:=I.list h2;have e1:=r1.length;have e2:=r2.length;rw [A6] at e1 e2;have f1:=Paired.length p1;have f2:=Paired.length p2;refine SeqAt.RcLt.lists (xs:=xs) (ys:=ys) (fun a=>List.lt_irrefl a) l1.isList l2.isList (by simp;lia) (by simp;lia) u0 (fun j h1 h2 g1 g2=>?_) _ _ _ _ ⟨.bl _,H,I,rfl,q⟩;have j1:j<as.length:=by lia
  have j2:j<bs.length:=by lia
  obtain ⟨v1,w1,z1⟩:=Vals.get (i:=j) (x:=.ref as[j]) r1 (by simp [j1]);obtain ⟨v2,w2,z2⟩:=Vals.get (i:=j) (x:=.ref bs[j]) r2 (by simp [j2]);have q1:its.toArray[j]=v1:=by have:=(E5.mp w1).2;simpa using this
  have q2:its2.toArray[j]=v2:=by have:=(E5.mp w2).2;simpa using this
  rw [q1,q2];obtain ⟨x1,y1,t1⟩:=Paired.at p1 (i:=j) (a:=as[j]) (by simp [j1]);obtain ⟨x2,y2,t2⟩:=Paired.at p2 (i:=j) (a:=bs[j]) (by simp [j2]);have o1:xs[j]=x1:=(E5.mp y1).2;have o2:ys[j]=x2:=(E5.mp y2).2;rw [o1,o2]
  constructor
  .obtain ⟨c1,us1,d1⟩:=(Dn.tup t1 kL).reads I rfl z1;obtain ⟨c2,us2,d2⟩:=(Dn.tup t2 kL).reads I rfl z2
   have:=SeqAt.eqAt_reads _ _ X.A.in1 s v1 v2 _ _ d1 d2 c1 c2 (by
    have hd:∀ zs:List Int,(PyData.tuple (zs.map cD)).depth=1:=fun zs=>by rw [eO,rG]
    have ui:X.A.in1.units=X.A.units+1:=rfl;rw [hd,hd];lia)
   rwa [X9,rC] at this
  .cases z1
   cases z2
   obtain ⟨i1,s1,m1,_⟩:=I.tuple t1;obtain ⟨i2,s2,m2,_⟩:=I.tuple t2;have k1:=s1.length;have k2:=s2.length;rw [A6] at k1 k2;exact SeqAt.RcLt.tuples eR m1 m2 (by simpa using k1.symm) (by simpa using k2.symm) u1 (xT s1 s2)⟩
section
variable {K:PySem.W.Frag} {H:Hp} {Q:VK}
theorem arO{i j:Int} : rLtK K (.int i) (.int j) H Q=Q (.bl (decide (i<j))) H:=rfl
theorem arP{i j:Str} : rLtK K (.str i) (.str j) H Q=Q (.bl (decide (i.cps.toList<j.cps.toList))) H:=rfl
theorem arQ : rLtK K (.ref a) (.ref b) H Q=rLtR K a b H Q:=rfl
end
end L2
namespace L2
open PySem PySem.Spec PyProof.Rows
open PySem.Builtin
noncomputable abbrev KX:=List B5×Addr×V
noncomputable abbrev XR:List KX->List (List B5×Addr×Value)->Prop:=Paired fun p q=>p.1=q.1/\p.2.1=q.2.1/\RelV p.2.2 q.2.2
noncomputable def dxIs (P:Program) (w:World) (a:Addr) (kvs:List KX) (h:Heap):Prop:=
 kvs.length<=sizeLine/\(a==sysModules)=false/\∃ xs:List (List B5×Addr×Value),XR kvs xs/\∃ o es ep,h.get? a=some o/\o.ExactDict/\o.data=.dict es ep/\es.toList=xs.map (entryOfKey (tupleKind (N3 P w)))/\(xs.map (·.1)).Nodup
noncomputable def dX (P:Program) (w:World) (a:Addr) (kvs:List KX):HO:=.ext (dxIs P w a kvs)
noncomputable def KeysX (K:PySem.W.Frag) (H:Hp) (kvs:List KX):Prop:=∀ p∈kvs,A8 K H p.2.1 (p.1.map kV)
noncomputable def lookX (kvs:List KX) (k:List B5):Option V:=(kvs.find? fun p=>decide (p.1=k)).map (·.2.2)
theorem XR.val:∀ {kvs:List KX} {xs:List (List B5×Addr×Value)},XR kvs xs->∀ k,RelO (lookX kvs k) ((atKey xs k).map (·.2))
 | _,_,.nil,k=>True.intro
 | p::ps,q::qs,.cons ⟨h1,h2,h3⟩ t,k=>by
  by_cases e:p.1=k
  .have a:lookX (p::ps) k=some p.2.2:=by simp [lookX,X5,e]
   have b:atKey (q::qs) k=some q.2:=by simp [atKey,X5,h1.symm.trans e]
   rw [a,b];exact h3
  .have e':¬ q.1=k:=fun z=>e (h1.trans z)
   have a:lookX (p::ps) k=lookX ps k:=by simp [lookX,X5,e]
   have b:atKey (q::qs) k=atKey qs k:=by simp [atKey,X5,e']
   rw [a,b];exact XR.val t k
theorem dx_ok{P:Program}{w:World}{kvs:List KX}(x:dxIs P w a kvs h):ObjOk P w H h a (dX P w a kvs):=by
 refine ⟨x,?_,fun h1 h2 y k=>?_⟩
 .obtain ⟨_,_,_,_,o,_,_,e,_⟩:=x;exact ⟨o,e⟩
 .obtain ⟨z,d,xs,r,o,es,ep,e,c⟩:=y;exact ⟨z,d,xs,r,o,es,ep,k _ e,c⟩
section
variable {X:Cx} {pins:List (Addr×Obj)} {Y:St} {H:Hp} {s:Shared} {a b:Addr} {kvs:List KX} {k:List B5}
theorem Inv.keyS(I:Inv X pins Y H s)(e:A8 X.K H b (k.map kV)):(tupleKind (N3 X.prog X.w)).is s.heap k b:=by
 obtain ⟨its,r,⟨o,h1,h2,n,h3⟩,_⟩:=I.tuple e;exact ⟨o,its.toArray,n,h1,h2,h3,by simpa using vS r⟩
theorem Inv.dx(I:Inv X pins Y H s)(e:H a=some (dX X.prog X.w a kvs))(hk:KeysX X.K H kvs):kvs.length<=sizeLine/\(a==sysModules)=false/\∃ xs,XR kvs xs/\s.heap.DictOfH (tupleKind (N3 X.prog X.w)) a xs:=by
 obtain ⟨⟨z,d,xs,r,o,es,ep,h1,h2,h3,h4,h5⟩,_⟩:=(show ObjOk X.prog X.w H s.heap a (dX X.prog X.w a kvs) from I.hok a _ e)
 refine ⟨z,d,xs,r,o,es,ep,h1,h2,h3,h4,fun x hx=>?_,h5⟩;obtain ⟨i,hi⟩:=jS.mp hx;have hl:=Paired.length r;have o3:i<kvs.length:=by rw [hl];exact (E5.mp hi).1
 obtain ⟨q,hq,e1,e2,_⟩:=Paired.at r (i:=i) (a:=kvs[i]) (L1 o3);rw [hi] at hq;cases hq
 have:=hk kvs[i] (jY o3)
 rw [<- e1,<- e2];exact I.keyS this
end
noncomputable def ane (P:Program) (w:World) (K:PySem.W.Frag) (td ty:TE):TE:=fun Y H Q=>td Y H fun x H1=>ty Y H1 fun y H2=>∃ a kvs b k v,x=.ref a/\H2 a=some (dX P w a kvs)/\KeysX K H2 kvs/\y=.ref b/\A8 K H2 b (k.map kV)/\lookX kvs k=some v/\Q v H2
noncomputable def rNotX (P:Program) (w:World) (K:PySem.W.Frag):R2:=fun y x H Q=>∃ a kvs b k,x=.ref a/\H a=some (dX P w a kvs)/\KeysX K H kvs/\y=.ref b/\A8 K H b (k.map kV)/\Q (.bl (!(lookX kvs k).isSome)) H
noncomputable def anf (P:Program) (w:World) (K:PySem.W.Frag) (td ty tv:TE):TS:=fun D Y H=>tv Y H fun v H1=>td Y H1 fun x H2=>ty Y H2 fun y H3=>∃ a kvs b k,x=.ref a/\H3 a=some (dX P w a kvs)/\KeysX K H3 kvs/\y=.ref b/\A8 K H3 b (k.map kV)/\lookX kvs k=none/\kvs.length<sizeLine/\D.nx Y (A0 H3 a (dX P w a (kvs++[(k,b,v)])))
noncomputable def ang (P:Program) (w:World) (K:PySem.W.Frag) (tk tv:TE):TE:=fun Y H Q=>∀ p,H p=none->tk Y (A0 H p (dX P w p [])) fun x H1=>tv Y H1 fun y H2=>H2 p=some (dX P w p [])/\∃ b k,x=.ref b/\A8 K H2 b (k.map kV)/\Q (.ref p) (A0 H2 p (dX P w p [(k,b,y)]))
section
variable {X:Cx} {o i value:Expr} {to ti tv:TE} {pos pos':Pos} {P:Program} {w:World} {K:PySem.W.Frag}
theorem amy(hu:X.A.units+1<cLine)(ho:QE X o to)(hi:QE X i ti)(hP:X.prog=P:=by rfl)(hw:X.w=w:=by rfl)(hK:X.K=K:=by rfl)(hs:NoSl i:=by exact fun _ _=>rfl):QE X (.Subscript o i pos) (ane P w K to ti):=⟨by
 subst hP hw hK;sleep 1;refine vU PySem.F.slot_dict_getitem.lookup hs (B1 (ho.out pins s Y H _ I h) fun u s1 ⟨x,H1,I1,rx,q1⟩=>B1 (hi.out pins s1 Y H1 _ I1 q1) fun iv s2 ⟨y,H2,I2,ry,a,kvs,b,k,v,ex,e,hk,ey,eb,l,q2⟩=>?_);subst ex ey;obtain rfl:u=Value.ref a:=rx
 cases (show iv=Value.ref b from ry)
 obtain ⟨z,hd,xs,rel,dd⟩:=I2.dx e hk;obtain ⟨w',hw,rw'⟩:=nI (v:=v) (o:=(atKey xs k).map (·.2)) (by rw [<- l];exact rel.val k);obtain ⟨p,hp,bN⟩:=Option.map_eq_some_iff.mp hw;refine ⟨dd.typeIs,wpAny_getItem_heap (tupleKind_room_in1 hu) (I2.keyS eb) dd hp ?_⟩;rw [bN];exact ⟨v,H2,I2.tok _,rw',q2⟩⟩
theorem xU(hu:X.A.units+1<cLine)(hP:X.prog=P:=by rfl)(hw:X.w=w:=by rfl)(hK:X.K=K:=by rfl):QOp X (compareOp .NotIn) (rNotX P w K):=⟨by
 subst hP hw hK;sleep 0;obtain ⟨a,kvs,b,k,rfl,e,hk,rfl,eb,q⟩:=h;obtain rfl:u=Value.ref a:=ry
 cases (show v=Value.ref b from rx)
 obtain ⟨z,hd,xs,rel,dd⟩:=I.dx e hk;refine wpAny_notIn_heap (tupleKind_room_in1 hu) (I.keyS eb) hd dd ?_;have e2:=(rel.val k).isSome_eq;rw [eQ] at e2;rw [<- e2];exact ⟨.bl _,H,I.tok _,rfl,q⟩⟩
theorem anh{kvs:List KX}{k:List B5}{r:Value}{xs:List (List B5×Addr×Value)}(I:Inv X pins Y H s)(e:H a=some (dX X.prog X.w a kvs))(hd:(a==sysModules)=false)(rel:XR kvs xs)(l:lookX kvs k=none)(hl:kvs.length<sizeLine)(rv:RelV v r)(dd:h'.DictOfH (tupleKind (N3 X.prog X.w)) a (storedH xs k b r))(hs:Heap.SameBut a s.heap h'):Inv X pins Y (A0 H a (dX X.prog X.w a (kvs++[(k,b,v)]))) { s with heap:=h',toks:=t' }:=by
 have hn:atKey xs k=none:=by
  have e2:=(rel.val k).isSome_eq;rw [eQ,l] at e2;exact Option.not_isSome_iff_eq_none.mp (by rw [<- e2];simp)
 rw [storedH_new hn] at dd;obtain ⟨q,es,ep,hq,h2,h3,h4,_,h5⟩:=dd;refine rA I (by rw [e];exact True.intro) hs ⟨q,hq⟩ (dx_ok ⟨by rw [D9];exact hl,hd,_,Paired.snoc rel ⟨rfl,rfl,rv⟩,q,es,ep,hq,h2,h3,h4,h5⟩)
theorem aik(hu:X.A.units+1<cLine)(ho:QE X o to)(hi:QE X i ti)(hv:QE X value tv)(hP:X.prog=P:=by rfl)(hw:X.w=w:=by rfl)(hK:X.K=K:=by rfl)(hs:swapsWith value (some (.Subscript o i pos')) pos.line X.env=pure false:=by rfl):QS X (.Assign [.Subscript o i pos'] value pos) (anf P w K to ti tv):=⟨by
 subst hP hw hK;intro pins s Y H D I h;refine wpAny_Assign_Subscript (B1 (hv.out pins s Y H _ I h) fun r s1 ⟨v,H1,I1,rv,q1⟩=>B1 (ho.out pins s1 Y H1 _ I1 q1) fun u s2 ⟨x,H2,I2,rx,q2⟩=>B1 (hi.out pins s2 Y H2 _ I2 q2) fun iv s3 ⟨y,H3,I3,ry,a,kvs,b,k,ex,e,hk,ey,eb,l,hl,q3⟩=>?_) hs;subst ex ey;obtain rfl:u=Value.ref a:=rx
 cases (show iv=Value.ref b from ry)
 obtain ⟨z,hd,xs,rel,dd⟩:=I3.dx e hk;refine wpAny_setItem_heap (hsz:=by rw [<- Paired.length rel];exact z) (tupleKind_room_in1 hu) (I3.keyS eb) dd fun h' dd' hs=>⟨Y,_,anh I3 e hd rel l hl rv dd' hs,q3⟩⟩
theorem amz(hu:X.A.units+1<cLine)(hk:QE X o to)(hv:QE X value tv)(hP:X.prog=P:=by rfl)(hw:X.w=w:=by rfl)(hK:X.K=K:=by rfl):QE X (.Dict [some o] [value] pos) (ang P w K to tv):=⟨by
 subst hP hw hK;intro pins s Y H Q I q;have hn:=I.hok.fresh (C3 s.heap.objs.size);have I1:=I.laid (a:=s.heap.objs.size) (o:=dX X.prog X.w s.heap.objs.size []) (h':=s.heap.push { cls:=.type "dict",data:=.dict #[] }) (t':=s.toks) (fun _ _ q=>Heap.get?_push_of_some _ q) (C3 _) (dx_ok ⟨F7 _,beq_eq_false_iff_ne.mpr (Ne.symm (M5 I.big)),[],.nil,_,#[],0,Heap.get?_push_size _ rfl,⟨rfl,rfl,rfl⟩,rfl,rfl,List.nodup_nil⟩);refine wpAny_Dict_any rfl rfl 'd' (by show 1<=15;decide) (pairTrees_cons_walk (B1 (hk.out pins _ Y _ _ I1 (q _ hn)) fun u s1 ⟨x,H1,I1,rx,q1⟩=>B1 (hv.out pins s1 Y H1 _ I1 q1) fun r s2 ⟨y,H2,I2,ry,e,b,k,ex,eb,q2⟩=>pairTrees_nil_walk ?_));subst ex
 cases (show u=Value.ref b from rx)
 obtain ⟨z,hd,xs,rel,dd⟩:=I2.dx e (fun _ h=>nomatch h);unfold storeAll;rw [List.forIn_cons];refine wpAny_bind (wpAny_bind (wpAny_dictSet_heap (hsz:=by rw [<- Paired.length rel];exact z) (knd:=tupleKind (N3 X.prog X.w)) (show X.A.units<cLine by lia) (I2.keyS eb) dd fun h' dd' hs=>wpAny_pure ?_))
 dsimp only
 rw [List.forIn_nil];exact wpAny_pure ⟨.ref s.heap.objs.size,_,anh (kvs:=[]) I2 e hd rel rfl 'h' ry dd' hs,rfl,q2⟩⟩
end
theorem amA{P:Program}{w:World} : ane P w K td ty Y H Q=td Y H fun x H1=>ty Y H1 fun y H2=>∃ a kvs b k v,x=.ref a/\H2 a=some (dX P w a kvs)/\KeysX K H2 kvs/\y=.ref b/\A8 K H2 b (k.map kV)/\lookX kvs k=some v/\Q v H2:=rfl
theorem amB{P:Program}{w:World} : anf P w K td ty tv D Y H=tv Y H fun v H1=>td Y H1 fun x H2=>ty Y H2 fun y H3=>∃ a kvs b k,x=.ref a/\H3 a=some (dX P w a kvs)/\KeysX K H3 kvs/\y=.ref b/\A8 K H3 b (k.map kV)/\lookX kvs k=none/\kvs.length<sizeLine/\D.nx Y (A0 H3 a (dX P w a (kvs++[(k,b,v)]))):=rfl
theorem amC{P:Program}{w:World} : ang P w K tk tv Y H Q=∀ p,H p=none->tk Y (A0 H p (dX P w p [])) fun x H1=>tv Y H1 fun y H2=>H2 p=some (dX P w p [])/\∃ b k,x=.ref b/\A8 K H2 b (k.map kV)/\Q (.ref p) (A0 H2 p (dX P w p [(k,b,y)])):=rfl
theorem arR{P:Program}{w:World} : rNotX P w K (.ref b) (.ref a) H Q=∃ kvs k,H a=some (dX P w a kvs)/\KeysX K H kvs/\A8 K H b (k.map kV)/\Q (.bl (!(lookX kvs k).isSome)) H:=
 propext ⟨fun ⟨_,kvs,_,k,e,h1,h2,e2,h3,h4⟩=>by cases e;cases e2;exact ⟨kvs,k,h1,h2,h3,h4⟩,fun ⟨kvs,k,h1,h2,h3,h4⟩=>⟨a,kvs,b,k,rfl,h1,h2,rfl,h3,h4⟩⟩
noncomputable def ani (P:Program) (w:World):TE:=fun _ H Q=>∀ p,H p=none->Q (.ref p) (A0 H p (dX P w p []))
noncomputable def rInX (P:Program) (w:World) (K:PySem.W.Frag):R2:=fun y x H Q=>∃ a kvs b k,x=.ref a/\H a=some (dX P w a kvs)/\KeysX K H kvs/\y=.ref b/\A8 K H b (k.map kV)/\Q (.bl (lookX kvs k).isSome) H
section
variable {X:Cx} {pos:Pos} {P:Program} {w:World} {K:PySem.W.Frag}
theorem amD(hP:X.prog=P:=by rfl)(hw:X.w=w:=by rfl):QE X (.Dict [] [] pos) (ani P w):=⟨by
 subst hP hw;sleep 1;exact wpAny_Dict_empty ⟨.ref s.heap.objs.size,_,I.laid (a:=s.heap.objs.size) (o:=dX X.prog X.w s.heap.objs.size []) (t':=s.toks) (fun _ _ q=>Heap.get?_push_of_some _ q) (C3 _) (dx_ok ⟨F7 _,beq_eq_false_iff_ne.mpr (Ne.symm (M5 I.big)),[],.nil,_,#[],0,Heap.get?_push_size _ rfl,⟨rfl,rfl,rfl⟩,rfl,rfl,List.nodup_nil⟩),rfl,h _ (I.hok.fresh (C3 _))⟩⟩
theorem q_inX(hu:X.A.units+1<cLine)(hP:X.prog=P:=by rfl)(hw:X.w=w:=by rfl)(hK:X.K=K:=by rfl):QOp X (compareOp .In) (rInX P w K):=⟨by
 subst hP hw hK;sleep 0;obtain ⟨a,kvs,b,k,rfl,e,hk,rfl,eb,q⟩:=h;obtain rfl:u=Value.ref a:=ry
 cases (show v=Value.ref b from rx)
 obtain ⟨z,hd,xs,rel,dd⟩:=I.dx e hk;refine wpAny_in_heap (tupleKind_room_in1 hu) (I.keyS eb) hd dd ?_;have e2:=(rel.val k).isSome_eq;rw [eQ] at e2;rw [<- e2];exact ⟨.bl _,H,I.tok _,rfl,q⟩⟩
noncomputable def rIsT (K:PySem.W.Frag):List V->Hp->VK->Prop:=fun vs H Q=>∃ (a:Addr) (xs:List V),vs=[.ref a,.ty "tuple"]/\A8 K H a xs/\Q (.bl true) H
theorem amE:CallR X (.builtin "isinstance") (rIsT X.K):=by
 intro pins s Y H vs us Q I r h;obtain ⟨a,xs,rfl,hx,q⟩:=h;obtain ⟨u,c,rfl,ru,rc⟩:=vals2 r;obtain rfl:c=Value.type "tuple":=rc
 cases (show u=Value.ref a from ru)
 obtain ⟨its,_,⟨o,h1,h2,_⟩,_⟩:=I.tuple hx;exact o7 PySem.W.kitx_tuple I.kIn ⟨o,h1,h2⟩ (show PySem.W.kitOne X.K (.type "tuple") (.type "tuple")=some true from rfl) (fun z=>nomatch z) fun tk=>⟨.bl _,H,I.tok tk,rfl,q⟩
theorem q_isT(hK:X.K=K:=by rfl):QCall X (.builtin "isinstance") (rIsT K):=by subst hK;exact ⟨amE⟩
end
theorem amF{P:Program}{w:World} : ani P w Y H Q=∀ p,H p=none->Q (.ref p) (A0 H p (dX P w p [])):=rfl
theorem inX_r{P:Program}{w:World} : rInX P w K (.ref b) (.ref a) H Q=∃ kvs k,H a=some (dX P w a kvs)/\KeysX K H kvs/\A8 K H b (k.map kV)/\Q (.bl (lookX kvs k).isSome) H:=
 propext ⟨fun ⟨_,kvs,_,k,e,h1,h2,e2,h3,h4⟩=>by cases e;cases e2;exact ⟨kvs,k,h1,h2,h3,h4⟩,fun ⟨kvs,k,h1,h2,h3,h4⟩=>⟨a,kvs,b,k,rfl,h1,h2,rfl,h3,h4⟩⟩
theorem isT_r : rIsT K [.ref a,.ty "tuple"] H Q=∃ xs,A8 K H a xs/\Q (.bl true) H:=
 propext ⟨fun ⟨_,xs,e,h⟩=>by cases e;exact ⟨xs,h⟩,fun ⟨xs,h⟩=>⟨a,xs,rfl,h⟩⟩
end L2
namespace L2
open PySem PySem.Spec PyProof.Rows
theorem ao0{xs ys:List Str}(r1:Vals (xs.map V.str) its)(r2:Vals (ys.map V.str) its2) :
  ∀ j (h1:j<its.toArray.size) (h2:j<its2.toArray.size) (g1:j<(xs.map fun z:Str=>z.cps.toList).length) (g2:j<(ys.map fun z:Str=>z.cps.toList).length),SeqAt.EqAt A s its.toArray[j] its2.toArray[j] (decide ((xs.map fun z:Str=>z.cps.toList)[j]=(ys.map fun z:Str=>z.cps.toList)[j]))/\SeqAt.RcLt A s its.toArray[j] its2.toArray[j] (decide ((xs.map fun z:Str=>z.cps.toList)[j]<(ys.map fun z:Str=>z.cps.toList)[j])):=by
 intro j h1 h2 g1 g2;rw [A6] at g1 g2;obtain ⟨v1,w1,t,rfl⟩:=Vals.get (i:=j) (x:=.str xs[j]) r1 (by simp [g1]);obtain ⟨v2,w2,u,rfl⟩:=Vals.get (i:=j) (x:=.str ys[j]) r2 (by simp [g2]);have q1:its.toArray[j]=.str xs[j] t:=by have:=(E5.mp w1).2;simpa using this
 have q2:its2.toArray[j]=.str ys[j] u:=by have:=(E5.mp w2).2;simpa using this
 rw [q1,q2,List.getElem_map,List.getElem_map];refine ⟨?_,fun prog w E Q h=>lt_str h⟩
 have:=SeqAt.EqAt.str_str (A:=A) (s:=s) xs[j] t ys[j] u
 rwa [show (xs[j]==ys[j])=decide (xs[j].cps.toList=ys[j].cps.toList) by
  rw [Bool.beq_eq_decide_eq];exact decide_eq_decide.mpr ⟨fun e=>by rw [e],fun e=>by
   have:xs[j].cps=ys[j].cps:=Array.toList_inj.mp e
   cases h1:xs[j];cases h2:ys[j];rw [h1,h2] at this;exact congrArg Str.mk this⟩] at this
noncomputable def rLtL (K:PySem.W.Frag) (x y:V) (H:Hp) (Q:VK):Prop:=rLtK K x y H Q\/∃ (a b:Addr) (xs ys:List Str),x=.ref a/\y=.ref b/\D1 K H a (xs.map V.str)/\D1 K H b (ys.map V.str)/\Q (.bl (decide ((xs.map fun z:Str=>z.cps.toList)<ys.map fun z:Str=>z.cps.toList))) H
theorem q_ltL(hu:X.A.units+64<cLine)(hK:X.K=K:=by rfl):QOp X (compareOp .Lt) (rLtL K):=⟨by
 sleep 0
 rcases h with h | ⟨a,b,xs,ys,rfl,rfl,h1,h2,q⟩
 .exact (q_ltK hu hK).out pins s Y H x y v u Q I rx ry h
 subst hK
 cases rx
 cases ry
 have u0:X.A.units<cLine:=by lia
 obtain ⟨its,r1,l1,_⟩:=I.list h1;obtain ⟨its2,r2,l2,_⟩:=I.list h2;have e1:=r1.length;have e2:=r2.length;rw [A6] at e1 e2;exact SeqAt.RcLt.lists (fun a=>List.lt_irrefl a) l1.isList l2.isList (by simpa using e1.symm) (by simpa using e2.symm) u0 (ao0 r1 r2) _ _ _ _ ⟨.bl _,H,I,rfl,q⟩⟩
end L2
open L2 in
local macro_rules | `(tactic| walk_at "rd")=>`(tactic| simp only [↓amX,↓ap_c,↓aod,↓aq9,↓alR,↓aoe,↓aof,↓ara,↓aog,↓arb,↓arc,↓aoh,↓ap_op,↓an8,↓ap_tB,↓aq7,↓aq6,↓ap_or,↓aob,↓aq8,↓aoc,↓aoa,↓ap_if,↓alQ,↓ap_cb,↓aol,↓arf,↓aom,↓arh,↓ari,↓ap_sl,↓ajV,↓aon,↓arl,↓aox,↓alV,↓aov,↓aow,↓alW,↓alX,↓ap_bm,↓arj,↓ard,↓aoj,↓aoi,↓alT,↓aok,↓ap_un,↓ap_rU,↓are,↓ark,↓aoo,↓aop,↓aoq,↓aor,↓alS,↓aos,↓alU,↓aot,↓an9,aou,aoy,alY,alZ,al0,↓ad_ii,↓ad_ss,↓ad_rr,↓mu_ii,↓mu_ri,↓eq_ii,↓eq_ss,↓eq_bb,↓eq_rx,↓eq_xr,↓ne_ii,↓ne_ss,↓ne_bb,↓ne_rx,↓ne_xr,↓L2.lt_ii,↓L2.lt_ss,↓le_ii,↓le_ss,↓gt_ii,↓gt_ss,↓ge_ii,↓ge_ss,↓in_xs,↓in_xr,↓sl_s,↓sl_r,↓len_s,↓len_r,↓arn,↓all_r,↓isi_t,↓ord_s,↓arr,↓al4,am3,↓al5,↓tup_r,↓aoH,↓ars,↓art,↓aoI,↓aoJ,↓al7,↓al8,↓aoz,↓aoA,↓amA,↓amB,↓amC,↓arR,↓amF,↓inX_r,↓isT_r,↓aoW,↓aoZ,↓arO,↓arP,↓arQ,↓arL,↓arH,↓arG,↓aoS,↓akt,↓arI,↓arJ,↓arK,↓any_r,↓ami,↓aoP,↓aoQ,↓ary,↓aoR,↓amk,↓aoK,↓amd,↓aoM,↓amc,al1,agi,cxK,cxKn,cxKb,cxC,cxCn,cxCb,F6,List.map_nil,L3,Z0,Nat.sub_self,Nat.reduceAdd,Nat.reduceSub,Nat.zero_add,Nat.add_one_sub_one,List.replicate_zero,jT,M8,eG,gL,List.getElem?_cons_zero,List.getElem?_cons_succ,List.set_cons_zero,List.set_cons_succ,Option.some.injEq,Option.join_some,Option.join_none,exists_eq_left',exists_eq_left,exists_eq',exists_eq,reduceCtorEq,false_and,and_false,exists_false,exists_const,false_or,or_false,true_and,and_true,V.str.injEq,V.int.injEq,V.bl.injEq,V.ref.injEq,V.ty.injEq,List.cons.injEq,exists_and_left,exists_and_right,and_assoc,if_true,if_false,mZ,Bool.not_true,Bool.not_false,ite_true,ite_false,Int.reduceLT,Int.reduceLE,F7])
namespace K73
open PySem PySem.Spec PyProof.Rows L2
set_option maxHeartbeats 4000000
noncomputable def top (i:Nat):Stmt:=PySem.Challenge.pw_sortlore_k73_rooms_walked.main.body.getD i (.Pass ⟨0,0,0,0⟩)
noncomputable abbrev bB:Stmt:=top 8
noncomputable abbrev g0:Stmt:=top 9
noncomputable abbrev bC:Stmt:=top 12
noncomputable abbrev R6:Stmt:=top 15
noncomputable abbrev sB:Stmt:=top 17
noncomputable abbrev oI:Stmt:=top 27
noncomputable abbrev sC:Stmt:=top 28
noncomputable abbrev fE:Stmt:=top 29
noncomputable abbrev t5:Stmt:=top 30
noncomputable abbrev cN:Stmt:=top 31
noncomputable abbrev cO:Stmt:=top 32
noncomputable abbrev oJ:Stmt:=top 33
noncomputable abbrev fF:Stmt:=top 34
noncomputable abbrev Q9:Stmt:=top 35
noncomputable abbrev fG:Stmt:=qY (top 36) 0
noncomputable abbrev fH:Stmt:=qY (top 36) 3
noncomputable abbrev hX:Stmt:=top 18
noncomputable abbrev cP:Stmt:=top 19
noncomputable abbrev s_cut:Stmt:=top 20
noncomputable abbrev iA:Stmt:=qY (top 36) 4
noncomputable abbrev fI:Stmt:=qY (top 36) 5
noncomputable abbrev oK:Stmt:=top 38
noncomputable abbrev oM:Stmt:=top 39
noncomputable abbrev oN:Stmt:=top 40
noncomputable abbrev t6:Stmt:=top 41
noncomputable abbrev bD:Stmt:=top 42
noncomputable abbrev t7:Stmt:=top 44
noncomputable abbrev Y3:Stmt:=top 45
noncomputable abbrev g3:Stmt:=top 48
noncomputable abbrev x5:Stmt:=top 49
noncomputable abbrev lG:Stmt:=top 50
noncomputable abbrev iB:Stmt:=top 51
noncomputable abbrev sD:Stmt:=top 52
noncomputable abbrev sE:Stmt:=top 53
noncomputable abbrev lH:Stmt:=top 55
noncomputable abbrev g4:Stmt:=top 56
noncomputable abbrev k9:Stmt:=top 57
noncomputable abbrev lI:Stmt:=top 58
noncomputable abbrev N6:Stmt:=top 59
noncomputable abbrev oO:Stmt:=top 61
noncomputable abbrev cQ:Stmt:=top 62
noncomputable abbrev lJ:Stmt:=top 63
noncomputable abbrev fJ:Stmt:=top 64
noncomputable abbrev l6:Stmt:=top 65
noncomputable abbrev P9:Stmt:=top 66
noncomputable abbrev R7:Stmt:=top 67
noncomputable abbrev bE:Stmt:=top 68
noncomputable abbrev cR:Stmt:=top 69
noncomputable abbrev l9:Stmt:=top 70
noncomputable abbrev x6:Stmt:=top 71
noncomputable abbrev lK:Stmt:=top 72
noncomputable abbrev lL:Stmt:=top 73
noncomputable abbrev U6:Stmt:=top 74
noncomputable abbrev s_law:Stmt:=top 75
noncomputable def visB (S:Scope) (x:Str):Bool:=decide (S.names.lookup x=some .local) || decide (S.names.lookup x=some .cell) || decide (S.names.lookup x=some .free)
theorem qvd{pos:Pos}{S:Scope}{x:Str}(hN:X.N=N)(hs:X.env.scope=S)(h:(decide (N[n]?=some x)&&visB S x && !(x=='o') && !(x==("__classdict__" : Str)))=true):QE X (.Name x pos) (tVar n):=by
 subst hN hs;simp only [visB,e8,Bool.or_eq_true,decide_eq_true_eq,nA] at h;exact qe_v h.1.1.1 (h.1.1.2.elim (fun z=>z.elim .inl fun z=>.inr (.inl z)) fun z=>.inr (.inr z)) h.1.2 h.2
theorem len1{α:Type}{F:List α->Prop}(h:∀ a,F [a]):∀ us:List α,us.length=1->F us
 | [a],_=>h a
theorem len2{α:Type}{F:List α->Prop}(h:∀ a b,F [a,b]):∀ us:List α,us.length=2->F us
 | [a,b],_=>h a b
theorem len3{α:Type}{F:List α->Prop}(h:∀ a b c,F [a,b,c]):∀ us:List α,us.length=3->F us
 | [a,b,c],_=>h a b c
theorem len4{α:Type}{F:List α->Prop}(h:∀ a b c d,F [a,b,c,d]):∀ us:List α,us.length=4->F us
 | [a,b,c,d],_=>h a b c d
theorem len5{α:Type}{F:List α->Prop}(h:∀ a b c d e,F [a,b,c,d,e]):∀ us:List α,us.length=5->F us
 | [a,b,c,d,e],_=>h a b c d e
theorem E6{Q:List Str}{sc:Scope}(h1:sc.kind=.function:=by rfl)(h2:sc.isCoroutine=false:=by rfl)(h3:sc.isGenerator=false:=by rfl)(h4:N.Nodup:=by decide +kernel)(h5:N.take Q.length=Q:=by rfl)(h6:∀ x∈Q,sc.names.lookup x=some .local\/sc.names.lookup x=some .cell:=by decide +kernel)(h7:∀ y∈sc.names,y.2≠.free:=by decide +kernel):FnScope N Q sc:=⟨h1,h2,h3,h4,h5,h6,h7⟩
theorem V5{kn:List (Str×NameKind)}{sc:Scope}(h1:sc.kind=.function:=by rfl)(h2:∀ x∈sc.names,x.2≠.cell:=by decide +kernel)(h3:∀ x∈sc.names,x.2=.local->sc.names.lookup x.1=some .local:=by decide +kernel)(h4:∀ x∈sc.names,x.2=.free->kn.lookup x.1=some .cell\/kn.lookup x.1=some .free:=by decide +kernel)(h5:∀ x∈sc.names,x.2=.free->sc.names.lookup x.1=some .free:=by decide +kernel)(h6:N'.length=k+ixs.length:=by rfl)(h7:ixs.map (fun i=>N[i]?)=(N'.drop k).map some:=by decide +kernel)(h8:∀ x∈N'.drop k,(x,NameKind.free)∈sc.names:=by decide +kernel):CompOk N kn sc N' k ixs:=⟨h1,h2,h3,h4,h5,h6,h7,h8⟩
theorem hm(r:Room k A)(h:j<=k:=by decide):Room j A:=r.mono h
structure DF(K:PySem.W.Frag)(n:Str)(s:Stmt):Prop where
 ex:∃ (f:Addr) (oc:Value) (od:Option Addr) (kV dc pm:Value) (an:Option Addr) (cd ct:Value) (sl:Array (Option Value)),O9 K mainGlobals n=some (some (.ref f))/\K.lookup f=some ⟨oc,od,.func (U5 n n (W4 s) (V1 s) (C1 s) .none kV dc pm an cd ct),sl⟩/\X7 K cd n=true/\W3 K (.ref f)=true
theorem df_mk{n:Str}{s:Stmt}{kV dc:Value}{sl:Array (Option Value)}(a:O9 K mainGlobals n=some (some (.ref f)))(l:K.lookup f=some ⟨oc,od,.func (U5 n n (W4 s) (V1 s) (C1 s) .none kV dc pm an cd ct),sl⟩)(c:X7 K cd n=true)(k:W3 K (.ref f)=true):DF K n s:=⟨f,oc,od,kV,dc,pm,an,cd,ct,sl,a,l,c,k⟩
theorem DF.go{P:Program}{w:World}{base:Heap}{n:Str}{s:Stmt}(d:DF K n s)(X:K.In h)(G:h.Ns mainGlobals mg)(_:K.In base)(ok:∀ {f fd},FunD K n n s f fd->FnOk P w K mg base E2 k f fd ps sp)(hl:∀ (kV dc pm:Value) (an:Option Addr) (cd ct:Value) (us:List Value),us.length=ps.length->bindArgs (U5 n n (W4 s) (V1 s) (C1 s) .none kV dc pm an cd ct) ⟨us,[]⟩=pure (ps.zip us):=by first | exact fun _ _ _ _ _ _=>len1 fun _=>rfl | exact fun _ _ _ _ _ _=>len2 fun _ _=>rfl | exact fun _ _ _ _ _ _=>len3 fun _ _ _=>rfl | exact fun _ _ _ _ _ _=>len4 fun _ _ _ _=>rfl | exact fun _ _ _ _ _ _=>len5 fun _ _ _ _ _=>rfl):FO P w K mg base k n ps [] sp:=by
 obtain ⟨f,oc,od,kV,dc,pm,an,cd,ct,sl,a,l,c,kp⟩:=d.ex;exact ⟨_,_,ok (w6 (st:=s) l c),V0 X G a,kp,[],.all (hl kV dc pm an cd ct),.nil⟩
structure Txt(P:Program)(w:World)(K:PySem.W.Frag)(mg:Str->Option Value)(C:Addr):Prop where
 cl:Cls K C
 na_figures:NoAttr K C "figures"
 na_behind:NoAttr K C "behind"
 na_jobs:NoAttr K C "jobs"
 na_letter_line:NoAttr K C "letter_line"
 na_mark_line:NoAttr K C "mark_line"
 na_made:NoAttr K C "made"
 b_any:mg "any"=none
 b_bool:mg "bool"=none
 b_dict:mg "dict"=none
 b_enumerate:mg "enumerate"=none
 b_int:mg "int"=none
 b_isinstance:mg "isinstance"=none
 b_len:mg "len"=none
 b_list:mg "list"=none
 b_min:mg "min"=none
 b_range:mg "range"=none
 b_reversed:mg "reversed"=none
 b_tuple:mg "tuple"=none
 b_zip:mg "zip"=none
 g_MARK:∃ t,mg "MARK"=some (.int 0 t)
 g_LETTER:∃ t,mg "LETTER"=some (.int 2 t)
 g_FIGURES:∃ t,mg "FIGURES"=some (.int 1 t)
 x_JOBS:∃ a,mg "JOBS"=some (.ref a)/\ModD P w K a [((Sum.inr ("row" : Str):B5),V.str "letter"),((Sum.inr ("marks" : Str):B5),V.str "mark"),((Sum.inr 'i':B5),V.str "great"),((Sum.inr ("as" : Str):B5),V.str "as"),((Sum.inr ("over" : Str):B5),V.str "over")]
 x_AGAIN:∃ a,mg "AGAIN"=some (.ref a)/\∀ H:Hp,A8 K H a [V.str "letter",V.str "mark",V.str "over"]
 x_START:∃ a,mg "START"=some (.ref a)/\∀ H:Hp,A8 K H a [V.int 0,V.int 0,V.int 0,V.int 0]
theorem ail{α:Type} : ∀ {l:List (Str×α)} {p:Str} {j:α},(l.map (·.1)).Nodup->(p,j)∈l->l.lookup p=some j
 | [],_,_,_,h=>by cases h
 | (y,t)::l,p,j,nd,h=>by
  rw [F6,W0] at nd;rw [List.lookup_cons]
  rcases L4.mp h with h | h
  .obtain ⟨rfl,rfl⟩:=Prod.mk.inj h
   simp
  .have:p≠y:=fun e=>nd.1 (C6.mpr ⟨_,h,e⟩)
   have e:(p==y)=false:=by simpa using this
   rw [e];exact ail nd.2 h
theorem ao1(ls:List Str)(R:List Rl):C7 ((("row" : Str),ls)::R)=(ls.map fun p=>(p,("letter" : Str)))++C7 R:=by
 rw [oA,aY.2.2 'f'];rfl
theorem akP(ls:List Str)(R:List Rl):C7 ((("marks" : Str),ls)::R)=(ls.map fun p=>(p,("mark" : Str)))++C7 R:=by
 rw [oA,aY.2.2 (.inr 'f')];rfl
theorem SG_nd:SG.Nodup:=by decide +kernel
theorem wI:SG.length=93:=by decide +kernel
theorem rw_ne{w u:Str}(n:u≠w):rowsW ((u,zs)::R) w=rowsW R w:=by
 unfold rowsW;rw [jR (by simpa using n)]
theorem rw_eq{w:Str} : rowsW ((w,zs)::R) w=zs::rowsW R w:=by
 unfold rowsW;rw [jQ 'd'];rfl
theorem xV{d:Value}(h:(us++[d]).length=4):∃ u1 u2 u3,us=[u1,u2,u3]:=by
 match us,h with
 | [a,b,c],_=>exact ⟨a,b,c,rfl⟩
 | [],h=>simp at h
 | [_],h=>simp at h
 | [_,_],h=>simp at h
 | _::_::_::_::r,h=>simp at h
theorem xW(h:(us++[]).length=4):∃ u1 u2 u3 u4,us=[u1,u2,u3,u4]:=by
 match us,h with
 | [a,b,c,d],_=>exact ⟨a,b,c,d,rfl⟩
 | [],h=>simp at h
 | [_],h=>simp at h
 | [_,_],h=>simp at h
 | [_,_,_],h=>simp at h
 | _::_::_::_::_::r,h=>simp at h
inductive LvD where
 | tt (xs:List (List Int))
 | ii (xs:List Int)
 | ss (z:Str)
deriving DecidableEq
noncomputable def LvD.kind:LvD->Nat
 | .tt _=>0
 | .ii _=>1
 | .ss _=>2
noncomputable def LvD.lt:LvD->LvD->Bool
 | .tt xs,.tt ys=>decide (xs<ys)
 | .ii xs,.ii ys=>decide (xs<ys)
 | .ss x,.ss y=>decide (x.cps.toList<y.cps.toList)
 | _,_=>false
noncomputable def LvAt (H:Hp) (v:V):LvD->Prop
 | .tt xs=>∃ (a:Addr) (as:List Addr),v=.ref a/\H a=some (.lst (as.map V.ref))/\Paired (fun c (x:List Int)=>H c=some (.tup (x.map V.int))) as xs
 | .ii xs=>∃ a:Addr,v=.ref a/\H a=some (.lst (xs.map V.int))
 | .ss z=>v=.str z
theorem LvAt.same{d:LvD}(h:LvAt H v d)(S:Same H H'):LvAt H' v d:=by
 cases d with
 | tt xs=>obtain ⟨a,as,e,h1,h2⟩:=h;exact ⟨a,as,e,S _ _ h1,N9 h2 fun _ _ e=>S _ _ e⟩
 | ii xs=>obtain ⟨a,e,h1⟩:=h;exact ⟨a,e,S _ _ h1⟩
 | ss z=>exact h
theorem xX : ∀ {as:List Addr} {xs:List (List Int)},Paired (fun c (x:List Int)=>H c=some (.tup (x.map V.int))) as xs->DnAll K H (as.map V.ref) (xs.map fun x=>PyData.tuple (x.map cD))
 | _,_,.nil=>.nil
 | _,_,.cons h t=>.cons (.tup (.of h) kL) (xX t)
theorem aim:∀ xs ys:List (List Int),Z2 (xs.map fun x=>PyData.tuple (x.map cD)) (ys.map fun x=>PyData.tuple (x.map cD))=decide (xs=ys)
 | [],[]=>by simp [Z2]
 | [],_::_=>by simp [Z2]
 | _::_,[]=>by simp [Z2]
 | x::xs,y::ys=>by
  rw [F6,F6,Z2,X9,rC,aim xs ys,gN]
  simp
theorem ain:∀ xs:List (List Int),cC (xs.map fun x=>PyData.tuple (x.map cD))<=1
 | []=>F7 _
 | x::xs=>by
  rw [F6,cC,eO,rG]
  have:=ain xs
  lia
theorem LvAt.ne{d d':LvD}(h:LvAt H v d)(h':LvAt H v' d')(hk:d.kind=d'.kind)(q:Q (.bl (!decide (d=d'))) H):rNeU K v v' H Q:=by
 cases d with
 | tt xs=>cases d' with
  | tt ys=>
   obtain ⟨a,as,rfl,h1,h2⟩:=h;obtain ⟨b,bs,rfl,h3,h4⟩:=h';refine ⟨_,_,.lst (.of h1) (xX h2),.lst (.of h3) (xX h4),?_,?_⟩
   .have:=ain xs
    rw [eO];lia
   .rw [X9,aim,show decide (xs=ys)=decide (LvD.tt xs=LvD.tt ys) by simp];exact q
  | _=>cases hk
 | ii xs=>cases d' with
  | ii ys=>
   obtain ⟨a,rfl,h1⟩:=h;obtain ⟨b,rfl,h3⟩:=h';refine ⟨_,_,.lst (.of h1) kL,.lst (.of h3) kL,by rw [eO,rG];lia,?_⟩;rw [X9,rC,show decide (xs=ys)=decide (LvD.ii xs=LvD.ii ys) by simp];exact q
  | _=>cases hk
 | ss x=>cases d' with
  | ss y=>
   cases h;cases h';show Q (.bl (!decide (x=y))) H;rw [show decide (x=y)=decide (LvD.ss x=LvD.ss y) by simp];exact q
  | _=>cases hk
theorem LvAt.lt{d d':LvD}(h:LvAt H v d)(h':LvAt H v' d')(hk:d.kind=d'.kind)(q:Q (.bl (d.lt d')) H):rLtK K v v' H Q:=by
 cases d with
 | tt xs=>cases d' with
  | tt ys=>
   obtain ⟨a,as,rfl,h1,h2⟩:=h;obtain ⟨b,bs,rfl,h3,h4⟩:=h';exact .inr (.inr ⟨as,bs,xs,ys,.of h1,.of h3,N9 h2 fun _ _ e=>.of e,N9 h4 fun _ _ e=>.of e,q⟩)
  | _=>cases hk
 | ii xs=>cases d' with
  | ii ys=>
   obtain ⟨a,rfl,h1⟩:=h;obtain ⟨b,rfl,h3⟩:=h';exact .inl ⟨xs,ys,.of h1,.of h3,q⟩
  | _=>cases hk
 | ss x=>cases d' with
  | ss y=>cases h;cases h';exact q
  | _=>cases hk
theorem aed : ∀ {es:List (Addr×Addr)} {U:List J7},Paired (fun e (u:J7)=>H1 e.1=some (.tup [.int u.1,.int u.2.1,.ref e.2,.int u.2.2.2])/\H1 e.2=some (.tup (u.2.2.1.map V.int))) es U->Paired (fun c (x:List Int)=>H1 c=some (.tup (x.map V.int))) (es.map (·.2)) (U.map fun u=>u.2.2.1)
 | _,_,.nil=>.nil
 | _,_,.cons h t=>.cons h.2 (aed t)
noncomputable def g6 (b:Bool) (U:List J7) (z:Str):List LvD:=[.tt (U.map fun u=>[u.1,u.2.1]),.tt ((if b=true then U.reverse else U).map fun u=>u.2.2.1),.ii (U.map fun u=>u.2.2.2),.ss z]
noncomputable def IsLooks (H:Hp) (l:Addr) (ds:List LvD):Prop:=∃ vs:List V,H l=some (.lst vs)/\Paired (LvAt H) vs ds
theorem IsLooks.same{l:Addr}{ds:List LvD}(h:IsLooks H l ds)(S:Same H H'):IsLooks H' l ds:=
 let ⟨vs,h1,h2⟩:=h
 ⟨vs,S _ _ h1,N9 h2 fun _ _ e=>e.same S⟩
noncomputable def cmpD (d d':LvD):Int:=if d=d' then 0 else if d.lt d'=true then -1 else 1
noncomputable def cmpF (n:Nat) (ds ds':List LvD):Int:=(((Z1 cmpD ds ds').take n).find? fun v=>v≠0).getD 0
noncomputable def akQ (C:Addr):Sp:=fun vs H Q _=>∃ (x j ll ml md:Addr) (z:Str) (g:Str->Str) (R:List Rl) (L M:List Str),vs=[.ref x,.str z]/\IsOrd C H x j ll ml md g R L M/\(G4 R).length<=1000/\z.length<=500/\aZ (hasW R "figures") (G4 R) z/\(∀ y,(stepY R L M y).length<=15)/\
 ∀ l H',H l=none->Same H H'->IsLooks H' l (g6 'e' (Q7 (stepY R L M) (cutF (hasW R "figures") (G4 R) z.cps.toList).2) z)->Q (.ref l) H'
noncomputable def g7 (R:List Rl) (L M:List Str) (z:Str):List LvD:=g6 'e' (Q7 (stepY R L M) (cutF (hasW R "figures") (G4 R) z.cps.toList).2) z
noncomputable def sF (C:Addr):Sp:=fun vs H Q _=>∃ (x j ll ml md:Addr) (z z':Str) (n:Nat) (g:Str->Str) (R:List Rl) (L M:List Str),vs=[.ref x,.str z,.str z',.int n]/\n<=4/\IsOrd C H x j ll ml md g R L M/\(G4 R).length<=1000/\z.length<=500/\z'.length<=500/\aZ (hasW R "figures") (G4 R) z/\aZ (hasW R "figures") (G4 R) z'/\(∀ y,(stepY R L M y).length<=15)/\
 ∀ H',Same H H'->Q (.int (cmpF n (g7 R L M z) (g7 R L M z'))) H'
theorem aho(b b':Bool)(U U':List J7)(z z':Str)(i:Nat)(d d':LvD)(h:(g6 b U z)[i]?=some d)(h':(g6 b' U' z')[i]?=some d'):d.kind=d'.kind:=by
 match i with
 | 0=>cases h;cases h';rfl
 | 1=>cases h;cases h';rfl
 | 2=>cases h;cases h';rfl
 | 3=>cases h;cases h';rfl
 | i+4=>simp [g6] at h
theorem amG{ds ds':List LvD}{d d':LvD}(hi:i<n)(h:ds[i]?=some d)(h':ds'[i]?=some d')(bP:∀ k<i,ds[k]?=ds'[k]?)(G9:d≠d'):cmpF n ds ds'=cmpD d d':=by
 have hz:(Z1 cmpD ds ds')[i]?=some (cmpD d d'):=by rw [List.getElem?_zipWith,h,h']
 have hc:cmpD d d'≠0:=by
  unfold cmpD;rw [if_neg G9]
  split <;> decide
 have h0:∀ v∈(Z1 cmpD ds ds').take i,v=0:=by
  intro v hv;obtain ⟨k,hk,e⟩:=jP.mp hv;have hk1:k<i:=by lia
  have e2:(Z1 cmpD ds ds')[k]?=some v:=by rw [L1 'a',e]
  rw [List.getElem?_zipWith,bP k hk1] at e2
  cases q:ds'[k]? with
  | none=>rw [q] at e2;cases e2
  | some x=>
   rw [q] at e2
   have:cmpD x x=v:=by simpa using e2
   rw [<- this];exact if_pos rfl
 unfold cmpF;have e3:(Z1 cmpD ds ds').take n=(Z1 cmpD ds ds').take i++(cmpD d d'::((Z1 cmpD ds ds').take n).drop (i+1)):=by
  have hl:i<((Z1 cmpD ds ds').take n).length:=by
   have:=(E5.mp hz).1
   rw [G7];lia
  have e4:=j4 i ((Z1 cmpD ds ds').take n);rw [List.take_take,eM (Nat.le_of_lt hi)] at e4
  conv=>lhs;rw [<- e4]
  rw [bX hl]
  have:((Z1 cmpD ds ds').take n)[i]=cmpD d d':=by
   rw [List.getElem_take];exact (E5.mp hz).2
  rw [this]
 rw [e3,List.find?_append,aI.mpr (fun v hv=>by simp [h0 v hv])];simp [hc]
theorem akR{ds ds':List LvD}(bP:∀ k<n,ds[k]?=ds'[k]?):cmpF n ds ds'=0:=by
 unfold cmpF
 have:((Z1 cmpD ds ds').take n).find? (fun v=>v≠0)=none:=aI.mpr fun v hv=>by
  obtain ⟨k,hk,e⟩:=jP.mp hv;have e2:(Z1 cmpD ds ds')[k]?=some v:=by rw [L1 'a',e]
  rw [List.getElem?_zipWith,bP k 'a'] at e2
  cases q:ds'[k]? with
  | none=>rw [q] at e2;cases e2
  | some x=>
   rw [q] at e2
   have:cmpD x x=v:=by simpa using e2
   rw [<- this];simp [cmpD]
 rw [this];rfl
theorem ao2(h:(us++[]).length=5):∃ u1 u2 u3 u4 u5,us=[u1,u2,u3,u4,u5]:=by
 match us,h with
 | [a,b,c,d,e],_=>exact ⟨a,b,c,d,e,rfl⟩
 | [],h=>simp at h
 | [_],h=>simp at h
 | [_,_],h=>simp at h
 | [_,_,_],h=>simp at h
 | [_,_,_,_],h=>simp at h
 | _::_::_::_::_::_::r,h=>simp at h
theorem amH{d:Value}(h:(us++[d]).length=5):∃ u1 u2 u3 u4,us=[u1,u2,u3,u4]:=by
 match us,h with
 | [a,b,c,d],_=>exact ⟨a,b,c,d,rfl⟩
 | [],h=>simp at h
 | [_],h=>simp at h
 | [_,_],h=>simp at h
 | [_,_,_],h=>simp at h
 | _::_::_::_::_::r,h=>simp at h
noncomputable abbrev Rm:=Int×Int×Int×Int
noncomputable def P1 (r:Rm):List V:=[.int r.1,.int r.2.1,.int r.2.2.1,.int r.2.2.2]
noncomputable def L5 (r:Rm):List B5:=[.inl r.1,.inl r.2.1,.inl r.2.2.1,.inl r.2.2.2]
theorem xY{r s:Rm}(h:L5 r=L5 s):r=s:=by
 obtain ⟨a,b,c,d⟩:=r;obtain ⟨a',b',c',d'⟩:=s;simp only [L5,List.cons.injEq,Sum.inl.injEq,and_true] at h;obtain ⟨rfl,rfl,rfl,rfl⟩:=h;rfl
theorem g8(e:Same H H')(h:A8 K H a xs):A8 K H' a xs:=by
 rcases h with (h | ⟨o,h⟩) | h
 .exact .inl (.inl (e _ _ h))
 .exact .inl (.inr ⟨o,e _ _ h⟩)
 .exact .inr h
structure OrdC(C:Addr)(H:Hp)(x:Addr)(R:List Rl)(L M:List Str):Prop where
 ex:∃ j ll ml md,IsOrd C H x j ll ml md (oE R) R L M
 kn:(G4 R).length<=1000
 st:∀ y,(stepY R L M y).length<=15
theorem OrdC.same{x:Addr}(h:OrdC C H x R L M)(S:Same H H'):OrdC C H' x R L M:=
 let ⟨j,ll,ml,md,o⟩:=h.ex
 ⟨⟨j,ll,ml,md,o.same S⟩,h.kn,h.st⟩
noncomputable def t8 (R:List Rl) (z:Str):Prop:=z.length<=500/\aZ (hasW R "figures") (G4 R) z
noncomputable def difF (n:Nat) (f:Nat->Int):Int×Int:=match (U9 n).find? fun i=>f (i+1)≠0 with
 | some i=>(((i+1:Nat):Int),f (i+1))
 | none=>(0,0)
noncomputable def difR (R:List Rl) (L M:List Str) (n:Nat) (z z':Str):Int×Int:=difF n fun l=>cmpF l (g7 R L M z) (g7 R L M z')
theorem xZ{f:Nat->Int}(hi:i<n)(h0:∀ k<i,f (k+1)=0)(h:f (i+1)≠0):difF n f=(((i+1:Nat):Int),f (i+1)):=by
 have e:(U9 n).find? (fun i=>f (i+1)≠0)=some i:=by
  rw [List.find?_eq_some_iff_append];refine ⟨by simpa using h,U9 i,List.range' (i+1) (n-(i+1)),?_,fun a ha=>by simpa using h0 a (j6.mp ha)⟩;have e1:i::List.range' (i+1) (n-(i+1))=List.range' i (n-i):=by rw [show n-i=(n-(i+1))+1 by lia,List.range'_succ]
  rw [e1,List.range_eq_range',List.range_eq_range',show List.range' i (n-i)=List.range' (0+i) (n-i) by rw [Nat.zero_add],List.range'_append_1,show i+(n-i)=n by lia]
 unfold difF;rw [e]
theorem yA{f:Nat->Int}(h0:∀ k<n,f (k+1)=0):difF n f=(0,0):=by
 have e:(U9 n).find? (fun i=>f (i+1)≠0)=none:=aI.mpr fun a ha=>by simpa using h0 a (j6.mp ha)
 unfold difF;rw [e]
noncomputable def spDif (C:Addr):Sp:=fun vs H Q _=>∃ (x:Addr) (z z':Str) (n:Nat) (R:List Rl) (L M:List Str),vs=[.ref x,.str z,.str z',.int n]/\n<=4/\OrdC C H x R L M/\t8 R z/\t8 R z'/\
 ∀ t H',H t=none->Same H H'->H' t=some (.tup [.int (difR R L M n z z').1,.int (difR R L M n z z').2])->Q (.ref t) H'
noncomputable def join4 (p q:Int×Int):Rm:=(p.1,p.2,q.1,q.2)
noncomputable def sG (C:Addr):Sp:=fun vs H Q _=>∃ (x y:Addr) (z z':Str) (n:Nat) (R R':List Rl) (L M L' M':List Str),vs=[.ref x,.ref y,.str z,.str z',.int n]/\n<=4/\OrdC C H x R L M/\OrdC C H y R' L' M'/\t8 R z/\t8 R z'/\t8 R' z/\t8 R' z'/\
 ∀ t H',H t=none->Same H H'->H' t=some (.tup (P1 (join4 (difR R L M n z z') (difR R' L' M' n z z'))))->Q (.ref t) H'
noncomputable def Z5 (b:Bool) (s a:Int×Int):Int×Int:=if a.1=0 then s else if s.1=0\/a.1<s.1 then a else if s.1=a.1/\a.1=2/\b=true then a else s
noncomputable def J8 (s:Int×Int):List V:=[.int s.1,.int s.2]
noncomputable def aip (K:PySem.W.Frag) (C:Addr):Sp:=fun vs H Q _=>∃ (x p q:Addr) (s a:Int×Int) (R:List Rl) (L M:List Str),vs=[.ref x,.ref p,.ref q]/\OrdC C H x R L M/\A8 K H p (J8 s)/\A8 K H q (J8 a)/\
 ∀ t,A8 K H t (J8 (Z5 'e' s a))->Q (.ref t) H
noncomputable def M9 (b b':Bool) (r d:Rm):Rm:=join4 (Z5 b (r.1,r.2.1) (d.1,d.2.1)) (Z5 b' (r.2.2.1,r.2.2.2) (d.2.2.1,d.2.2.2))
noncomputable def anj (K:PySem.W.Frag) (C:Addr):Sp:=fun vs H Q _=>∃ (x y p q:Addr) (r d:Rm) (R R':List Rl) (L M L' M':List Str),vs=[.ref x,.ref y,.ref p,.ref q]/\OrdC C H x R L M/\OrdC C H y R' L' M'/\A8 K H p (P1 r)/\A8 K H q (P1 d)/\
 ∀ t H',H t=none->Same H H'->H' t=some (.tup (P1 (M9 'e' 'g' r d)))->Q (.ref t) H'
noncomputable def Z6 (r:Rm):Bool:=!decide (r.2.1=r.2.2.2)
noncomputable def m3 (r:Rm):Bool:=!decide (decide (r.1=1)=decide (r.2.2.1=1))
noncomputable def spOt (K:PySem.W.Frag) (f:Rm->Bool):Sp:=fun vs H Q _=>∃ (p:Addr) (r:Rm),vs=[.ref p]/\A8 K H p (P1 r)/\Q (.bl (f r)) H
noncomputable def letN (ss:List Tr):Nat:=(ss.filter fun s=>s.1=2).length
noncomputable def fK (R:List Rl) (L M:List Str) (z:Str):Bool:=decide (letN (stepF R L M z)=1)
noncomputable def ank (C:Addr):Sp:=fun vs H Q _=>∃ (x:Addr) (z:Str) (R:List Rl) (L M:List Str),vs=[.ref x,.str z]/\OrdC C H x R L M/\(stepF R L M z).length<=15/\∀ H',Same H H'->Q (.bl (fK R L M z)) H'
noncomputable abbrev Mv:=Str×Str×Rm
noncomputable def IsMv (H:Hp) (l:Addr) (ms:List Mv):Prop:=∃ as:List Addr,H l=some (.lst (as.map V.ref))/\Paired (fun a (m:Mv)=>∃ d,H a=some (.tup [.str m.1,.str m.2.1,.ref d])/\H d=some (.tup (P1 m.2.2))) as ms
theorem IsMv.same{l:Addr}{ms:List Mv}(h:IsMv H l ms)(S:Same H H'):IsMv H' l ms:=
 let ⟨as,h1,h2⟩:=h
 ⟨as,S _ _ h1,N9 h2 fun _ _ ⟨d,e1,e2⟩=>⟨d,S _ _ e1,S _ _ e2⟩⟩
theorem IsMv.put{t d:Addr}{as:List Addr}{ms:List Mv}{m:Mv}(h1:H t=some (.lst (as.map V.ref)))(h2:Paired (fun a (m:Mv)=>∃ d,H a=some (.tup [.str m.1,.str m.2.1,.ref d])/\H d=some (.tup (P1 m.2.2))) as ms)(ha:H a=some (.tup [.str m.1,.str m.2.1,.ref d]))(hd:H d=some (.tup (P1 m.2.2))) :
  IsMv (A0 H t (.lst (as.map V.ref++[V.ref a]))) t (ms++[m]):=by
 have ne:∀ {c xs},H c=some (.tup xs)->A0 H t (.lst (as.map V.ref++[V.ref a])) c=some (.tup xs):=fun {c xs} e=>by rw [A7 (ne_of e h1 (fun z=>by cases z))];exact e
 exact ⟨as++[a],by rw [A3,D0];rfl,Paired.snoc (N9 h2 fun _ _ ⟨d,e1,e2⟩=>⟨d,ne e1,ne e2⟩) ⟨d,ne ha,ne hd⟩⟩
noncomputable def mvsF (R:List Rl) (L M:List Str) (R':List Rl) (L' M':List Str) (n:Nat) (zs:List Str):List Mv:=zs.flatMap fun x=>zs.map fun y=>(x,y,join4 (difR R L M n x y) (difR R' L' M' n x y))
noncomputable def spMvs (C:Addr):Sp:=fun vs H Q _=>∃ (x y l:Addr) (zs:List Str) (n:Nat) (R R':List Rl) (L M L' M':List Str),vs=[.ref x,.ref y,.ref l,.int n]/\n<=4/\OrdC C H x R L M/\OrdC C H y R' L' M'/\H l=some (.lst (zs.map V.str))/\zs.length<=10/\(∀ z∈zs,t8 R z/\t8 R' z)/\
 ∀ t H',H t=none->Same H H'->IsMv H' t (mvsF R L M R' L' M' n zs)->Q (.ref t) H'
noncomputable def iC (z:Str) (r:Rm) (u v:Str):Str×Str:=if r.2.1<0 then (u++z,v) else (u,v++z)
noncomputable def cat2 (zs:List Str):List Str:=zs.flatMap fun a=>zs.map fun b=>a++b
noncomputable def chkF (R:List Rl) (L M:List Str) (R':List Rl) (L' M':List Str) (zs:List Str):Option Str:=(zs.find? fun z=>!fK R L M z || !fK R' L' M' z).or ((cat2 zs).find? fun t=>decide (t∈G4 R) || decide (t∈G4 R'))
noncomputable def spChk (C:Addr):Sp:=fun vs H Q _=>∃ (x y l:Addr) (zs:List Str) (R R':List Rl) (L M L' M':List Str),vs=[.ref x,.ref y,.ref l]/\OrdC C H x R L M/\OrdC C H y R' L' M'/\H l=some (.lst (zs.map V.str))/\(∀ z∈zs,z.length<=100/\(stepF R L M z).length<=15/\(stepF R' L' M' z).length<=15)/\chkF R L M R' L' M' zs=none/\∀ H',Same H H'->Q .non H'
inductive Rch (b b':Bool) (ms:List Mv):Rm->Str->Str->Prop
 | st:Rch b b' ms (0,0,0,0) "" ""
 | go {r:Rm} {u v:Str} {m:Mv} : Rch b b' ms r u v->m∈ms->m3 r=false->Z6 (M9 b b' r m.2.2)=false->Rch b b' ms (M9 b b' r m.2.2) (u++m.1) (v++m.2.1)
structure BE where
 r:Rm
 ra:Addr
 pa:Addr
 u:Str
 v:Str
structure Bst(P:Program)(w:World)(K:PySem.W.Frag)(H0 H:Hp)(d l:Addr)(es:List BE):Prop where
 same:Same H0 H
 ls:H l=some (.lst (es.map fun e=>V.ref e.ra))
 ds:H d=some (dX P w d (es.map fun e=>(L5 e.r,e.ra,V.ref e.pa)))
 rt:∀ e∈es,A8 K H e.ra (P1 e.r)
 pt:∀ e∈es,H e.pa=some (.tup [.str e.u,.str e.v])
theorem Bst.keys{P:Program}{w:World}{d l:Addr}{es:List BE}(B:Bst P w K H0 H d l es):KeysX K H (es.map fun e=>(L5 e.r,e.ra,V.ref e.pa)):=fun p hp=>by
 obtain ⟨e,he,rfl⟩:=C6.mp hp;exact B.rt e he
theorem Bst.more{P:Program}{w:World}{d l:Addr}{es:List BE}(B:Bst P w K H0 H d l es)(S:Same H H'):Bst P w K H0 H' d l es:=
 ⟨B.same.trans S,S _ _ B.ls,S _ _ B.ds,fun e he=>g8 S (B.rt e he),fun e he=>S _ _ (B.pt e he)⟩
theorem akS{o o':HO}(h:A8 K H a xs)(hb:H b=some o)(hn:∀ xs,o≠.tup xs)(hf:∀ q u,o≠.frz q u):A8 K (A0 H b o') a xs:=by
 rcases h with (h | ⟨q,h⟩) | h
 .exact .inl (.inl (by rw [A7 (ne_of h hb (hn _).symm)];exact h))
 .exact .inl (.inr ⟨q,by rw [A7 (ne_of h hb (hf _ _).symm)];exact h⟩)
 .exact .inr h
theorem Bst.put{P:Program}{w:World}{d l t:Addr}{es:List BE}{r:Rm}{u v:Str}(B:Bst P w K H0 H d l es)(nd:H0 d=none)(nl:H0 l=none)(ht:A8 K H t (P1 r))(hp:H p=some (.tup [.str u,.str v])) :
  Bst P w K H0 (A0 (A0 H d (dX P w d (es.map (fun e=>(L5 e.r,e.ra,V.ref e.pa))++[(L5 r,t,V.ref p)]))) l (.lst (es.map (fun e=>V.ref e.ra)++[V.ref t]))) d l (es++[⟨r,t,p,u,v⟩]):=by
 have bQ:d≠l:=ne_of B.ds B.ls (fun e=>by cases e);have o0:A0 H d (dX P w d (es.map (fun e=>(L5 e.r,e.ra,V.ref e.pa))++[(L5 r,t,V.ref p)])) l=some (.lst (es.map fun e=>V.ref e.ra)):=by rw [A7 bQ.symm];exact B.ls
 have tu:∀ {c xs},H c=some (.tup xs)->A0 (A0 H d (dX P w d (es.map (fun e=>(L5 e.r,e.ra,V.ref e.pa))++[(L5 r,t,V.ref p)]))) l (.lst (es.map (fun e=>V.ref e.ra)++[V.ref t])) c=some (.tup xs):=fun {c xs} e=>by
  rw [A7 (ne_of e B.ls (fun z=>by cases z)),A7 (ne_of e B.ds (fun z=>by cases z))];exact e
 have sq:∀ {c xs},A8 K H c xs->A8 K (A0 (A0 H d (dX P w d (es.map (fun e=>(L5 e.r,e.ra,V.ref e.pa))++[(L5 r,t,V.ref p)]))) l (.lst (es.map (fun e=>V.ref e.ra)++[V.ref t]))) c xs:=fun {c xs} e=>
  akS (akS e B.ds (fun _ z=>by cases z) (fun _ _ z=>by cases z)) o0 (fun _ z=>by cases z) (fun _ _ z=>by cases z)
 refine ⟨(B.same.put nd).put nl,by rw [A3,D0];rfl,by rw [A7 bQ,A3,D0];rfl,fun e he=>?_,fun e he=>?_⟩
 .rcases G3.mp he with he | he
  .exact sq (B.rt e he)
  .rw [E7.mp he];exact sq ht
 .rcases G3.mp he with he | he
  .exact tu (B.pt e he)
  .rw [E7.mp he];exact tu hp
structure Bfs(b b':Bool)(ms:List Mv)(es:List BE)(n:Nat):Prop where
 nd:(es.map (·.r)).Nodup
 rc:∀ e∈es,Rch b b' ms e.r e.u e.v
 cl:∀ i<n,∀ e,es[i]?=some e->m3 e.r=false/\∀ m∈ms,Z6 (M9 b b' e.r m.2.2)=false/\M9 b b' e.r m.2.2∈es.map (·.r)
 ln:∀ (i:Nat) e,es[i]?=some e->e.u.length<=i/\e.v.length<=i
 st:∃ e,es[0]?=some e/\e.r=(0,0,0,0)
theorem look_es{es:List BE}{r:Rm} : lookX (es.map fun e=>(L5 e.r,e.ra,V.ref e.pa)) (L5 r)=none↔r∉es.map (·.r):=by
 unfold lookX;rw [Option.map_eq_none_iff,aI]
 constructor
 .intro h hm;obtain ⟨e,he,rfl⟩:=C6.mp hm;exact h _ (C6.mpr ⟨e,he,rfl⟩) 'd'
 .intro h p hp;obtain ⟨e,he,rfl⟩:=C6.mp hp;intro q;exact h (C6.mpr ⟨e,he,xY (of_decide_eq_true q)⟩)
theorem akT:∀ {es:List BE} {i:Nat} {e:BE},(es.map (·.r)).Nodup->es[i]?=some e->lookX (es.map fun e=>(L5 e.r,e.ra,V.ref e.pa)) (L5 e.r)=some (V.ref e.pa)
 | [],i,e,_,h=>by simp at h
 | a::es,0,e,_,h=>by
  cases h;simp [lookX]
 | a::es,i+1,e,nd,h=>by
  rw [F6,W0] at nd;have h1:es[i]?=some e:=by simpa using h
  have ne:¬ L5 a.r=L5 e.r:=fun q=>nd.1 (by rw [xY q];exact C6.mpr ⟨e,G6 h1,rfl⟩)
  have:=akT nd.2 h1
  unfold lookX at this ⊢
  rw [F6,List.find?_cons_of_neg (by simpa using ne)];exact this
noncomputable def cS (r:Rm):Prop:=r.1∈([0,1,2,3,4]:List Int)/\r.2.1∈([-1,0,1]:List Int)/\r.2.2.1∈([0,1,2,3,4]:List Int)/\r.2.2.2∈([-1,0,1]:List Int)
noncomputable def allR:List Rm:=[0,1,2,3,4].flatMap fun a=>[-1,0,1].flatMap fun b=>[0,1,2,3,4].flatMap fun c=>[-1,0,1].map fun d=>(a,b,c,d)
theorem ao3{r:Rm}(h:cS r):r∈allR:=by
 obtain ⟨a,b,c,d⟩:=r;exact U8.mpr ⟨a,h.1,U8.mpr ⟨b,h.2.1,U8.mpr ⟨c,h.2.2.1,C6.mpr ⟨d,h.2.2.2,rfl⟩⟩⟩⟩
theorem amI(n:Nat)(ds ds':List LvD):cmpF n ds ds'∈([-1,0,1]:List Int):=by
 unfold cmpF;cases h:((Z1 cmpD ds ds').take n).find? fun v=>v≠0 with
 | none=>simp
 | some v=>
  obtain ⟨i,hi,e⟩:=j5.mp (gI (List.mem_of_find?_eq_some h));rw [List.getElem_zipWith] at e;rw [<- e];show cmpD _ _∈_;unfold cmpD
  split
  .simp
  .split <;> simp
theorem sH(hn:n<=4):(difR R L M n z z').1∈([0,1,2,3,4]:List Int)/\(difR R L M n z z').2∈([-1,0,1]:List Int):=by
 unfold difR difF
 split
 .rename_i i h
  have hi:=j6.mp (List.mem_of_find?_eq_some h);refine ⟨?_,amI _ _ _⟩
  match i,hi with
  | 0,_=>simp
  | 1,_=>simp
  | 2,_=>simp
  | 3,_=>simp
  | i+4,h=>exact absurd h 'a'
 .simp
theorem anl(b:Bool)(s a:Int×Int):Z5 b s a=s\/Z5 b s a=a:=by
 unfold Z5
 split
 .exact .inl rfl
 .split
  .exact .inr rfl
  .split
   .exact .inr rfl
   .exact .inl rfl
theorem arS{b:Bool}{r d:Rm}(h:cS r)(h':cS d):cS (M9 b b' r d):=by
 obtain ⟨h1,h2,h3,h4⟩:=h;obtain ⟨k1,k2,k3,k4⟩:=h';unfold M9 join4
 rcases anl b (r.1,r.2.1) (d.1,d.2.1) with e | e <;> rcases anl b' (r.2.2.1,r.2.2.2) (d.2.2.1,d.2.2.2) with e' | e' <;> rw [e,e']
 .exact ⟨h1,h2,h3,h4⟩
 .exact ⟨h1,h2,k3,k4⟩
 .exact ⟨k1,k2,h3,h4⟩
 .exact ⟨k1,k2,k3,k4⟩
theorem anm(hn:n<=4){m:Mv}(h:m∈mvsF R L M R' L' M' n zs):cS m.2.2/\m.1∈zs/\m.2.1∈zs:=by
 obtain ⟨x,hx,h⟩:=U8.mp h;obtain ⟨y,hy,rfl⟩:=C6.mp h;exact ⟨⟨(sH hn).1,(sH hn).2,(sH hn).1,(sH hn).2⟩,hx,hy⟩
theorem Rch.ok{b:Bool}{ms:List Mv}{r:Rm}{u v:Str}(hm:∀ m∈ms,cS m.2.2)(h:Rch b b' ms r u v):cS r:=by
 induction h with
 | st=>exact ⟨by simp,by simp,by simp,by simp⟩
 | go _ h1 _ _ ih=>exact arS ih (hm _ h1)
theorem afp:∀ {l m:List Rm},l.Nodup->(∀ x∈l,x∈m)->l.length<=m.length
 | [],_,_,_=>F7 _
 | x::l,m,nd,h=>by
  obtain ⟨n1,n2⟩:=W0.mp nd;have hx:=h x N2
  have:=afp (l:=l) (m:=m.erase x) n2 fun y hy=>(List.mem_erase_of_ne (fun e=>n1 (by rw [<- e];exact hy))).mpr (h y (O7 _ hy))
  rw [qN hx] at this
  have:0<m.length:=qO hx
  rw [L3];lia
theorem Bfs.few{b:Bool}{ms:List Mv}{es:List BE}(B:Bfs b b' ms es n)(hm:∀ m∈ms,cS m.2.2):es.length<=225:=by
 have:=afp (m:=allR) B.nd fun r hr=>by
  obtain ⟨e,he,rfl⟩:=C6.mp hr;exact ao3 ((B.rc e he).ok hm)
 rw [A6] at this;exact this
theorem Rch.any{b:Bool}{ms:List Mv}{r:Rm}{u v:Str}(h:Rch b b' ms r u v)(hu:m3 r=true):∃ m,m∈ms:=by
 cases h with
 | st=>exact absurd hu 'h'
 | go _ h1 _ _=>exact ⟨_,h1⟩
theorem iD(x y:Str):(x++y).length=x.length+y.length:=Array.size_append
theorem Bfs.put{b:Bool}{ms:List Mv}{es:List BE}{e:BE}{m:Mv}{t:Addr}(B:Bfs b b' ms es i)(he:es[i]?=some e)(hm:m∈ms)(h1:m.1.length<=1)(h2:m.2.1.length<=1)(hu:m3 e.r=false)(ho:Z6 (M9 b b' e.r m.2.2)=false)(hn:M9 b b' e.r m.2.2∉es.map (·.r)) :
  Bfs b b' ms (es++[⟨M9 b b' e.r m.2.2,t,p,e.u++m.1,e.v++m.2.1⟩]) i:=by
 have hi:i<es.length:=(E5.mp he).1;refine ⟨?_,fun a ha=>?_,fun k hk a ha=>?_,fun k a ha=>?_,?_⟩
 .rw [D0];exact Y9.mpr ⟨B.nd,by simp,fun x hx y hy q=>hn (by rw [List.map_singleton,E7] at hy;have e2:M9 b b' e.r m.2.2=x:=hy.symm.trans q.symm;rw [e2];exact hx)⟩
 .rcases G3.mp ha with ha | ha
  .exact B.rc a ha
  .rw [E7.mp ha];exact (B.rc e (G6 he)).go hm hu ho
 .rw [eD 'a'] at ha;obtain ⟨c1,c2⟩:=B.cl k hk a ha;exact ⟨c1,fun m hm=>⟨(c2 m hm).1,by rw [D0];exact Q3 _ (c2 m hm).2⟩⟩
 .by_cases hk:k<es.length
  .rw [eD hk] at ha;exact B.ln k a ha
  .have jD:k=es.length:=by
    have:=(E5.mp ha).1
    rw [D9,Y8] at this;lia
   rw [jD,gG (C3 _),Nat.sub_self] at ha;cases ha
   have:=B.ln i e he
   simp only [iD];lia
 .obtain ⟨a,h1,h2⟩:=B.st;exact ⟨a,by rw [eD 'a'];exact h1,h2⟩
theorem Bfs.next{b:Bool}{ms:List Mv}{es:List BE}{e:BE}(B:Bfs b b' ms es i)(he:es[i]?=some e)(hu:m3 e.r=false)(h:∀ m∈ms,Z6 (M9 b b' e.r m.2.2)=false/\M9 b b' e.r m.2.2∈es.map (·.r)):Bfs b b' ms es (i+1):=
 ⟨B.nd,B.rc,fun k hk a ha=>by
  by_cases jE:k=i
  .rw [jE,he] at ha;cases ha;exact ⟨hu,h⟩
  .exact B.cl k 'a' a ha,B.ln,B.st⟩
structure BwI(P:Program)(w:World)(K:PySem.W.Frag)(H2:Hp)(x y l:Addr)(n:Nat)(mv d rl:Addr)(b b':Bool)(ms:List Mv)(i:Nat)(Y:L2.St)(H:Hp):Prop where
 ex:∃ (es:List BE) (u1 u2 u3 u4 u5 u6:Option V),Y=[some (.ref x),some (.ref y),some (.ref l),some (.int n),some (.ref mv),some (.ref d),some (.ref rl),some (.int i),u1,u2,u3,u4,u5,u6]/\Bst P w K H2 H d rl es/\Bfs b b' ms es i/\i<=es.length
noncomputable def yB (b b':Bool) (ms:List Mv) (zs:List Str) (u v:Str):Prop:=
 (∃ r u0 v0,∃ m∈ms,Rch b b' ms r u0 v0/\m3 r=false/\Z6 (M9 b b' r m.2.2)=true/\u=u0++m.1/\v=v0++m.2.1)\/
 ∃ r u0 v0 z,Rch b b' ms r u0 v0/\m3 r=true/\zs.head?=some z/\(u,v)=iC z r u0 v0
noncomputable def BesR (K:PySem.W.Frag) (b b':Bool) (ms:List Mv) (zs:List Str) (Hb H:Hp) (t:Addr):Prop:=
 (∃ p u v,H t=some (.tup [.ref p,.non])/\H p=some (.tup [.str u,.str v])/\u.length<=400/\v.length<=400/\yB b b' ms zs u v)\/
 ∃ l es,H t=some (.tup [.non,.ref l])/\H l=some (.lst (es.map fun e=>V.ref e.ra))/\(∀ e∈es,A8 K H e.ra (P1 e.r))/\Bfs b b' ms es es.length/\Hb l=none
noncomputable def spBes (K:PySem.W.Frag) (C:Addr):Sp:=fun vs H Q _=>∃ (x y l:Addr) (zs:List Str) (n:Nat) (R R':List Rl) (L M L' M':List Str),vs=[.ref x,.ref y,.ref l,.int n]/\n<=4/\OrdC C H x R L M/\OrdC C H y R' L' M'/\H l=some (.lst (zs.map V.str))/\zs.length<=10/\(∀ z∈zs,z.length<=1/\(stepF R L M z).length<=15/\(stepF R' L' M' z).length<=15)/\chkF R L M R' L' M' zs=none/\(∀ z∈zs,t8 R z/\t8 R' z)/\
 ∀ t H',H t=none->Same H H'->BesR K 'e' 'g' (mvsF R L M R' L' M' n zs) zs H H' t->Q (.ref t) H'
noncomputable def spLg (K:PySem.W.Frag):Sp:=fun vs H Q _=>∃ (p q:Addr) (z u v:Str) (r:Rm),vs=[.str z,.ref p,.ref q]/\A8 K H p (P1 r)/\H q=some (.tup [.str u,.str v])/\z.length<=1000/\u.length<=1000/\v.length<=1000/\
 ∀ t,H t=none->Q (.ref t) (A0 H t (.tup [.str (iC z r u v).1,.str (iC z r u v).2]))
noncomputable def V6 (w:Str) (b:Bool):List Rl:=if b=true then [(w,[])] else []
theorem ao4{w:Str}{b:Bool}{z:Rl}(h:z∈V6 w b):b=true/\z=(w,[]):=by
 unfold V6 at h
 split at h
 .exact ⟨by assumption,E7.mp h⟩
 .cases h
theorem ao5{w:Str}{b:Bool}(hw:flagW w):C7 (V6 w b)=[]:=by
 unfold V6
 split
 .unfold C7;rw [o6,ai2 hw];rfl
 .rfl
noncomputable def stepS:List Int:=[1,2,4,5,7,8,10,11,13,23,44,91]
noncomputable def x8 (n:Int):Int:=(F8 stepS (n / 93 % 12)).getD 0
theorem yC(n:Int):F8 (stepS.map V.int) (n / 93 % 12)=some (.int (x8 n))/\x8 n∈stepS:=by
 obtain ⟨v,h1,h2⟩:=wF (xs:=stepS) (i:=n / 93 % 12) 'a' (by show _<((12:Nat):Int);lia);have e:x8 n=v:=by unfold x8;rw [h1];rfl
 rw [e];refine ⟨?_,h2⟩;obtain ⟨j,hj⟩:∃ j:Nat,n / 93 % 12=(j:Int):=⟨(n / 93 % 12).toNat,by lia⟩
 rw [hj] at h1 ⊢
 have:=nE (n / 93) (show (0:Int)<12 by decide)
 have hl:j<stepS.length:=by show j<12;lia
 have e2:=G8 (xs:=stepS) (j:=j) (v:=stepS[j]) (L1 hl);rw [e2] at h1;rw [<- Option.some.inj h1];exact G8 (by rw [U4,L1 hl];rfl)
theorem ao6(n:Int):0<x8 n/\x8 n<=91:=(show ∀ s∈stepS,0<s/\s<=91 by decide) _ (yC n).2
theorem akV:(∀ s∈stepS,∃ t∈(U9 83).map Int.ofNat,s*t % 83=1)/\∀ s∈stepS,∃ t∈(U9 93).map Int.ofNat,s*t % 93=1:=by decide +kernel
noncomputable def numF (ns:List Int) (k:Int):Int:=cellF ns k*48271 % 2147483647
noncomputable def lM (K:PySem.W.Frag):Sp:=fun vs H Q _=>∃ (a:Addr) (ns:List Int) (k:Int),vs=[.ref a,.int k]/\D1 K H a (ns.map V.int)/\0<=k/\Q (.int (numF ns k)) H
noncomputable def XRl (ls ms:List Str) (z:Rl):Prop:=(∃ b f,b∈ls/\z=('i',[b,f]))\/∃ p b qs,b∈ls/\(∀ q∈qs,q∈ms)/\qs.length<=3/\z=(("as" : Str),p::b::qs)
noncomputable def cT (z:Rl):Str:=if z.1='i' then z.2.getD 1 "" else z.2.headD ""
noncomputable def R8 (ls ms:List Str) (X:List Rl) (bh:Bool):List Rl:=(("marks" : Str),ms)::(X++V6 "behind" bh++[(("row" : Str),ls)])
structure Sh8(ls ms:List Str)(X:List Rl):Prop where
 xr:∀ z∈X,XRl ls ms z
 nd:(ms++(X.map cT++ls)).Nodup
 on:∀ p∈ms++(X.map cT++ls),∃ c,p=one c/\signB c=true
 l1:ls.length<=20
 m1:ms.length<=20
 x1:X.length<=20
theorem ann : ∀ {X:List Rl},(∀ z∈X,XRl ls ms z)->C7 X=X.map fun z=>(cT z,z.1)
 | [],_=>rfl
 | z::X,h=>by
  rw [oA,F6,ann fun z hz=>h z (O7 _ hz)]
  rcases h z N2 with ⟨b,f,_,rfl⟩ | ⟨p,b,qs,_,_,_,rfl⟩
  .rw [aY.1 rfl];rfl
  .rw [aY.2.1 rfl];rfl
theorem akW(A B:List Rl):C7 (A++B)=C7 A++C7 B:=by unfold C7;rw [b9]
theorem Sh8.prs{X:List Rl}(h:Sh8 ls ms X):C7 'n'=(ms.map fun p=>(p,("mark" : Str)))++((X.map fun z=>(cT z,z.1))++ls.map fun p=>(p,("letter" : Str))):=by
 unfold R8;rw [akP,akW,akW,ao5 (.inr 'f'),ao1,ann h.xr,M8,show C7 []=[] from rfl,M8]
theorem Sh8.fst{X:List Rl}(h:Sh8 ls ms X):(C7 'n').map (·.1)=ms++(X.map cT++ls):=by
 rw [h.prs];simp [Function.comp_def]
theorem lN{X:List Rl}{z:Rl}(h:z∈R8 ls ms X bh):z=(("marks" : Str),ms)\/z∈X\/z=(("behind" : Str),[])\/z=(("row" : Str),ls):=by
 unfold R8 at h
 rcases L4.mp h with h | h
 .exact .inl h
 rcases G3.mp h with h | h
 .rcases G3.mp h with h | h
  .exact .inr (.inl h)
  .exact .inr (.inr (.inl (ao4 h).2))
 .exact .inr (.inr (.inr (E7.mp h)))
theorem R8_in{X:List Rl}{z:Rl}(h:z∈X):z∈R8 ls ms X bh:=by
 unfold R8;exact O7 _ (Q3 _ (Q3 _ h))
theorem Sh8.w1{X:List Rl}(h:Sh8 ls ms X){z:Rl}(hz:z∈X):z.1='i'\/z.1=("as" : Str):=by
 rcases h.xr z hz with ⟨b,f,_,rfl⟩ | ⟨p,b,qs,_,_,_,rfl⟩
 .exact .inl rfl
 .exact .inr rfl
theorem Sh8.rows{X:List Rl}(h:Sh8 ls ms X):rowsW 'n' "row"=[ls]/\rowsW 'n' "marks"=[ms]:=by
 have e:∀ X zy w,rowsW (X++zy) w=rowsW X w++rowsW zy w:=fun X zy w=>by unfold rowsW;rw [bZ,D0]
 have e3:∀ {u w:Str} {b:Bool},u≠w->rowsW (V6 u b) w=[]:=fun {u w b} n=>by
  unfold V6 rowsW
  cases b
  .rfl
  .rw [if_pos rfl,jR (by simpa using n)];rfl
 have eX:∀ w:Str,w="row"\/w="marks"->rowsW X w=[]:=fun w hw=>by
  unfold rowsW;rw [mU.mpr]
  .rfl
  intro z hz;rw [decide_eq_true_iff];intro e
  rcases h.w1 hz with e2 | e2 <;> rcases hw with e3 | e3 <;> rw [e2,e3] at e <;> exact absurd e 'c'
 unfold R8;rw [rw_ne 'c',rw_eq,e,e,e,e,eX _ 'f',eX _ (.inr rfl),e3 'c',e3 'c',rw_eq,rw_ne 'c'];exact ⟨rfl,rfl⟩
theorem Sh8.has{X:List Rl}(h:Sh8 ls ms X):hasW 'n' "figures"=false/\hasW 'n' "behind"=bh/\hasW 'n' "blanks"=false:=by
 have eX:∀ w:Str,flagW w->hasW X w=false:=fun w hw=>by
  obtain ⟨_,_,n3,n4,_⟩:=hw.no;unfold hasW;rw [List.any_eq_false];intro z hz;rw [decide_eq_true_iff];intro e
  rcases h.w1 hz with e2 | e2 <;> rw [e] at e2
  .exact n3 e2
  .exact n4 e2
 have e3:∀ w:Str,flagW w->hasW 'n' w=(bh&&decide (("behind" : Str)=w)):=fun w hw=>by
  obtain ⟨n1,n2,_⟩:=hw.no
  have:=eX w hw
  unfold R8;unfold hasW at this ⊢
  rw [aL,List.any_append,List.any_append,this,decide_eq_false (fun h=>n2 h.symm)];unfold V6
  cases bh <;> simp [n1.symm]
 refine ⟨?_,?_,?_⟩
 .rw [e3 _ 'f',decide_eq_false 'c',Bool.and_false]
 .rw [e3 _ (.inr 'f'),decide_eq_true rfl,Bool.and_true]
 .rw [e3 _ (.inr (.inr rfl)),decide_eq_false 'c',Bool.and_false]
theorem Sh8.ndl{X:List Rl}(h:Sh8 ls ms X):ls.Nodup:=(Y9.mp (Y9.mp h.nd).2.1).2.1
theorem Sh8.ndm{X:List Rl}(h:Sh8 ls ms X):ms.Nodup:=(Y9.mp h.nd).1
theorem Sh8.good{X:List Rl}(h:Sh8 ls ms X):GoodR (oE 'n') (ls.idxOf ·) (ms.idxOf ·) 'n':=by
 have o0:=h.l1;have fT:=h.m1;have hx1:=h.x1;have nd:=h.nd;rw [<- h.fst (bh:=bh)] at nd;have on:=h.on;rw [<- h.fst (bh:=bh)] at on;have hB:(R8 ls ms X bh).length<=30:=by
  unfold R8 V6
  cases bh <;> simp <;> lia
 have Y5:(C7 'n').length<=60:=by
  have:=congrArg c0 (h.fst (bh:=bh))
  rw [A6,D9,D9,A6] at this;lia
 have lt:∀ p∈ls,(p,("letter" : Str))∈C7 'n':=fun p hp=>by rw [h.prs];exact N7 _ (N7 _ (C6.mpr ⟨p,hp,rfl⟩))
 have mk:∀ p∈ms,(p,("mark" : Str))∈C7 'n':=fun p hp=>by rw [h.prs];exact Q3 _ (C6.mpr ⟨p,hp,rfl⟩)
 refine ⟨by lia,by lia,?_,?_,fun z hz=>?_,fun z hz hw=>?_,fun z hz hw p hp=>?_,fun z hz hw p hp=>?_,fun z hz hw p hp=>?_,?_,?_,fun e he=>?_,fun e he=>?_⟩
 .intro i p j hi;have hm:=G6 hi;obtain ⟨c,rfl,hc⟩:=on p (C6.mpr ⟨_,hm,rfl⟩);refine ⟨?_,fun hq=>?_,fun hf=>?_,by show 1<=1000;decide⟩
  .unfold oE;rw [ail nd hm];rfl
  .exfalso
   obtain ⟨⟨p',j'⟩,tZ,e0⟩:=C6.mp hq;obtain ⟨m,fU,e⟩:=jP.mp tZ;obtain ⟨bO,e2⟩:=E5.mp hi;rw [bW,List.pairwise_map,eC] at nd;refine nd m i 'a' bO 'a' ?_;rw [e,e2];exact e0
  .rw [h.has.1] at hf;cases hf
 .intro hb;obtain ⟨c,e,hc⟩:=on _ hb;have e1:[32]=[c]:=congrArg (fun z:Str=>z.cps.toList) e;rw [<- List.singleton_inj.mp e1] at hc;exact absurd hc 'h'
 .rcases lN hz with rfl | hz | rfl | rfl
  .show ms.length<=1000;lia
  .rcases h.xr z hz with ⟨b,f,_,rfl⟩ | ⟨p,b,qs,_,_,h3,rfl⟩
   .show 2<=1000;decide
   .show qs.length+1+1<=1000;lia
  .show 0<=1000;decide
  .show ls.length<=1000;lia
 .rcases lN hz with rfl | hz | rfl | rfl
  .exact absurd (show Str.ofString "marks"=_\/Str.ofString "marks"=_ from hw) 'c'
  .rcases h.xr z hz with ⟨b,f,_,rfl⟩ | ⟨p,b,qs,_,_,h3,rfl⟩ <;> exact List.cons_ne_nil _ _
  .exact absurd (show Str.ofString "behind"=_\/Str.ofString "behind"=_ from hw) 'c'
  .exact absurd (show Str.ofString "row"=_\/Str.ofString "row"=_ from hw) 'c'
 .rcases lN hz with rfl | hz | rfl | rfl
  .exact absurd (show Str.ofString "marks"=_ from hw) 'c'
  .rcases h.xr z hz with ⟨b,f,hb,rfl⟩ | ⟨p',b,qs,_,_,h3,rfl⟩
   .rw [E7.mp (show p∈[b] from hp)];exact lt b hb
   .exact absurd (show Str.ofString "as"=_ from hw) 'c'
  .exact absurd (show Str.ofString "behind"=_ from hw) 'c'
  .exact absurd (show Str.ofString "row"=_ from hw) 'c'
 .rcases lN hz with rfl | hz | rfl | rfl
  .exact absurd (show Str.ofString "marks"=_ from hw) 'c'
  .rcases h.xr z hz with ⟨b,f,hb,rfl⟩ | ⟨p',b,qs,hb,_,h3,rfl⟩
   .exact absurd (show Str.ofString "great"=_ from hw) 'c'
   .rw [E7.mp (show p∈[b] from hp)];exact lt b hb
  .exact absurd (show Str.ofString "behind"=_ from hw) 'c'
  .exact absurd (show Str.ofString "row"=_ from hw) 'c'
 .rcases lN hz with rfl | hz | rfl | rfl
  .exact absurd (show Str.ofString "marks"=_ from hw) 'c'
  .rcases h.xr z hz with ⟨b,f,hb,rfl⟩ | ⟨p',b,qs,hb,hq,h3,rfl⟩
   .exact absurd (show Str.ofString "great"=_ from hw) 'c'
   .exact .inr (mk p (hq p hp))
  .exact absurd (show Str.ofString "behind"=_ from hw) 'c'
  .exact absurd (show Str.ofString "row"=_ from hw) 'c'
 .rw [h.rows.1];simp;lia
 .rw [h.rows.2];simp;lia
 .rw [h.rows.1] at he;exact agD h.ndl (by simpa [edges] using he)
 .rw [h.rows.2] at he;exact agD h.ndm (by simpa [edges] using he)
theorem Sh8.lets{X:List Rl}(h:Sh8 ls ms X)(hL:Q6 'n' "row" L)(hM:Q6 'n' "marks" M):L=ls/\M=ms:=by
 unfold Q6 at hL hM;rw [h.rows.1] at hL;rw [h.rows.2] at hM;refine ⟨akD h.ndl (kU _) hL.1 hL.2 (fun p=>?_) fun e he=>?_,akD h.ndm (kU _) hM.1 hM.2 (fun p=>?_) fun e he=>?_⟩
 .rw [xH];simp
 .simpa [edges] using he
 .rw [xH];simp
 .simpa [edges] using he
theorem Sh8.known{X:List Rl}(h:Sh8 ls ms X){p:Str} : p∈G4 'n'↔p∈ms++(X.map cT++ls):=by
 unfold G4 W6;rw [h.has.2.2,if_neg L9,M8,rS,h.fst]
theorem Sh8.knownL{X:List Rl}(h:Sh8 ls ms X):(G4 'n').length<=1000:=by
 unfold G4 W6;rw [h.has.2.2,if_neg L9,M8];have h1:=wZ (C7 'n');have h2:=congrArg c0 (h.fst (bh:=bh));rw [A6,D9,D9,A6] at h2
 have:=h.l1
 have:=h.m1
 have:=h.x1
 lia
theorem Sh8.steps{X:List Rl}(h:Sh8 ls ms X)(L M:List Str)(y:Str):(stepF 'n' L M y).length<=15:=by
 unfold stepF;cases e:(putsL (R8 ls ms X bh) L M).lookup y with
 | none=>simp
 | some s=>
  obtain ⟨l1,l2,el,_⟩:=List.lookup_eq_some_iff.mp e;have hp:(y,s)∈putsL 'n' L M:=by rw [el];simp
  show s.length<=15;unfold putsL at hp
  rcases G3.mp hp with hp | hp
  .rcases G3.mp hp with hp | hp
   .rcases G3.mp hp with hp | hp
    .obtain ⟨e,_,q⟩:=C6.mp hp;rw [<- (Prod.mk.inj q).2];exact Nat.le_add_left 1 14
    .obtain ⟨e,_,q⟩:=C6.mp hp;rw [<- (Prod.mk.inj q).2];exact Nat.le_add_left 1 14
   .obtain ⟨w,_,hp⟩:=U8.mp hp;obtain ⟨e,_,q⟩:=C6.mp hp;rw [<- (Prod.mk.inj q).2];exact Nat.le_add_left 1 14
  .unfold rW at hp;obtain ⟨z,hz,qq⟩:=jV.mp hp
   split at qq
   .rename_i hw
    obtain ⟨p',_,qq⟩:=Option.map_eq_some_iff.mp qq;rw [<- (Prod.mk.inj qq).2,A6]
    rcases lN hz with rfl | hz | rfl | rfl
    .exact absurd (show Str.ofString "marks"=_ from hw) 'c'
    .rcases h.xr z hz with ⟨b,f,hb,rfl⟩ | ⟨p',b,qs,hb,hq,h3,rfl⟩
     .show 1<=15;decide
     .show qs.length+1<=15;lia
    .show 0<=15;decide
    .exact absurd (show Str.ofString "row"=_ from hw) 'c'
   .cases qq
theorem Sh8.sl{X:List Rl}(h:Sh8 ls ms X)(hL:Q6 'n' "row" L)(hM:Q6 'n' "marks" M){p:Str}(hp:p∈ls):stepF 'n' L M p=[(2,(ls.idxOf p:Int),0)]:=by
 obtain ⟨rfl,rfl⟩:=h.lets hL hM;exact (oC h.good hL hM).letter hp
theorem Sh8.sm{X:List Rl}(h:Sh8 ls ms X)(hL:Q6 'n' "row" L)(hM:Q6 'n' "marks" M){p:Str}(hp:p∈ms):stepF 'n' L M p=[(0,(ms.idxOf p:Int),0)]:=by
 obtain ⟨rfl,rfl⟩:=h.lets hL hM;have hi:=eE.mpr hp;exact (oC h.good hL hM).mr (M.idxOf p) p (by rw [L1 hi,gJ])
theorem Sh8.sa{X:List Rl}(h:Sh8 ls ms X)(hL:Q6 'n' "row" L)(hM:Q6 'n' "marks" M){p b:Str}{qs:List Str}(hb:b∈ls)(hq:∀ q∈qs,q∈ms)(hz:(("as" : Str),p::b::qs)∈X) :
  stepF 'n' L M p=(2,(ls.idxOf b:Int),0)::qs.map fun q=>(0,(ms.idxOf q:Int),0):=by
 rw [(oC h.good hL hM).as _ (R8_in hz) rfl p (b::qs) rfl,F6,h.sl hL hM hb]
 congr 1
 exact jU fun q hm=>by rw [h.sm hL hM (hq q hm)];rfl
theorem Sh8.sg{X:List Rl}(h:Sh8 ls ms X)(hL:Q6 'n' "row" L)(hM:Q6 'n' "marks" M){b f:Str}{c:Nat}(hz:('i',[b,f])∈X)(hc:(D8 X b)[c]?=some f) :
  stepF 'n' L M f=[(2,(ls.idxOf b:Int),((c+1:Nat):Int))]:=by
 have eg:L0 'n'=L0 X:=by
  unfold R8;have e1:L0 ((("marks" : Str),ms)::(X++V6 "behind" bh++[(("row" : Str),ls)]))=L0 [(("marks" : Str),ms)]++L0 (X++V6 "behind" bh++[(("row" : Str),ls)]):=cM [_] _;rw [e1,cM,cM,fC (show Str.ofString "marks"≠Str.ofString "great" by decide +kernel),fC (z:=(("row" : Str),ls)) (show Str.ofString "row"≠Str.ofString "great" by decide +kernel),M8,eG];have e2:L0 (V6 "behind" bh)=[]:=by
   unfold V6
   split
   .exact fC (show Str.ofString "behind"≠Str.ofString "great" by decide +kernel)
   .rfl
  rw [e2,M8]
 have ef:D8 'n' b=D8 X b:=by unfold D8;rw [eg]
 obtain ⟨rfl,rfl⟩:=h.lets hL hM;refine (oC h.good hL hM).gr b ?_ c f (by rw [ef];exact hc);rw [mem_formKs,eg];unfold L0;exact ⟨(b,[f]),jV.mpr ⟨_,hz,rfl⟩,rfl⟩
noncomputable abbrev En:=Int×List Int×Int
structure EnS(R:List Rl)(L M:List Str)(S:List Nat)(en:Nat->En):Prop where
 nf:hasW R "figures"=false
 kn:∀ p∈G4 R,∃ c,p=one c
 ki:∀ c∈S,one c∈G4 R
 st:∀ c∈S,stepF R L M (one c)=(2,(en c).1,(en c).2.2)::(en c).2.1.map fun j=>(0,j,0)
theorem amJ(h:∀ p∈ks,∃ c,p=one c)(c:Nat)(r:List Nat)(hc:one c∈ks):partF false ks (c::r)=some (one c):=by
 rw [lE,Bool.false_and,if_neg L9]
 cases r with
 | nil=>rw [lC,if_pos hc]
 | cons e r=>
  rw [lD,if_neg,if_pos hc];intro hm;obtain ⟨d,e1⟩:=h _ hm;have e2:[c,e]=[d]:=congrArg (fun z:Str=>z.cps.toList) e1;cases e2
theorem yD(h:∀ p∈ks,∃ c,p=one c):∀ {l:List Nat},(∀ c∈l,one c∈ks)->cutF false ks l=(l.length,l.map one)
 | [],_=>by rw [oG];rfl
 | c::l,hl=>by
  obtain ⟨rest,e1,e2,_⟩:=lF (amJ h c l (hl c N2));have e3:l=rest:=(List.cons.inj e1).2;rw [e2,<- e3,yD h fun d hd=>hl d (O7 _ hd)];refine Prod.ext ?_ rfl;show l.length+1=_;rw [L3]
theorem aiq:∀ (ms:List Int) (U:List J7) (a b:Int) (m0:List Int) (c:Int),(ms.map fun j=>((0,j,0):Tr)).foldl addS (U++[(a,b,m0,c)])=U++[(a,b,m0++ms,c)]
 | [],U,a,b,m0,c=>by rw [M8];rfl
 | j::ms,U,a,b,m0,c=>by
  rw [F6,jZ];have e:addS (U++[(a,b,m0,c)]) (0,j,0)=U++[(a,b,m0++[j],c)]:=by
   unfold addS;rw [if_pos rfl];unfold addM
   simp
  rw [e,aiq ms,W8];rfl
theorem akX{F:Str->List Tr}{en:Nat->En} : ∀ {l:List Nat} {U:List J7},(∀ c∈l,F (one c)=(2,(en c).1,(en c).2.2)::(en c).2.1.map fun j=>(0,j,0))->((l.map one).flatMap F).foldl addS U=U++l.map fun c=>(2,(en c).1,(en c).2.1,(en c).2.2)
 | [],U,_=>by simp
 | c::l,U,h=>by
  rw [F6,o6,aJ,h c N2,jZ];have e:addS U (2,(en c).1,(en c).2.2)=U++[(2,(en c).1,[],(en c).2.2)]:=by unfold addS;rw [if_neg (show ¬ (2:Int)=0 by decide)]
  rw [e,aiq,eG,akX fun d hd=>h d (O7 _ hd),F6,W8];rfl
theorem EnS.units{en:Nat->En}(h:EnS R L M S en){l:List Nat}(hl:∀ c∈l,c∈S):Q7 (stepY R L M) (cutF (hasW R "figures") (G4 R) l).2=l.map fun c=>(2,(en c).1,(en c).2.1,(en c).2.2):=by
 rw [h.nf,yD h.kn (fun c hc=>h.ki c (hl c hc)),aii h.nf];show ((l.map one).flatMap (stepF R L M)).foldl addS []=_;rw [akX (en:=en) fun c hc=>h.st c (hl c hc),eG]
theorem EnS.whole{en:Nat->En}(h:EnS R L M S en)(hl:∀ c∈z.cps.toList,c∈S):aZ (hasW R "figures") (G4 R) z:=by
 unfold aZ;rw [h.nf,yD h.kn (fun c hc=>h.ki c (hl c hc)),lenL]
noncomputable def cmpG {α:Type} [DecidableEq α] [LT α] [DecidableLT α] (xs ys:List α):Int:=if xs=ys then 0 else if xs<ys then -1 else 1
section
variable {α:Type} [DecidableEq α] [LT α] [DecidableLT α]
theorem cmpG_zero{xs ys:List α} : cmpG xs ys=0↔xs=ys:=by
 unfold cmpG
 constructor
 .intro h
  by_cases e:xs=ys
  .exact e
  .rw [if_neg e] at h
   split at h <;> cases h
 .intro h;rw [if_pos h]
theorem cU(Q0:∀ a:α,¬ a<a)(a b:α)(xs ys:List α):cmpG (a::xs) (b::ys)=if a=b then cmpG xs ys else if a<b then -1 else 1:=by
 unfold cmpG
 by_cases e:a=b
 .subst e;rw [if_pos rfl];have e1:(a::xs=a::ys)↔xs=ys:=⟨fun h=>(List.cons.inj h).2,fun h=>by rw [h]⟩
  have e2:(a::xs<a::ys)↔xs<ys:=by
   rw [gH];exact ⟨fun h=>h.elim (fun h=>absurd h (Q0 a)) (·.2),fun h=>.inr ⟨rfl,h⟩⟩
  simp only [e1,e2]
 .rw [if_neg e,if_neg (fun h=>e (List.cons.inj h).1)];have e2:(a::xs<b::ys)↔a<b:=by
   rw [gH];exact ⟨fun h=>h.elim id fun h=>absurd h.1 e,.inl⟩
  simp only [e2]
theorem oP(Q0:∀ a:α,¬ a<a)(a b:α):∀ {xs ys:List α},xs.length=ys.length->cmpG (xs++[a]) (ys++[b])=if cmpG xs ys=0 then cmpG [a] [b] else cmpG xs ys
 | [],[],_=>by rw [if_pos (cmpG_zero.mpr rfl)];rfl
 | x::xs,y::ys,h=>by
  rw [gL,gL,cU Q0,cU Q0 x y xs ys]
  by_cases e:x=y
  .rw [if_pos e,if_pos e];exact oP Q0 a b (by simpa using h)
  .rw [if_neg e,if_neg e,if_neg (show ¬ (if x<y then (-1:Int) else 1)=0 by split <;> decide)]
 | [],_::_,h=>by simp at h
 | _::_,[],h=>by simp at h
theorem ajb(Q0:∀ a:α,¬ a<a)(a b:α)(xs ys:List α):cmpG (a::xs) (b::ys)=if cmpG [a] [b]=0 then cmpG xs ys else cmpG [a] [b]:=by
 rw [cU Q0,cU Q0 a b [] []]
 by_cases e:a=b
 .rw [if_pos e,if_pos e,if_pos (cmpG_zero.mpr rfl)]
 .rw [if_neg e,if_neg e,if_neg (show ¬ (if a<b then (-1:Int) else 1)=0 by split <;> decide)]
theorem yE(Q0:∀ a:α,¬ a<a)(a:α)(zs:List α):∀ {xs ys:List α},xs.length=ys.length->cmpG (xs++a::zs) ys=(if cmpG xs ys=0 then 1 else cmpG xs ys)/\cmpG xs (ys++a::zs)=if cmpG xs ys=0 then -1 else cmpG xs ys
 | [],[],_=>by
  rw [if_pos (cmpG_zero.mpr rfl),if_pos (cmpG_zero.mpr rfl)];refine ⟨?_,?_⟩
  .unfold cmpG;rw [if_neg 'd',if_neg (List.not_lt_nil _)]
  .unfold cmpG;rw [if_neg 'd',if_pos 'd']
 | x::xs,y::ys,h=>by
  rw [gL,gL,cU Q0 x y _ ys,cU Q0 x y xs (ys++a::zs),cU Q0 x y xs ys]
  by_cases e:x=y
  .rw [if_pos e,if_pos e,if_pos e];exact yE Q0 a zs (by simpa using h)
  .rw [if_neg e,if_neg e,if_neg e]
   have:¬ (if x<y then (-1:Int) else 1)=0:=by split <;> decide
   rw [if_neg this,if_neg this];exact ⟨rfl,rfl⟩
 | [],_::_,h=>by simp at h
 | _::_,[],h=>by simp at h
end
noncomputable def D6 (bh:Bool) (en:Nat->En) (l l':List Nat):Nat->Int
 | 0=>cmpG (l.map fun c=>(en c).1) (l'.map fun c=>(en c).1)
 | 1=>cmpG ((if bh=true then l.reverse else l).map fun c=>(en c).2.1) ((if bh=true then l'.reverse else l').map fun c=>(en c).2.1)
 | 2=>cmpG (l.map fun c=>(en c).2.2) (l'.map fun c=>(en c).2.2)
 | _=>cmpG l l'
noncomputable def difL (n:Nat) (g:Nat->Int):Int×Int:=match (U9 n).find? fun i=>g i≠0 with
 | some i=>(((i+1:Nat):Int),g i)
 | none=>(0,0)
theorem x9{g:Nat->Int}(hi:i<n)(h0:∀ k<i,g k=0)(h:g i≠0):difL n g=(((i+1:Nat):Int),g i):=by
 have:=xZ (f:=fun k=>g (k-1)) hi (fun k hk=>by simpa using h0 k hk) (by simpa using h)
 unfold difF at this;simp only [Nat.add_sub_cancel] at this;exact this
theorem bF{g:Nat->Int}(h0:∀ k<n,g k=0):difL n g=(0,0):=by
 have:=yA (n:=n) (f:=fun k=>g (k-1)) (fun k hk=>by simpa using h0 k hk)
 unfold difF at this;simp only [Nat.add_sub_cancel] at this;exact this
theorem lO(n:Nat)(g:Nat->Int):(difL n g=(0,0)/\∀ k<n,g k=0)\/∃ i<n,difL n g=(((i+1:Nat):Int),g i)/\g i≠0/\∀ k<i,g k=0:=by
 by_cases h:∀ k<n,g k=0
 .exact .inl ⟨bF h,h⟩
 .have h':∃ i,i<n/\g i≠0:=Classical.byContradiction fun hn=>h fun k hk=>Classical.byContradiction fun U7=>hn ⟨k,hk,U7⟩
  obtain ⟨i,⟨hi,h1⟩,h2⟩:∃ i,(i<n/\g i≠0)/\∀ k<i,¬ (k<n/\g k≠0):=by
   obtain ⟨i0,hi0⟩:=h'
   induction i0 using Nat.strongRecOn with
   | _ i0 ih=>
    by_cases hq:∃ k<i0,k<n/\g k≠0
    .obtain ⟨k,hk,jD⟩:=hq;exact ih k hk jD
    .exact ⟨i0,hi0,fun k hk jD=>hq ⟨k,hk,jD⟩⟩
  have h3:∀ k<i,g k=0:=fun k hk=>Classical.byContradiction fun q=>h2 k hk ⟨by lia,q⟩
  exact .inr ⟨i,hi,x9 hi h3 h1,h1,h3⟩
theorem akY{b:Bool}{g h g':Nat->Int}(hz:∀ k,¬ (k=1/\b=true)->g' k=if g k=0 then h k else g k)(hb:b=true->g' 1=if h 1=0 then g 1 else h 1):difL n g'=Z5 b (difL n g) (difL n h):=by
 have zz:∀ k,g k=0->h k=0->g' k=0:=fun k h1 h2=>by
  by_cases e:k=1/\b=true
  .rw [e.1,hb e.2,if_pos (by rw [<- e.1];exact h2),<- e.1];exact h1
  .rw [hz k e,if_pos h1];exact h2
 rcases lO n g with ⟨eg,zg⟩ | ⟨i,hi,eg,ni,zi⟩
 .rcases lO n h with ⟨eh,zh⟩ | ⟨j,hj,eh,nj,zj⟩
  .rw [eg,eh,bF fun k hk=>zz k (zg k hk) (zh k hk)];rfl
  .have e1:g' j=h j:=by
    by_cases e:j=1/\b=true
    .rw [e.1,hb e.2,if_neg (by rw [<- e.1];exact nj)]
    .rw [hz j e,if_pos (zg j hj)]
   rw [eg,eh,x9 hj (fun k hk=>zz k (zg k 'a') (zj k hk)) (by rw [e1];exact nj),e1];unfold Z5;rw [if_neg (by simp only [];lia),if_pos 'f']
 .rcases lO n h with ⟨eh,zh⟩ | ⟨j,hj,eh,nj,zj⟩
  .have e1:g' i=g i:=by
    by_cases e:i=1/\b=true
    .rw [e.1,hb e.2,if_pos (by rw [<- e.1];exact zh i hi)]
    .rw [hz i e,if_neg ni]
   rw [eg,eh,x9 hi (fun k hk=>zz k (zi k hk) (zh k 'a')) (by rw [e1];exact ni),e1];rfl
  .rw [eg,eh];unfold Z5;simp only [];rw [if_neg 'a']
   by_cases hij:j<i
   .have e1:g' j=h j:=by
     by_cases e:j=1/\b=true
     .rw [e.1,hb e.2,if_neg (by rw [<- e.1];exact nj)]
     .rw [hz j e,if_pos (zi j hij)]
    rw [if_pos (.inr 'a'),x9 hj (fun k hk=>zz k (zi k 'a') (zj k hk)) (by rw [e1];exact nj),e1]
   .rw [if_neg 'a']
    by_cases hq:i=j/\j=1/\b=true
    .obtain ⟨rfl,rfl,hb1⟩:=hq;rw [if_pos ⟨rfl,rfl,hb1⟩,x9 hj (fun k hk=>zz k (zi k hk) (zj k hk)) (by rw [hb hb1,if_neg nj];exact nj),hb hb1,if_neg nj]
    .rw [if_neg (fun e=>hq ⟨by lia,by lia,e.2.2⟩)];have e1:g' i=g i:=by
      by_cases e:i=1/\b=true
      .have e0:=e.1;have hj1:j≠1:=fun q=>hq ⟨by lia,q,e.2⟩
       rw [e.1,hb e.2,if_pos (zj 1 'a')]
      .rw [hz i e,if_neg ni]
     rw [x9 hi (fun k hk=>zz k (zi k hk) (zj k 'a')) (by rw [e1];exact ni),e1]
theorem ano{en:Nat->En}{l:List Nat}(hl:l.length=l'.length)(x y:Nat) :
  (∀ k,¬ (k=1/\bh=true)->D6 bh en (l++[x]) (l'++[y]) k=if D6 bh en l l' k=0 then D6 bh en [x] [y] k else D6 bh en l l' k)/\(bh=true->D6 bh en (l++[x]) (l'++[y]) 1=if D6 bh en [x] [y] 1=0 then D6 bh en l l' 1 else D6 bh en [x] [y] 1):=by
 refine ⟨fun k hk=>?_,fun hb=>?_⟩
 .match k with
  | 0=>show cmpG ((l++[x]).map _) ((l'++[y]).map _)=_;rw [D0,D0];exact oP eR _ _ (by simpa using hl)
  | 1=>
   have hb:bh=false:=by
    cases bh
    .rfl
    .exact absurd ⟨rfl,rfl⟩ hk
   subst hb;show cmpG ((l++[x]).map _) ((l'++[y]).map _)=_;rw [D0,D0];exact oP (fun a=>List.lt_irrefl a) _ _ (by simpa using hl)
  | 2=>show cmpG ((l++[x]).map _) ((l'++[y]).map _)=_;rw [D0,D0];exact oP eR _ _ (by simpa using hl)
  | k+3=>exact oP c9 _ _ hl
 .subst hb;show cmpG ((l++[x]).reverse.map _) ((l'++[y]).reverse.map _)=_;rw [List.reverse_append,List.reverse_append];exact ajb (fun a=>List.lt_irrefl a) _ _ _ _
theorem air{f:Int->List Int}(hf:∀ a b,f a=f b↔a=b)(hg:∀ a b,f a<f b↔a<b):∀ xs ys:List Int,cmpG (xs.map f) (ys.map f)=cmpG xs ys
 | [],[]=>rfl
 | [],y::ys=>by unfold cmpG;simp
 | x::xs,[]=>by unfold cmpG;simp
 | x::xs,y::ys=>by
  rw [F6,F6,cU (fun a=>List.lt_irrefl a),cU eR,air hf hg xs ys];simp only [hf,hg]
theorem akZ(xs ys:List (List Int)):cmpD (.tt xs) (.tt ys)=cmpG xs ys:=by
 unfold cmpD cmpG LvD.lt
 simp
theorem yF(xs ys:List Int):cmpD (.ii xs) (.ii ys)=cmpG xs ys:=by
 unfold cmpD cmpG LvD.lt
 simp
theorem arT : z=z'↔z.cps.toList=z'.cps.toList:=⟨fun e=>by rw [e],fun e=>by
 cases z
 cases z'
 exact congrArg Str.mk (Array.toList_inj.mp e)⟩
theorem ak0(z z':Str):cmpD (.ss z) (.ss z')=cmpG z.cps.toList z'.cps.toList:=by
 unfold cmpD cmpG LvD.lt;simp [arT]
theorem ak1{en:Nat->En}(hn:n<=4):(Z1 cmpD (g6 bh (z.cps.toList.map fun c=>(2,(en c).1,(en c).2.1,(en c).2.2)) z) (g6 bh (z'.cps.toList.map fun c=>(2,(en c).1,(en c).2.1,(en c).2.2)) z')).take n=(U9 n).map (D6 bh en z.cps.toList z'.cps.toList):=by
 have e:Z1 cmpD (g6 bh (z.cps.toList.map fun c=>(2,(en c).1,(en c).2.1,(en c).2.2)) z) (g6 bh (z'.cps.toList.map fun c=>(2,(en c).1,(en c).2.1,(en c).2.2)) z')=(U9 4).map (D6 bh en z.cps.toList z'.cps.toList):=by
  unfold g6;simp only [List.zipWith_cons_cons,List.zipWith_nil_left,akZ,yF,ak0,R3];have e1:cmpG (z.cps.toList.map ((fun u:J7=>[u.1,u.2.1])∘fun c=>((2:Int),(en c).1,(en c).2.1,(en c).2.2))) (z'.cps.toList.map ((fun u:J7=>[u.1,u.2.1])∘fun c=>((2:Int),(en c).1,(en c).2.1,(en c).2.2)))=D6 bh en z.cps.toList z'.cps.toList 0:=by
   have:=air (f:=fun i=>[2,i]) (fun a b=>by simp) (fun a b=>by rw [gH,gH];simp) (z.cps.toList.map fun c=>(en c).1) (z'.cps.toList.map fun c=>(en c).1)
   rw [R3,R3] at this;exact this
  have e2:cmpG ((if bh=true then (z.cps.toList.map fun c=>((2:Int),(en c).1,(en c).2.1,(en c).2.2)).reverse else z.cps.toList.map fun c=>((2:Int),(en c).1,(en c).2.1,(en c).2.2)).map fun u:J7=>u.2.2.1) ((if bh=true then (z'.cps.toList.map fun c=>((2:Int),(en c).1,(en c).2.1,(en c).2.2)).reverse else z'.cps.toList.map fun c=>((2:Int),(en c).1,(en c).2.1,(en c).2.2)).map fun u:J7=>u.2.2.1)=D6 bh en z.cps.toList z'.cps.toList 1:=by
   unfold D6
   cases bh <;> simp [Function.comp_def]
  rw [e1,e2];rfl
 rw [e,<- eJ,List.take_range,eM hn]
theorem ais{g:Nat->Int} : ∀ l:List Nat,((l.map g).find? fun v=>v≠0).getD 0=((l.find? fun i=>g i≠0).map g).getD 0
 | []=>rfl
 | a::l=>by
  rw [F6,X5,X5]
  by_cases h:g a=0
  .simp only [h,ne_eq,not_true_eq_false,decide_false];exact ais l
  .simp [h]
theorem amK(n:Nat)(g:Nat->Int):(difL n g).2=(((U9 n).map g).find? fun v=>v≠0).getD 0:=by
 rw [ais];unfold difL
 split
 .rename_i h;rw [h];rfl
 .rename_i h;rw [h];rfl
theorem EnS.cmp{en:Nat->En}(h:EnS R L M S en)(hn:n<=4)(hz:∀ c∈z.cps.toList,c∈S)(Q1:∀ c∈z'.cps.toList,c∈S):cmpF n (g7 R L M z) (g7 R L M z')=(difL n (D6 'e' en z.cps.toList z'.cps.toList)).2:=by
 unfold g7 cmpF;rw [h.units hz,h.units Q1,ak1 hn,amK]
theorem EnS.dif{en:Nat->En}(h:EnS R L M S en)(hn:n<=4)(hz:∀ c∈z.cps.toList,c∈S)(Q1:∀ c∈z'.cps.toList,c∈S):difR R L M n z z'=difL n (D6 'e' en z.cps.toList z'.cps.toList):=by
 unfold difR;have ec:∀ m≤4,cmpF m (g7 R L M z) (g7 R L M z')=(difL m (D6 'e' en z.cps.toList z'.cps.toList)).2:=fun m hm=>h.cmp hm hz Q1
 rcases lO n (D6 'e' en z.cps.toList z'.cps.toList) with ⟨e,z0⟩ | ⟨i,hi,e,ni,zi⟩
 .rw [e];refine yA fun k hk=>?_
  rw [ec _ 'a',bF fun j hj=>z0 j 'a']
 .have e2:cmpF (i+1) (g7 R L M z) (g7 R L M z')=D6 'e' en z.cps.toList z'.cps.toList i:=by rw [ec _ 'a',x9 (kA i) zi ni]
  rw [e,xZ hi (fun k hk=>by rw [ec _ 'a',bF fun j hj=>zi j 'a']) (by rw [e2];exact ni),e2]
theorem sI(bh:Bool)(en:Nat->En)(k:Nat):D6 bh en [] [] k=0:=by
 match k with
 | 0=>rfl
 | 1=>cases bh <;> rfl
 | 2=>rfl
 | _+3=>rfl
theorem y0(x y:Str):(x++y).cps.toList=x.cps.toList++y.cps.toList:=Array.toList_append
noncomputable def roomF (n:Nat) (bh bh':Bool) (en en':Nat->En) (l l':List Nat):Rm:=join4 (difL n (D6 bh en l l')) (difL n (D6 bh' en' l l'))
theorem yG{bh':Bool}{en en':Nat->En}{l:List Nat}(hl:l.length=l'.length)(x y:Nat):roomF n bh bh' en en' (l++[x]) (l'++[y])=M9 bh bh' (roomF n bh bh' en en' l l') (roomF n bh bh' en en' [x] [y]):=by
 have h1:=ano (bh:=bh) (en:=en) hl x y;have h2:=ano (bh:=bh') (en:=en') hl x y;unfold roomF M9;rw [akY h1.1 h1.2,akY h2.1 h2.2];rfl
noncomputable def Z7 (S:List Nat) (z:Str):Prop:=∀ c∈z.cps.toList,c∈S
theorem ait{en en':Nat->En}(h:EnS R L M S en)(h':EnS R' L' M' S en')(hn:n<=4)(hz:∀ z∈zs,∃ c∈S,z=one c){m:Mv}(hm:m∈mvsF R L M R' L' M' n zs) :
  ∃ c d,c∈S/\d∈S/\m=(one c,one d,roomF n 'e' 'g' en en' [c] [d]):=by
 obtain ⟨x,hx,hm⟩:=U8.mp hm;obtain ⟨y,hy,rfl⟩:=C6.mp hm;obtain ⟨c,hc,rfl⟩:=hz x hx;obtain ⟨d,hd,rfl⟩:=hz y hy;refine ⟨c,d,hc,hd,?_⟩;have oc:∀ {c},c∈S->∀ e∈(one c).cps.toList,e∈S:=fun {c} hc e he=>by rw [E7.mp (show e∈[c] from he)];exact hc
 rw [h.dif hn (oc hc) (oc hd),h'.dif hn (oc hc) (oc hd)];rfl
theorem Rch.room{en en':Nat->En}(h:EnS R L M S en)(h':EnS R' L' M' S en')(hn:n<=4)(hz:∀ z∈zs,∃ c∈S,z=one c){r:Rm}{u v:Str}(hr:Rch 'e' 'g' (mvsF R L M R' L' M' n zs) r u v) :
  Z7 S u/\Z7 S v/\u.length=v.length/\r=roomF n 'e' 'g' en en' u.cps.toList v.cps.toList:=by
 induction hr with
 | st=>
  refine ⟨fun c hc=>absurd hc gK,fun c hc=>absurd hc gK,rfl,?_⟩;show _=join4 (difL n (D6 _ en [] [])) (difL n (D6 _ en' [] []));rw [bF fun k _=>sI _ _ k,bF fun k _=>sI _ _ k];rfl
 | go _ hm _ _ ih=>
  obtain ⟨i1,i2,i3,i4⟩:=ih;obtain ⟨c,d,hc,hd,rfl⟩:=ait h h' hn hz hm;refine ⟨fun e he=>?_,fun e he=>?_,by rw [iD,iD,i3];rfl,?_⟩
  .rw [y0] at he
   rcases G3.mp he with he | he
   .exact i1 e he
   .rw [E7.mp (show e∈[c] from he)];exact hc
  .rw [y0] at he
   rcases G3.mp he with he | he
   .exact i2 e he
   .rw [E7.mp (show e∈[d] from he)];exact hd
  .rw [y0,y0,i4];exact (yG (by rw [lenL,lenL];exact i3) c d).symm
theorem Rch.even{b:Bool}{ms:List Mv}{r:Rm}{u v:Str}(h:Rch b b' ms r u v):Z6 r=false:=by
 cases h with
 | st=>decide
 | go _ _ _ h=>exact h
theorem aiu{en:Nat->En}{l:List Nat}(hl:l.length=l'.length)(x:Nat):D6 bh en (l++[x]) l' 0=(if D6 bh en l l' 0=0 then 1 else D6 bh en l l' 0)/\D6 bh en l (l'++[x]) 0=if D6 bh en l l' 0=0 then -1 else D6 bh en l l' 0:=by
 have:=yE eR ((en x).1) [] (xs:=l.map fun c=>(en c).1) (ys:=l'.map fun c=>(en c).1) (by simpa using hl)
 refine ⟨?_,?_⟩
 .show cmpG ((l++[x]).map fun c=>(en c).1) (l'.map fun c=>(en c).1)=_;rw [D0];exact this.1
 .show cmpG (l.map fun c=>(en c).1) ((l'++[x]).map fun c=>(en c).1)=_;rw [D0];exact this.2
theorem iE{g:Nat->Int}(hn:0<n)(h:g 0≠0):difL n g=(1,g 0):=x9 hn (fun k hk=>absurd hk (Nat.not_lt_zero k)) h
theorem sJ{g:Nat->Int}(hn:0<n):(difL n g).1=1↔g 0≠0:=by
 rcases lO n g with ⟨e,z⟩ | ⟨i,hi,e,ni,zi⟩
 .rw [e];exact ⟨fun h=>absurd h 'h',fun h=>absurd (z 0 hn) h⟩
 .rw [e]
  constructor
  .intro h
   have:i=0:=by simp only [] at h;lia
   rw [<- this];exact ni
  .intro h
   have:i=0:=Classical.byContradiction fun q=>h (zi 0 'a')
   rw [this];rfl
theorem uah{en en':Nat->En}(h:EnS R L M S en)(h':EnS R' L' M' S en')(hn:n<=4)(mE:0<n)(hz:∀ z∈zs,∃ c∈S,z=one c){u v:Str}(hw:yB 'e' 'g' (mvsF R L M R' L' M' n zs) zs u v) :
  Z7 S u/\Z7 S v/\(difL n (D6 'e' en u.cps.toList v.cps.toList)).2≠(difL n (D6 'g' en' u.cps.toList v.cps.toList)).2:=by
 rcases hw with ⟨r,u0,v0,m,hm,hr,_,ho,rfl,rfl⟩ | ⟨r,u0,v0,z,hr,hu,hd,e⟩
 .obtain ⟨i1,i2,i3,i4⟩:=hr.room h h' hn hz;obtain ⟨c,d,hc,hd,rfl⟩:=ait h h' hn hz hm;refine ⟨fun e he=>?_,fun e he=>?_,fun e=>?_⟩
  .rw [y0] at he
   rcases G3.mp he with he | he
   .exact i1 e he
   .rw [E7.mp (show e∈[c] from he)];exact hc
  .rw [y0] at he
   rcases G3.mp he with he | he
   .exact i2 e he
   .rw [E7.mp (show e∈[d] from he)];exact hd
  .rw [y0,y0] at e;have e2:=yG (n:=n) (bh:=hasW R "behind") (bh':=hasW R' "behind") (en:=en) (en':=en') (l:=u0.cps.toList) (l':=v0.cps.toList) (by rw [lenL,lenL];exact i3) c d;rw [<- i4] at e2;unfold Z6 at ho;rw [nA,decide_eq_false_iff_not] at ho;refine ho ?_;rw [show (one c,one d,roomF n 'e' 'g' en en' [c] [d]).2.2=roomF n 'e' 'g' en en' [c] [d] from rfl,<- e2];exact e
 .obtain ⟨i1,i2,i3,i4⟩:=hr.room h h' hn hz;have i3':u0.cps.toList.length=v0.cps.toList.length:=by rw [lenL,lenL];exact i3
  have he:=hr.even;obtain ⟨x,hx,rfl⟩:=hz z (List.mem_of_mem_head? hd);unfold Z6 at he;rw [mY,decide_eq_true_iff] at he;unfold m3 at hu;rw [nA,decide_eq_false_iff_not,decide_eq_decide] at hu;rw [i4] at hu he
  change (difL n (D6 'e' en u0.cps.toList v0.cps.toList)).2=(difL n (D6 'g' en' u0.cps.toList v0.cps.toList)).2 at he
  change ¬ ((difL n (D6 'e' en u0.cps.toList v0.cps.toList)).1=1↔(difL n (D6 'g' en' u0.cps.toList v0.cps.toList)).1=1) at hu
  rw [sJ mE,sJ mE] at hu;have mK:∀ {g:Nat->Int},g 0≠0->(difL n g).2=g 0:=fun hg=>by rw [iE mE hg]
  have r1:r.2.1=(difL n (D6 'e' en u0.cps.toList v0.cps.toList)).2:=by rw [i4];rfl
  have l1:=aiu (bh:=hasW R "behind") (en:=en) i3' x;have l2:=aiu (bh:=hasW R' "behind") (en:=en') i3' x;have ofx:∀ {w:Str},Z7 S w->Z7 S (w++one x):=fun {w} hw e he=>by
   rw [y0] at he
   rcases G3.mp he with he | he
   .exact hw e he
   .rw [E7.mp (show e∈[x] from he)];exact hx
  have key:∀ (f:Nat->Int) (f':Nat->Int) (t:Int),t≠0->t≠(difL n (D6 'e' en u0.cps.toList v0.cps.toList)).2->f 0=(if D6 'e' en u0.cps.toList v0.cps.toList 0=0 then t else D6 'e' en u0.cps.toList v0.cps.toList 0)->f' 0=(if D6 'g' en' u0.cps.toList v0.cps.toList 0=0 then t else D6 'g' en' u0.cps.toList v0.cps.toList 0)->(difL n f).2≠(difL n f').2:=fun f f' t ht bR e1 e2=>by
   by_cases h0:D6 'e' en u0.cps.toList v0.cps.toList 0=0
   .have h0':D6 'g' en' u0.cps.toList v0.cps.toList 0≠0:=fun q=>hu ⟨fun k=>absurd h0 k,fun k=>absurd q k⟩
    rw [if_pos h0] at e1;rw [if_neg h0'] at e2;rw [mK (g:=f) (by rw [e1];exact ht),mK (g:=f') (by rw [e2];exact h0'),e1,e2];rw [he,mK h0'] at bR;exact bR
   .have h0':D6 'g' en' u0.cps.toList v0.cps.toList 0=0:=Classical.byContradiction fun q=>hu ⟨fun _=>q,fun _=>h0⟩
    rw [if_neg h0] at e1;rw [if_pos h0'] at e2;rw [mK (g:=f) (by rw [e1];exact h0),mK (g:=f') (by rw [e2];exact ht),e1,e2];rw [mK h0] at bR;exact bR.symm
  unfold iC at e
  by_cases hs:r.2.1<0
  .rw [if_pos hs] at e;obtain ⟨rfl,rfl⟩:=Prod.mk.inj e;refine ⟨ofx i1,i2,?_⟩;rw [y0];exact key _ _ 1 'h' (by rw [<- r1];lia) l1.1 l2.1
  .rw [if_neg hs] at e;obtain ⟨rfl,rfl⟩:=Prod.mk.inj e;refine ⟨i1,ofx i2,?_⟩;rw [y0];exact key _ _ (-1) 'h' (by rw [<- r1];lia) l1.2 l2.2
noncomputable def T8 (H:Hp) (a:Addr) (R:List Rl):Prop:=∃ ts,IsRules H a ts R
theorem T8.same(h:T8 H a R)(S:Same H H'):T8 H' a R:=let ⟨ts,h⟩:=h;⟨ts,h.same S⟩
theorem T8.put{t:Addr}{ts:List Addr}{z:Rl}(h:IsRules H a ts R)(ht:H t=some (tupR z)):T8 (A0 H a (.lst (ts.map V.ref++[V.ref t]))) a (R++[z]):=by
 have ne:∀ {c:Addr} {z:Rl},H c=some (tupR z)->A0 H a (.lst (ts.map V.ref++[V.ref t])) c=some (tupR z):=fun {c z} e=>by rw [A7 (ne_of e h.top (fun q=>by cases q))];exact e
 exact ⟨ts++[t],by rw [A3,D0];rfl,Paired.snoc (N9 h.row fun _ _ e=>ne e) (ne ht)⟩
theorem T8.more{t:Addr}{z:Rl}(h:T8 H a R)(hl:R.length<=1000)(S:Same H H3)(ht:H3 t=some (tupR z)):∃ xs,H3 a=some (.lst xs)/\xs.length<sizeLine/\T8 (A0 H3 a (.lst (xs++[V.ref t]))) a (R++[z]):=by
 obtain ⟨ts,h⟩:=h.same S;exact ⟨_,h.top,by rw [A6,h.len];exact L8 'a',T8.put h ht⟩
noncomputable def Y4 (n k:Int):Nat:=(F8 SG ((n+k*x8 n) % 93)).getD 33
theorem oQ(n k:Int):F8 SG ((n+k*x8 n) % 93)=some (Y4 n k)/\signB (Y4 n k)=true:=by
 obtain ⟨c,h1,h2⟩:=SS_at (i:=(n+k*x8 n) % 93) 'a' 'a';rw [SS_eq] at h1;unfold Y4;rw [h1];exact ⟨rfl,h2⟩
theorem ao7{n k l:Int}(h0:0<=k)(h1:k<93)(h2:0<=l)(h3:l<93)(h:Y4 n k=Y4 n l):k=l:=by
 have hl:((SG.length:Nat):Int)=93:=by rw [wI];rfl
 have e:=arB SG_nd (i:=(n+k*x8 n) % 93) (j:=(n+l*x8 n) % 93) 'a' 'a' 'a' 'a' h;obtain ⟨t,_,ht⟩:=akV.2 _ (yC n).2;exact aiV ht e h0 h1 h2 h3
noncomputable def p8 (n:Int) (k:Nat):Str:=one (Y4 n (k:Int))
theorem bG{n:Int}(hi:i<93)(hj:j<93)(h:p8 n i=p8 n j):i=j:=by
 have e:Y4 n i=Y4 n j:=List.singleton_inj.mp (congrArg (fun z:Str=>z.cps.toList) h)
 have:=ao7 'a' 'a' 'a' 'a' e
 lia
noncomputable def poolL (n:Int) (m:Nat):List Str:=(U9 m).map (p8 n)
theorem yH{n:Int}(h:k<m):(poolL n m)[k]?=some (p8 n k):=by
 unfold poolL;rw [U4,List.getElem?_range h];rfl
noncomputable def spSg8:Sp:=fun vs H Q _=>∃ (n k:Int),vs=[.int n,.int k]/\0<=k/\∀ H',Same H H'->Q (.str (one (Y4 n k))) H'
noncomputable def ak2 (K:PySem.W.Frag) (m:Nat):Sp:=fun vs H Q _=>∃ (a:Addr) (ns:List Int),vs=[.ref a]/\D1 K H a (ns.map V.int)/\∀ l H',H l=none->Same H H'->H' l=some (.lst ((poolL (numF ns 0) m).map V.str))->Q (.ref l) H'
noncomputable def anp (K:PySem.W.Frag) (m:Nat):Sp:=fun vs H Q _=>∃ (a:Addr) (ns:List Int),vs=[.ref a]/\D1 K H a (ns.map V.int)/\∀ l H' (ds:List Int),H l=none->Same H H'->H' l=some (.lst (ds.map V.int))->ds.length=m->Q (.ref l) H'
structure Row8(n:Int)(m i:Nat)(ds:List Int)(ls:List Str):Prop where
 nd:ls.Nodup
 mm:∀ p,p∈ls↔p=p8 n m\/p=p8 n (m+1)\/∃ k<i,ds.getD k 0 % 6=0/\p=p8 n k
 le:ls.length<=2+i
theorem Row8.perm{n:Int}(h:Row8 n m i ds ls)(hp:ls'.Perm ls):Row8 n m i ds ls':=
 ⟨hp.nodup_iff.mpr h.nd,fun p=>(hp.mem_iff).trans (h.mm p),by rw [hp.length_eq];exact h.le⟩
theorem uai{n:Int}(hm:m<50):Row8 n m 0 ds [p8 n m,p8 n (m+1)]:=by
 refine ⟨?_,fun p=>?_,C3 _⟩
 .rw [W0];refine ⟨fun h=>?_,by simp⟩
  have:=bG 'a' 'a' (E7.mp h)
  lia
 .simp
theorem Row8.no{n:Int}(h:Row8 n m i ds ls)(hd:¬ ds.getD i 0 % 6=0):Row8 n m (i+1) ds ls:=by
 refine ⟨h.nd,fun p=>?_,by have:=h.le;lia⟩;rw [h.mm p];refine or_congr Iff.rfl (or_congr Iff.rfl ⟨fun ⟨k,hk,e⟩=>⟨k,by lia,e⟩,fun ⟨k,hk,e⟩=>⟨k,?_,e⟩⟩)
 have:k≠i:=fun q=>hd (by rw [<- q];exact e.1)
 lia
theorem Row8.yes{n:Int}(h:Row8 n m i ds ls)(hm:m<50)(hi:i<m)(hd:ds.getD i 0 % 6=0)(hp:ls'.Perm (p8 n i::ls)):Row8 n m (i+1) ds ls':=by
 have iS:p8 n i∉ls:=fun q=>by
  rcases (h.mm _).mp q with e | e | ⟨k,hk,_,e⟩
  .have:=bG 'a' 'a' e;lia
  .have:=bG 'a' 'a' e;lia
  .have:=bG 'a' 'a' e;lia
 refine ⟨hp.nodup_iff.mpr (W0.mpr ⟨iS,h.nd⟩),fun p=>?_,by rw [hp.length_eq,L3];have:=h.le;lia⟩;rw [hp.mem_iff,L4,h.mm p]
 constructor
 .rintro (rfl | e | e | ⟨k,hk,e⟩)
  .exact .inr (.inr ⟨i,by lia,hd,rfl⟩)
  .exact .inl e
  .exact .inr (.inl e)
  .exact .inr (.inr ⟨k,by lia,e⟩)
 .rintro (e | e | ⟨k,hk,e1,e2⟩)
  .exact .inr (.inl e)
  .exact .inr (.inr (.inl e))
  .by_cases jE:k=i
   .rw [jE] at e2;exact .inl e2
   .exact .inr (.inr (.inr ⟨k,by lia,e1,e2⟩))
noncomputable def anq (K:PySem.W.Frag) (m m4:Nat):Sp:=fun vs H Q _=>∃ (p d:Addr) (t n:Int) (ds:List Int),vs=[.ref p,.ref d,.int t]/\H p=some (.lst ((poolL n m4).map V.str))/\H d=some (.lst (ds.map V.int))/\ds.length=m/\∀ l H' ls,H l=none->Same H H'->H' l=some (.lst (ls.map V.str))->Row8 n m m ds ls->Q (.ref l) H'
noncomputable def prt8 (n:Int) (m:Nat) (c:Int):List Str:=if c=3 then [p8 n (m+2)] else if c=4 then [p8 n (m+3)] else if c=5 then [p8 n (m+2),p8 n (m+3)] else []
noncomputable def T9 (n:Int) (m:Nat) (d:Int):Str:=if d / 6 % 2=0 then p8 n m else p8 n (m+1)
noncomputable def R0 (n:Int) (m:Nat) (d:Int) (k:Nat):List Rl:=if d % 6=0 then [] else if d % 6=2 then [('i',[T9 n m d,p8 n k])] else [(("as" : Str),p8 n k::T9 n m d::prt8 n m (d % 6))]
noncomputable def X8 (n:Int) (m:Nat) (ds:List Int) (i:Nat):List Rl:=(U9 i).flatMap fun k=>R0 n m (ds.getD k 0) k
theorem fL(n:Int)(m:Nat)(ds:List Int)(i:Nat):X8 n m ds (i+1)=X8 n m ds i++R0 n m (ds.getD i 0) i:=by
 unfold X8;rw [List.range_succ,b9]
 simp
theorem sK(n:Int)(m:Nat)(ds:List Int):∀ i,(X8 n m ds i).length<=i
 | 0=>C3 _
 | i+1=>by
  rw [fL,D9]
  have:=sK n m ds i
  have:(R0 n m (ds.getD i 0) i).length<=1:=by unfold R0;split;simp;split <;> simp
  lia
theorem X8_mem{n:Int}{z:Rl} : z∈X8 n m ds i↔∃ k<i,z∈R0 n m (ds.getD k 0) k:=by
 unfold X8;rw [U8];exact ⟨fun ⟨k,hk,h⟩=>⟨k,j6.mp hk,h⟩,fun ⟨k,hk,h⟩=>⟨k,j6.mpr hk,h⟩⟩
theorem sL{n:Int}{d:Int}{z:Rl}(h:z∈R0 n m d k):cT z=p8 n k/\¬ d % 6=0:=by
 unfold R0 at h
 split at h
 .cases h
 .rename_i h0
  split at h
  .rw [E7.mp h];exact ⟨rfl,h0⟩
  .rw [E7.mp h];exact ⟨rfl,h0⟩
theorem X8_nd{n:Int} : ∀ {i:Nat},i<=50->((X8 n m ds i).map cT).Nodup
 | 0,_=>by simp [X8]
 | i+1,h=>by
  rw [fL,D0];refine Y9.mpr ⟨X8_nd 'a',?_,fun a ha b hb e=>?_⟩
  .unfold R0
   split
   .simp
   .split <;> simp
  .obtain ⟨z,hz,rfl⟩:=C6.mp ha;obtain ⟨k,hk,hz⟩:=X8_mem.mp hz;obtain ⟨z',Q1,rfl⟩:=C6.mp hb;rw [(sL hz).1,(sL Q1).1] at e
   have:=bG 'a' 'a' e
   lia
noncomputable def lP (n:Int) (m:Nat) (ms:List Str):Prop:=ms=[p8 n (m+2),p8 n (m+3)]\/ms=[p8 n (m+3),p8 n (m+2)]
theorem lP.mem{n:Int}(h:lP n m ms){p:Str} : p∈ms↔p=p8 n (m+2)\/p=p8 n (m+3):=by
 rcases h with rfl | rfl <;> simp [or_comm]
theorem yI{n:Int}{c:Int}(h:q∈prt8 n m c):q=p8 n (m+2)\/q=p8 n (m+3):=by
 unfold prt8 at h
 split at h
 .exact .inl (E7.mp h)
 .split at h
  .exact .inr (E7.mp h)
  .split at h
   .simpa using h
   .cases h
theorem anr{n:Int}(hm:m<=10)(hr:Row8 n m m ds ls)(hk:lP n m ms):Sh8 ls ms (X8 n m ds m):=by
 have hb:∀ d,T9 n m d∈ls:=fun d=>by
  unfold T9;rw [hr.mm]
  split
  .exact .inl rfl
  .exact .inr 'f'
 have lsj:∀ p∈ls,∃ k<m+2,p=p8 n k/\(k<m->ds.getD k 0 % 6=0):=fun p hp=>by
  rcases (hr.mm p).mp hp with e | e | ⟨k,hk,h0,e⟩
  .exact ⟨m,by lia,e,fun h=>absurd h (c9 _)⟩
  .exact ⟨m+1,by lia,e,fun h=>by lia⟩
  .exact ⟨k,by lia,e,fun _=>h0⟩
 have xj:∀ p∈(X8 n m ds m).map cT,∃ k<m,p=p8 n k/\¬ ds.getD k 0 % 6=0:=fun p hp=>by
  obtain ⟨z,hz,rfl⟩:=C6.mp hp;obtain ⟨k,hk,hz⟩:=X8_mem.mp hz;exact ⟨k,hk,(sL hz).1,(sL hz).2⟩
 have msj:∀ p∈ms,∃ k,m+2<=k/\k<m+4/\p=p8 n k:=fun p hp=>by
  rcases hk.mem.mp hp with e | e
  .exact ⟨m+2,by lia,by lia,e⟩
  .exact ⟨m+3,by lia,by lia,e⟩
 refine ⟨fun z hz=>?_,Y9.mpr ⟨?_,Y9.mpr ⟨X8_nd 'a',hr.nd,fun a ha b hb e=>?_⟩,fun a ha b hb e=>?_⟩,fun p hp=>?_,by have:=hr.le;lia,by rcases hk with rfl | rfl <;> simp,by have:=sK n m ds m;lia⟩
 .obtain ⟨k,jD,hz⟩:=X8_mem.mp hz;unfold R0 at hz
  split at hz
  .cases hz
  .split at hz
   .exact .inl ⟨_,_,hb _,E7.mp hz⟩
   .refine .inr ⟨_,_,_,hb _,fun q hq=>hk.mem.mpr (yI hq),?_,E7.mp hz⟩;unfold prt8
    split
    .simp
    .split
     .simp
     .split <;> simp
 .have G9:p8 n (m+2)≠p8 n (m+3):=fun e=>by have:=bG 'a' 'a' e;lia
  rcases hk with rfl | rfl
  .simp [G9]
  .simp [G9.symm]
 .obtain ⟨k,hk,e1,h1⟩:=xj a ha;obtain ⟨j,hj,e2,h2⟩:=lsj b hb
  have:=bG 'a' 'a' (e1.symm.trans (e.trans e2))
  subst this;exact h1 (h2 hk)
 .obtain ⟨k,hk1,jD,e1⟩:=msj a ha
  have:∃ j<m+2,b=p8 n j:=by
   rcases G3.mp hb with hb | hb
   .obtain ⟨j,hj,e2,_⟩:=xj b hb;exact ⟨j,by lia,e2⟩
   .obtain ⟨j,hj,e2,_⟩:=lsj b hb;exact ⟨j,hj,e2⟩
  obtain ⟨j,hj,e2⟩:=this
  have:=bG 'a' 'a' (e1.symm.trans (e.trans e2))
  lia
 .have:∃ j,p=p8 n j:=by
   rcases G3.mp hp with hp | hp
   .obtain ⟨k,_,_,e⟩:=msj p hp;exact ⟨k,e⟩
   rcases G3.mp hp with hp | hp
   .obtain ⟨k,_,e,_⟩:=xj p hp;exact ⟨k,e⟩
   .obtain ⟨k,_,e,_⟩:=lsj p hp;exact ⟨k,e⟩
  obtain ⟨j,rfl⟩:=this;exact ⟨_,rfl,(oQ n j).2⟩
noncomputable def L6 (R:List Rl) (L M:List Str) (c:Nat):En:=match stepF R L M (one c) with
 | s::r=>(s.2.1,r.map (·.2.1),s.2.2)
 | []=>(0,[],0)
theorem sM{c:Nat}{i k:Int}{js:List Int}(h:stepF R L M (one c)=(2,i,k)::js.map fun j=>(0,j,0)):L6 R L M c=(i,js,k):=by
 unfold L6;rw [h];simp [Function.comp_def]
structure O8(n:Int)(m:Nat)(ds:List Int)(ls ms:List Str)(bh:Bool)(R:List Rl)(L M:List Str):Prop where
 rd:R=R8 ls ms (X8 n m ds m) bh
 rw8:Row8 n m m ds ls
 mk8:lP n m ms
 m10:m<=10
 l1:Q6 R "row" L
 l2:Q6 R "marks" M
theorem O8.sh{n:Int}(h:O8 n m ds ls ms bh R L M):Sh8 ls ms (X8 n m ds m):=anr h.m10 h.rw8 h.mk8
theorem O8.row{n:Int}(h:O8 n m ds ls ms bh R L M){c:Nat}(hc:one c∈ls):stepF R L M (one c)=[(2,(ls.idxOf (one c):Int),0)]:=by
 have:=h.rd
 subst this;exact h.sh.sl h.l1 h.l2 hc
theorem O8.bsm{n:Int}(h:O8 n m ds ls ms bh R L M)(d:Int):T9 n m d∈ls:=by
 unfold T9;rw [h.rw8.mm]
 split
 .exact .inl rfl
 .exact .inr 'f'
theorem O8.grt{n:Int}(h:O8 n m ds ls ms bh R L M)(hk:k<m)(h2:ds.getD k 0 % 6=2):stepF R L M (p8 n k)=[(2,(ls.idxOf (T9 n m (ds.getD k 0)):Int),(((D8 (X8 n m ds k) (T9 n m (ds.getD k 0))).length+1:Nat):Int))]:=by
 have:=h.rd
 subst this;have hz:R0 n m (ds.getD k 0) k=[('i',[T9 n m (ds.getD k 0),p8 n k])]:=by unfold R0;rw [if_neg 'a',if_pos h2]
 refine h.sh.sg h.l1 h.l2 (X8_mem.mpr ⟨k,hk,by rw [hz];exact N2⟩) ?_;have fa:∀ A B y,D8 (A++B) y=D8 A y++D8 B y:=fun A B y=>by unfold D8;rw [cM,bZ,b9]
 have pre:∀ j,k<j->∃ more,D8 (X8 n m ds j) (T9 n m (ds.getD k 0))=D8 (X8 n m ds k) (T9 n m (ds.getD k 0))++p8 n k::more:=fun j hj=>by
  induction j with
  | zero=>lia
  | succ j ih=>
   rw [fL,fa]
   by_cases e:j=k
   .subst e;rw [hz];refine ⟨[],?_⟩
    have:D8 [('i',[T9 n m (ds.getD j 0),p8 n j])] (T9 n m (ds.getD j 0))=[p8 n j]:=by
     unfold D8 L0;rw [bY,if_pos rfl]
     simp
    rw [this]
   .obtain ⟨more,e2⟩:=ih 'a';exact ⟨more++D8 (R0 n m (ds.getD j 0) j) (T9 n m (ds.getD k 0)),by rw [e2];simp⟩
 obtain ⟨more,e⟩:=pre m hk;rw [e,gG (C3 _),Nat.sub_self];rfl
theorem O8.cnt{n:Int}(h:O8 n m ds ls ms bh R L M)(hk:k<m)(h0:¬ ds.getD k 0 % 6=0)(h2:¬ ds.getD k 0 % 6=2):stepF R L M (p8 n k)=(2,(ls.idxOf (T9 n m (ds.getD k 0)):Int),0)::(prt8 n m (ds.getD k 0 % 6)).map fun q=>(0,(ms.idxOf q:Int),0):=by
 have:=h.rd
 subst this;refine h.sh.sa h.l1 h.l2 (h.bsm _) (fun q hq=>h.mk8.mem.mpr (yI hq)) (X8_mem.mpr ⟨k,hk,?_⟩);unfold R0;rw [if_neg h0,if_neg h2];exact N2
noncomputable def sg8L (n:Int) (m:Nat):List Nat:=(U9 m).map fun k:Nat=>Y4 n (k:Int)
theorem O8.ens{n:Int}(h:O8 n m ds ls ms bh R L M):EnS R L M (sg8L n (m+2)) (L6 R L M):=by
 have sh:=h.sh;have e:=h.rd;have inn:∀ k:Nat,k<m+2->(k<m/\¬ ds.getD k 0 % 6=0)\/p8 n k∈ls:=fun k hk=>by
  by_cases fV:k<m
  .by_cases h0:ds.getD k 0 % 6=0
   .exact .inr ((h.rw8.mm _).mpr (.inr (.inr ⟨k,fV,h0,rfl⟩)))
   .exact .inl ⟨fV,h0⟩
  .refine .inr ((h.rw8.mm _).mpr ?_)
   by_cases hm:k=m
   .exact .inl (by rw [hm])
   .exact .inr (.inl (by rw [show k=m+1 by lia]))
 refine ⟨by rw [e];exact sh.has.1,fun p hp=>?_,fun c hc=>?_,fun c hc=>?_⟩
 .rw [e] at hp;obtain ⟨c,e,_⟩:=sh.on p (sh.known.mp hp);exact ⟨c,e⟩
 .obtain ⟨k,hk,rfl⟩:=C6.mp hc;have hk:=j6.mp hk;rw [e];refine sh.known.mpr (N7 _ ?_)
  rcases inn k hk with ⟨fV,h0⟩ | hl
  .refine Q3 _ (C6.mpr ?_)
   by_cases h2:ds.getD k 0 % 6=2
   .exact ⟨_,X8_mem.mpr ⟨k,fV,by unfold R0;rw [if_neg h0,if_pos h2];exact N2⟩,rfl⟩
   .exact ⟨_,X8_mem.mpr ⟨k,fV,by unfold R0;rw [if_neg h0,if_neg h2];exact N2⟩,rfl⟩
  .exact N7 _ hl
 .obtain ⟨k,hk,rfl⟩:=C6.mp hc;have hk:=j6.mp hk;have key:∀ {i c:Int} {js:List Int},stepF R L M (one (Y4 n (k:Int)))=(2,i,c)::(js.map fun j=>(0,j,0))->stepF R L M (one (Y4 n (k:Int)))=(2,(L6 R L M (Y4 n (k:Int))).1,(L6 R L M (Y4 n (k:Int))).2.2)::(L6 R L M (Y4 n (k:Int))).2.1.map fun j=>(0,j,0):=fun {i c js} hs=>by rw [sM hs];exact hs
  rcases inn k hk with ⟨fV,h0⟩ | hl
  .by_cases h2:ds.getD k 0 % 6=2
   .exact key (js:=[]) (h.grt fV h2)
   .refine key (i:=(ls.idxOf (T9 n m (ds.getD k 0)):Int)) (c:=0) (js:=(prt8 n m (ds.getD k 0 % 6)).map fun q=>(ms.idxOf q:Int)) ?_;rw [R3];exact h.cnt fV h0 h2
  .exact key (js:=[]) (h.row hl)
noncomputable def y3 (n:Int) (m:Nat) (ds:List Int) (ls ms:List Str) (y:Str) (e:En):Prop:=(y∈ls/\e=((ls.idxOf y:Int),[],0))\/∃ k<m,y=p8 n k/\¬ ds.getD k 0 % 6=0/\((ds.getD k 0 % 6=2/\e=((ls.idxOf (T9 n m (ds.getD k 0)):Int),[],(((D8 (X8 n m ds k) (T9 n m (ds.getD k 0))).length+1:Nat):Int)))\/(¬ ds.getD k 0 % 6=2/\e=((ls.idxOf (T9 n m (ds.getD k 0)):Int),(prt8 n m (ds.getD k 0 % 6)).map fun q=>(ms.idxOf q:Int),0)))
theorem y3.en{n:Int}(h:O8 n m ds ls ms bh R L M){c:Nat}{e:En}(ht:y3 n m ds ls ms (one c) e):L6 R L M c=e:=by
 rcases ht with ⟨hl,rfl⟩ | ⟨k,hk,hy,h0,⟨h2,rfl⟩ | ⟨h2,rfl⟩⟩
 .exact sM (js:=[]) (h.row hl)
 .have:=h.grt hk h2
  rw [<- hy] at this;exact sM (js:=[]) this
 .have:=h.cnt hk h0 h2
  rw [<- hy] at this;refine sM ?_;rw [R3];exact this
noncomputable def EnAt (H:Hp) (p q:Addr) (e:En):Prop:=H p=some (.tup [.int e.1,.ref q,.int e.2.2])/\H q=some (.tup (e.2.1.map V.int))
theorem EnAt.same{q:Addr}{e:En}(h:EnAt H p q e)(S:Same H H'):EnAt H' p q e:=⟨S _ _ h.1,S _ _ h.2⟩
noncomputable def IsTb (T:Str->En->Prop) (H:Hp) (d:Addr) (ks:List Str):Prop:=∃ (ad mt:Str->Addr) (F:Str->En),H d=some (.dK (C2 ks fun y=>.ref (ad y)))/\∀ y∈ks,T y (F y)/\EnAt H (ad y) (mt y) (F y)
theorem IsTb.same{T:Str->En->Prop}{d:Addr}(h:IsTb T H d ks)(S:Same H H'):IsTb T H' d ks:=
 let ⟨ad,mt,F,h1,h2⟩:=h
 ⟨ad,mt,F,S _ _ h1,fun y hy=>⟨(h2 y hy).1,(h2 y hy).2.same S⟩⟩
theorem IsTb.mono{T T':Str->En->Prop}{d:Addr}(h:IsTb T H d ks)(hT:∀ y e,T y e->T' y e):IsTb T' H d ks:=
 let ⟨ad,mt,F,h1,h2⟩:=h
 ⟨ad,mt,F,h1,fun y hy=>⟨hT _ _ (h2 y hy).1,(h2 y hy).2⟩⟩
theorem IsTb.top{T:Str->En->Prop}{d:Addr}(h:IsTb T H d ks):∃ kvs,H d=some (.dK kvs)/\kvs.length=ks.length:=by
 obtain ⟨ad,mt,F,h1,h2⟩:=h;exact ⟨_,h1,k8 _ _⟩
theorem IsTb.get{T:Str->En->Prop}{d:Addr}(h:IsTb T H d ks)(hy:y∈ks):∃ p q e,DGet H d (.str y) (some (.ref p))/\T y e/\EnAt H p q e:=by
 obtain ⟨ad,mt,F,h1,h2⟩:=h
 have:DGet H d (kV (Sum.inr y)) (valV (C2 ks fun y=>V.ref (ad y)) (Sum.inr y)):=f6 h1
 rw [Q5,if_pos hy] at this;exact ⟨ad y,mt y,F y,this,h2 y hy⟩
theorem IsTb.putL{T:Str->En->Prop}{d:Addr}{o:HO}(h:IsTb T H d ks)(hf:H f=some (.lst xs)):IsTb T (A0 H f o) d ks:=by
 obtain ⟨ad,mt,F,h1,h2⟩:=h;refine ⟨ad,mt,F,by rw [A7 (ne_of h1 hf (fun z=>by cases z))];exact h1,fun y hy=>⟨(h2 y hy).1,?_,?_⟩⟩
 .rw [A7 (ne_of (h2 y hy).2.1 hf (fun z=>by cases z))];exact (h2 y hy).2.1
 .rw [A7 (ne_of (h2 y hy).2.2 hf (fun z=>by cases z))];exact (h2 y hy).2.2
theorem IsTb.put{T:Str->En->Prop}{d:Addr}(h:IsTb T H d ks)(hl:ks.length<=1000){l:Str}{q:Addr}{e:En}(ht:T l e)(he:EnAt H p q e):∃ x,DPut H d (V.str l) (V.ref p) x/\IsTb T x d (dd ks l)/\∃ o,x=A0 H d o:=by
 obtain ⟨ad,mt,F,h1,h2⟩:=h;refine ⟨_,cI (k:=Sum.inr l) h1 (by rw [k8];exact L8 'a'),⟨fun y=>if y=l then p else ad y,fun y=>if y=l then q else mt y,fun y=>if y=l then e else F y,?_,fun y hy=>?_⟩,_,rfl⟩
 .rw [A3];have e:∀ t,(if t=l then V.ref p else V.ref (ad t))=V.ref (if t=l then p else ad t):=fun t=>by
   by_cases h:t=l
   .rw [if_pos h,if_pos h]
   .rw [if_neg h,if_neg h]
  unfold dd
  by_cases hl:l∈ks
  .rw [if_pos hl,nS _ hl];exact congrArg (fun x=>some (HO.dK x)) (V4 fun t _=>e t)
  .rw [if_neg hl,fA _ hl];exact congrArg (fun x=>some (HO.dK x)) (V4 fun t _=>e t)
 .have tu:∀ {c:Addr} {xs:List V} {o:HO},H c=some (.tup xs)->A0 H d o c=some (.tup xs):=fun {c xs o} e=>by rw [A7 (ne_of e h1 (fun z=>by cases z))];exact e
  by_cases h:y=l
  .subst h;simp only [if_true];exact ⟨ht,tu he.1,tu he.2⟩
  .simp only [if_neg h];have z9:y∈ks:=by
    unfold dd at hy
    by_cases hl:l∈ks
    .rw [if_pos hl] at hy;exact hy
    .rw [if_neg hl] at hy
     rcases G3.mp hy with q | q
     .exact q
     .exact absurd (E7.mp q) h
   exact ⟨(h2 y z9).1,tu (h2 y z9).2.1,tu (h2 y z9).2.2⟩
structure MadeT(C:Addr)(H:Hp)(t:Addr)(n:Int)(m:Nat)(bh:Bool)(R:List Rl)(L M:List Str):Prop where
 ex:∃ (x d:Addr) (ks:List Str),H t=some (.tup [.ref x,.ref d,.bl bh])/\OrdC C H x R L M/\IsTb (fun y e=>∃ c,y=one c/\L6 R L M c=e) H d ks/\∀ k<m+2,p8 n k∈ks
 en:EnS R L M (sg8L n (m+2)) (L6 R L M)
 bh:hasW R "behind"=bh
 st:∀ y,(stepF R L M y).length<=15
 two:∀ c d,two c d∉G4 R
theorem MadeT.same{t:Addr}{n:Int}(h:MadeT C H t n m bh R L M)(S:Same H H'):MadeT C H' t n m bh R L M:=
 let ⟨x,d,ks,h1,h2,h3,h4⟩:=h.ex
 ⟨⟨x,d,ks,S _ _ h1,h2.same S,h3.same S,h4⟩,h.en,h.bh,h.st,h.two⟩
noncomputable def ak3 (C:Addr) (m m4:Nat):Sp:=fun vs H Q _=>∃ (p d s:Addr) (n s0 s1 s2:Int) (ds:List Int),vs=[.ref p,.ref d,.ref s]/\H p=some (.lst ((poolL n m4).map V.str))/\H d=some (.lst (ds.map V.int))/\H s=some (.lst [.int s0,.int s1,.int s2])/\ds.length=m/\(s1=0\/s1=1)/\
 ∀ t H' R L M,H t=none->Same H H'->MadeT C H' t n m (decide (s2=1)) R L M->(∀ f xs o,H f=some (.lst xs)->MadeT C (A0 H' f o) t n m (decide (s2=1)) R L M)->Q (.ref t) H'
noncomputable def ak4 (K:PySem.W.Frag) (C:Addr) (m m4:Nat):Sp:=fun vs H Q _=>∃ (a p:Addr) (n:Int) (ns:List Int),vs=[.ref a,.ref p]/\D1 K H a (ns.map V.int)/\H p=some (.lst ((poolL n m4).map V.str))/\
 ∀ t t1 t2 H' b1 b2 R L M R' L' M',H t=none->Same H H'->H' t=some (.tup [.ref t1,.ref t2])->MadeT C H' t1 n m b1 R L M->MadeT C H' t2 n m b2 R' L' M'->Q (.ref t) H'
noncomputable def ak5 (K:PySem.W.Frag) (m m4:Nat):Sp:=fun vs H Q _=>∃ (a p:Addr) (k:Nat) (n:Int) (ns:List Int),vs=[.ref a,.ref p,.int k]/\D1 K H a (ns.map V.int)/\H p=some (.lst ((poolL n m4).map V.str))/\k<=m/\
 ∀ l H' (zs:List Str),H l=none->Same H H'->H' l=some (.lst (zs.map V.str))->zs.length<=m->(∀ z∈zs,∃ j<m+2,z=p8 n j)->Q (.ref l) H'
noncomputable def cV (bh:Bool) (en:Nat->En) (z:Str) (k:Nat):LvD:=match k with
 | 0=>.ii (z.cps.toList.map fun c=>(en c).1)
 | 1=>.tt ((if bh=true then z.cps.toList.reverse else z.cps.toList).map fun c=>(en c).2.1)
 | 2=>.ii (z.cps.toList.map fun c=>(en c).2.2)
 | _=>.ss z
noncomputable def SdAt (H:Hp) (l:Addr) (d:LvD):Prop:=match d with
 | .ss z=>H l=some (.lst [.str z])
 | d=>LvAt H (.ref l) d
noncomputable def aiy (K:PySem.W.Frag) (C:Addr) (m:Nat):Sp:=fun vs H Q _=>∃ (t:Addr) (z:Str) (k:Nat) (n:Int) (bh:Bool) (R:List Rl) (L M:List Str),vs=[.str z,.ref t,.int ((k+1:Nat):Int)]/\k<4/\MadeT C H t n m bh R L M/\Z7 (sg8L n (m+2)) z/\z.length<=500/\∀ l H',H l=none->Same H H'->SdAt H' l (cV bh (L6 R L M) z k)->Q (.ref l) H'
noncomputable def ans (K:PySem.W.Frag) (C:Addr) (m:Nat):Sp:=fun vs H Q _=>∃ (t:Addr) (z z':Str) (k:Nat) (n:Int) (bh:Bool) (R:List Rl) (L M:List Str),vs=[.str z,.str z',.ref t,.int k]/\k<=4/\MadeT C H t n m bh R L M/\Z7 (sg8L n (m+2)) z/\Z7 (sg8L n (m+2)) z'/\z.length<=500/\z'.length<=500/\∀ H',Same H H'->Q (.int (difL k (D6 bh (L6 R L M) z.cps.toList z'.cps.toList)).2) H'
theorem T8.putL{o:HO}(h:T8 H a R)(hf:H f=some (.lst xs))(ne:f≠a):T8 (A0 H f o) a R:=by
 obtain ⟨ts,h⟩:=h;exact ⟨ts,by rw [A7 ne.symm];exact h.top,N9 h.row fun _ _ e=>by rw [A7 (ne_of e hf (fun z=>by cases z))];exact e⟩
theorem T8.putD{o:HO}(h:T8 H a R)(hf:H f=some (.dK kvs)):T8 (A0 H f o) a R:=by
 obtain ⟨ts,h⟩:=h;exact ⟨ts,by rw [A7 (ne_of h.top hf (fun z=>by cases z))];exact h.top,N9 h.row fun _ _ e=>by rw [A7 (ne_of e hf (fun z=>by cases z))];exact e⟩
structure MdI(Hb H2:Hp)(rl tb fo:Addr)(T:Str->En->Prop)(ks:List Str)(R:List Rl)(a0 a1:Nat):Prop where
 same:Same Hb H2
 ru:T8 H2 rl R
 tab:IsTb T H2 tb ks
 fm:H2 fo=some (.lst [.int a0,.int a1])
 ne:fo≠rl
theorem MdI.more{tb:Addr}{T:Str->En->Prop}(h:MdI Hb H2 rl tb fo T ks R a0 a1)(S:Same H2 H3):MdI Hb H3 rl tb fo T ks R a0 a1:=⟨h.same.trans S,h.ru.same S,h.tab.same S,S _ _ h.fm,h.ne⟩
theorem MdI.rule{tb t:Addr}{T:Str->En->Prop}{z:Rl}(h:MdI Hb H3 rl tb fo T ks R a0 a1)(n:Hb rl=none)(hl:R.length<=1000)(ht:H3 t=some (tupR z)):∃ xs,H3 rl=some (.lst xs)/\xs.length<sizeLine/\MdI Hb (A0 H3 rl (.lst (xs++[V.ref t]))) rl tb fo T ks (R++[z]) a0 a1:=by
 obtain ⟨xs,e1,e2,e3⟩:=h.ru.more hl (aQ H3) ht;exact ⟨xs,e1,e2,h.same.put n,e3,h.tab.putL e1,by rw [A7 h.ne];exact h.fm,h.ne⟩
theorem MdI.put{tb q:Addr}{T:Str->En->Prop}{l:Str}{e:En}(h:MdI Hb H3 rl tb fo T ks R a0 a1)(n:Hb tb=none)(hl:ks.length<=1000)(ht:T l e)(he:EnAt H3 p q e):∃ x,DPut H3 tb (V.str l) (V.ref p) x/\MdI Hb x rl tb fo T (dd ks l) R a0 a1:=by
 obtain ⟨kvs,hk,_⟩:=h.tab.top;obtain ⟨x,h1,h2,o,rfl⟩:=h.tab.put hl ht he;exact ⟨_,h1,h.same.put n,h.ru.putD hk,h2,by rw [A7 (ne_of h.fm hk (fun z=>by cases z))];exact h.fm,h.ne⟩
theorem MdI.form{tb:Addr}{T:Str->En->Prop}{b0 b1:Nat}(h:MdI Hb H3 rl tb fo T ks R a0 a1)(n:Hb fo=none):MdI Hb (A0 H3 fo (.lst [.int b0,.int b1])) rl tb fo T ks R b0 b1:=
 ⟨h.same.put n,h.ru.putL h.fm h.ne,h.tab.putL h.fm,A3,h.ne⟩
noncomputable def O6 (n:Int) (m:Nat) (ds:List Int) (i g:Nat):Nat:=(D8 (X8 n m ds i) (p8 n (m+g))).length
theorem agM(A B:List Rl)(y:Str):D8 (A++B) y=D8 A y++D8 B y:=by unfold D8;rw [cM,bZ,b9]
theorem arU{n:Int}{g:Nat}(h2:¬ ds.getD i 0 % 6=2):O6 n m ds (i+1) g=O6 n m ds i g:=by
 unfold O6;rw [fL,agM,D9]
 have:D8 (R0 n m (ds.getD i 0) i) (p8 n (m+g))=[]:=by
  unfold R0
  by_cases h0:ds.getD i 0 % 6=0
  .rw [if_pos h0];rfl
  .rw [if_neg h0,if_neg h2];unfold D8;rw [fC (show Str.ofString "as"≠Str.ofString "great" by decide +kernel)];rfl
 rw [this];rfl
theorem bs8_g{n:Int}{d:Int}{g:Nat}(hg:d / 6 % 2=g):T9 n m d=p8 n (m+g):=by
 unfold T9
 rcases (show g=0\/g=1 by lia) with rfl | rfl
 .rw [if_pos (by simpa using hg)];rfl
 .rw [if_neg 'a']
theorem ao8{n:Int}{g g':Nat}(hm:m<=50)(h2:ds.getD i 0 % 6=2)(hg:ds.getD i 0 / 6 % 2=g)(iW:g'<=1):O6 n m ds (i+1) g'=O6 n m ds i g'+if g'=g then 1 else 0:=by
 unfold O6;rw [fL,agM,D9];have e:R0 n m (ds.getD i 0) i=[('i',[p8 n (m+g),p8 n i])]:=by unfold R0;rw [if_neg 'a',if_pos h2,bs8_g hg]
 rw [e]
 congr 1
 unfold D8 L0;rw [bY,if_pos rfl]
 by_cases h:g'=g
 .rw [if_pos h,h];simp
 .rw [if_neg h]
  have:¬ p8 n (m+g)=p8 n (m+g'):=fun q=>h (by have:=bG 'a' 'a' q;lia)
  simp [this]
theorem dd_mem{l:Str} : y∈dd ks l↔y∈ks\/y=l:=by
 unfold dd
 split
 .rename_i h
  exact ⟨.inl,fun q=>q.elim id fun e=>by rw [e];exact h⟩
 .simp
theorem yJ(ks:List Str)(l:Str):(dd ks l).length<=ks.length+1:=by
 unfold dd
 split
 .lia
 .simp
theorem MadeT.mk8{t x d:Addr}{n:Int}(ht:H t=some (.tup [.ref x,.ref d,.bl bh]))(hO:OrdC C H x R L M)(h:O8 n m ds ls ms bh R L M)(hT:IsTb (y3 n m ds ls ms) H d ks)(hk:∀ k<m+2,p8 n k∈ks):MadeT C H t n m bh R L M:=by
 have sh:=h.sh;have e:=h.rd;have dI:∀ y e,y3 n m ds ls ms y e->∃ c,y=one c:=fun y e hy=>by
  rcases hy with ⟨hl,_⟩ | ⟨k,_,hy,_⟩
  .obtain ⟨c,e,_⟩:=sh.on y (N7 _ (N7 _ hl));exact ⟨c,e⟩
  .exact ⟨_,hy⟩
 refine ⟨⟨x,d,ks,ht,hO,hT.mono fun y e hy=>?_,hk⟩,h.ens,by rw [e];exact sh.has.2.1,fun y=>by rw [e];exact sh.steps L M y,fun c d q=>?_⟩
 .obtain ⟨c,rfl⟩:=dI y e hy;exact ⟨c,rfl,hy.en h⟩
 .obtain ⟨a,e2⟩:=h.ens.kn _ q;have e1:[c,d]=[a]:=congrArg (fun z:Str=>z.cps.toList) e2;cases e1
@[elab_as_elim] theorem newQ {H:Hp} {p:Addr} {o:HO} {G:Hp->Prop} (K0:Hp) (S:Same H K0) (e:K0 p=some o) (h:∀ K,Same H K->K p=some o->G K):G K0:=h K0 S e
theorem newT{o:HO}(n:H p=none):∃ H',A0 H p o=H'/\Same H H'/\H' p=some o:=⟨_,rfl,Same.new n,A3⟩
theorem y3.base{n:Int}{g:Nat}{e:En}(hm:m<=10)(hg:g<=1)(h:y3 n m ds ls ms (p8 n (m+g)) e):e=((ls.idxOf (p8 n (m+g)):Int),[],0):=by
 rcases h with ⟨_,rfl⟩ | ⟨k,hk,e,_⟩
 .rfl
 .have:=bG 'a' 'a' e
  lia
theorem addT(h1:H a=some (.tup xs))(h2:H b=some (.tup ys))(h0:xs≠[])(h3:xs.length+ys.length<=sizeLine)(q:∀ t H',Same H H'->H' t=some (.tup (xs++ys))->Q (.ref t) H'):rAddR K a b H Q:=
 rAddR.t (.of h1) (.of h2) h0 h3 (fun e=>q a H (aQ _) (by rw [e,M8];exact h1)) fun _ p np=>q p _ (Same.new np) A3
theorem amL(n:Int)(m:Nat)(c:Int):(prt8 n m c).length<=2:=by
 unfold prt8
 split
 .simp
 .split
  .simp
  .split <;> simp
theorem afs{α β:Type}{F:α->β->Prop} : ∀ {l₁ zb:List α} {l₂ za:List β},Paired F l₁ l₂->Paired F zb za->Paired F (l₁++zb) (l₂++za)
 | _,_,_,_,.nil,h=>h
 | _,_,_,_,.cons r t,h=>.cons r (afs t h)
theorem ao9{x j:Addr}{g:Str->Str}{o:HO}(h:IsOrd C H x j ll ml md g R L M)(hf:H f=some (.lst xs))(n1:ll≠f)(n2:ml≠f):IsOrd C (A0 H f o) x j ll ml md g R L M:=by
 obtain ⟨dx,ho⟩:=h.ob;have nd:md≠f:=by
  obtain ⟨ad,h1,_⟩:=h.made;exact ne_of h1 hf (fun z=>by cases z)
 exact ⟨⟨dx,by rw [A7 (ne_of ho hf (fun z=>by cases z))];exact ho⟩,by rw [A7 (ne_of h.jobs hf (fun z=>by cases z))];exact h.jobs,by rw [A7 n1];exact h.lets,by rw [A7 n2];exact h.mrks,h.made.mod hf (fun _ z=>by cases z) nd,h.l1,h.l2⟩
theorem init8{H6:Hp}{x dx:Addr}{n:Int}{E:XK}(hR:T8 H6 r (R8 ls ms (X8 n m ds m) bh))(nx:H6 x=none)(ndx:H6 dx=none)(ne:dx≠x)(hm:m<=10)(hr:Row8 n m m ds ls)(hk:lP n m ms)(hQ:∀ H9 L M,Same H6 H9->(∀ H',Same H9 H'->OrdC C H' x (R8 ls ms (X8 n m ds m) bh) L M/\∀ f xs o,H6 f=some (.lst xs)->OrdC C (A0 H' f o) x (R8 ls ms (X8 n m ds m) bh) L M)->O8 n m ds ls ms bh (R8 ls ms (X8 n m ds m) bh) L M->Q .non H9):rZ C [.ref x,.ref r] (A0 (A0 H6 dx (.own x)) x (.ins C dx [])) Q E:=by
 have sh:=anr hm hr hk;obtain ⟨ts,hR⟩:=hR;have S8:Same H6 (A0 (A0 H6 dx (.own x)) x (.ins C dx [])):=(Same.new ndx).trans (Same.new (by rw [A7 ne.symm];exact nx));have uA:A0 (A0 H6 dx (.own x)) x (.ins C dx []) x=some (.ins C dx []):=A3;generalize A0 (A0 H6 dx (.own x)) x (.ins C dx [])=H8 at S8 uA;have sty:∀ L M y,(stepY (R8 ls ms (X8 n m ds m) bh) L M y).length<=15:=fun L M y=>by
  unfold L2.stepY
  split
  .show 1<=15;decide
  .exact sh.steps L M y
 refine ⟨x,dx,r,ts,_,_,_,_,rfl,uA,hR.same S8,sh.good,fun j ll ml md L M H9 nj nll nml nmd B9 hO=>?_⟩;have S9:Same H6 H9:=fun b o hb=>B9 _ _ (fun e=>by rw [e,nx] at hb;cases hb) (S8 _ _ hb)
 refine hQ H9 L M S9 (fun H' S'=>⟨⟨⟨j,ll,ml,md,hO.same S'⟩,sh.knownL,sty L M⟩,fun f xs o hf=>⟨⟨j,ll,ml,md,ao9 (hO.same S') ((S9.trans S') _ _ hf) (fun e=>?_) (fun e=>?_)⟩,sh.knownL,sty L M⟩⟩) ⟨rfl,hr,hk,hm,hO.l1,hO.l2⟩
 .have:=S8 _ _ hf
  rw [<- e,nll] at this
  cases this
 .have:=S8 _ _ hf
  rw [<- e,nml] at this
  cases this
theorem ak7{c:Nat}(h:signB c=true):k0 (one c)=true:=(ajZ (aj0 h)).1
theorem ant{n:Int}(h:Z7 (sg8L n m) z):k0 z=true:=by
 unfold k0;rw [<- Array.all_toList,List.all_eq_true];intro c hc;obtain ⟨k,_,rfl⟩:=C6.mp (h c hc)
 have:=(oQ n (k:Int)).2
 unfold signB at this;simp only [e8,decide_eq_true_eq] at this ⊢
 lia
theorem arV{α β:Type}{l:List α}{f:α->β} : (if bh=true then l.reverse else l).map f=if bh=true then (l.map f).reverse else l.map f:=by
 cases bh <;> simp
theorem arW{en:Nat->En}(hi:i<4):D6 bh en z.cps.toList z'.cps.toList i=cmpD (cV bh en z i) (cV bh en z' i):=by
 match i,hi with
 | 0,_=>exact (yF _ _).symm
 | 1,_=>exact (akZ _ _).symm
 | 2,_=>exact (yF _ _).symm
 | 3,_=>exact (ak0 _ _).symm
theorem aqa{en:Nat->En}(hi:i<4):(cV bh en z i).kind=(cV bh en z' i).kind:=by
 match i,hi with
 | 0,_=>rfl
 | 1,_=>rfl
 | 2,_=>rfl
 | 3,_=>rfl
theorem SdAt.same{l:Addr}{d:LvD}(h:SdAt H l d)(S:Same H H'):SdAt H' l d:=by
 cases d with
 | ss z=>exact S _ _ h
 | tt xs=>exact LvAt.same (d:=.tt xs) h S
 | ii xs=>exact LvAt.same (d:=.ii xs) h S
theorem SdAt.ne{l l':Addr}{d d':LvD}(h:SdAt H l d)(h':SdAt H l' d')(hk:d.kind=d'.kind)(ok:∀ z,d=.ss z->k0 z=true)(ok':∀ z,d'=.ss z->k0 z=true)(q:Q (.bl (!decide (d=d'))) H):rNeU K (.ref l) (.ref l') H Q:=by
 cases d with
 | ss z=>cases d' with
  | ss z'=>
   refine ⟨_,_,.lst (.of h) (.cons (.str z (ok z rfl)) .nil),.lst (.of h') (.cons (.str z' (ok' z' rfl)) .nil),by simp [eO,cC],?_⟩;have e:(PyData.list [PyData.str z]).eqv (PyData.list [PyData.str z'])=decide (LvD.ss z=LvD.ss z'):=by
    have:=wJ [z] [z']
    simpa using this
   rw [e];exact q
  | _=>cases hk
 | tt xs=>cases d' with
  | tt ys=>exact LvAt.ne (d:=.tt xs) (d':=.tt ys) h h' hk q
  | _=>cases hk
 | ii xs=>cases d' with
  | ii ys=>exact LvAt.ne (d:=.ii xs) (d':=.ii ys) h h' hk q
  | _=>cases hk
theorem SdAt.lt{l l':Addr}{d d':LvD}(h:SdAt H l d)(h':SdAt H l' d')(hk:d.kind=d'.kind)(q:Q (.bl (d.lt d')) H):rLtL K (.ref l) (.ref l') H Q:=by
 cases d with
 | ss z=>cases d' with
  | ss z'=>
   refine .inr ⟨l,l',[z],[z'],rfl,rfl,.of h,.of h',?_⟩;have e:decide (([z].map fun z:Str=>z.cps.toList)<[z'].map fun z:Str=>z.cps.toList)=(LvD.ss z).lt (.ss z'):=by
    refine decide_eq_decide.mpr ?_;show ([z.cps.toList]<[z'.cps.toList])↔_;rw [gH];exact ⟨fun h=>h.elim id fun h=>absurd h.2 (List.not_lt_nil _),.inl⟩
   rw [e];exact q
  | _=>cases hk
 | tt xs=>cases d' with
  | tt ys=>exact .inl (LvAt.lt (d:=.tt xs) (d':=.tt ys) h h' hk q)
  | _=>cases hk
 | ii xs=>cases d' with
  | ii ys=>exact .inl (LvAt.lt (d:=.ii xs) (d':=.ii ys) h h' hk q)
  | _=>cases hk
noncomputable def vE (k:Nat) (q:Addr) (e:En):V:=match k with
 | 0=>.int e.1
 | 1=>.ref q
 | _=>.int e.2.2
theorem vE_at{q:Addr}{e:En}(hk:k<3):F8 [V.int e.1,V.ref q,V.int e.2.2] (((k+1:Nat):Int)-1)=some (vE k q e):=by
 match k,hk with
 | 0,_=>rfl
 | 1,_=>rfl
 | 2,_=>rfl
theorem sd_of{l:Addr}{en:Nat->En}{es:List (Addr×En)}(hk:k<3)(hl:H l=some (.lst (if k=1/\bh=true then (es.map fun e=>vE k e.1 e.2).reverse else es.map fun e=>vE k e.1 e.2)))(he:es.map (·.2)=z.cps.toList.map en)(hp:∀ e∈es,H e.1=some (.tup (e.2.2.1.map V.int))):SdAt H l (cV bh en z k):=by
 have hm:∀ f:En->Int,(es.map fun e=>V.int (f e.2))=(z.cps.toList.map fun c=>f (en c)).map V.int:=fun f=>by
  have:=congrArg (List.map fun x=>V.int (f x)) he
  rw [R3,R3] at this;rw [R3];exact this
 match k,hk with
 | 0,_=>exact ⟨l,rfl,by rw [hl,if_neg (fun h=>absurd h.1 'h')];exact congrArg (fun x=>some (HO.lst x)) (hm fun e=>e.1)⟩
 | 2,_=>exact ⟨l,rfl,by rw [hl,if_neg (fun h=>absurd h.1 'h')];exact congrArg (fun x=>some (HO.lst x)) (hm fun e=>e.2.2)⟩
 | 1,_=>
  have pr:∀ {es:List (Addr×En)},(∀ e∈es,H e.1=some (.tup (e.2.2.1.map V.int)))->Paired (fun c (x:List Int)=>H c=some (.tup (x.map V.int))) (es.map (·.1)) ((es.map (·.2)).map fun e=>e.2.1):=fun {es} h=>by
   induction es with
   | nil=>exact .nil
   | cons e es ih=>exact .cons (h e N2) (ih fun e he=>h e (O7 _ he))
  have p0:=pr hp;rw [he,R3] at p0
  cases bh with
  | false=>exact ⟨l,es.map (·.1),rfl,by rw [hl,if_neg (fun h=>by cases h.2),R3];rfl,p0⟩
  | true=>
   refine ⟨l,(es.map (·.1)).reverse,rfl,by rw [hl,if_pos ⟨rfl,rfl⟩,List.map_reverse,R3];rfl,?_⟩;rw [arV,if_pos rfl];exact xS p0
theorem EnS.sub{S':List Nat}{en:Nat->En}(h:EnS R L M S en)(hs:∀ c∈S',c∈S):EnS R L M S' en:=⟨h.nf,h.kn,fun c hc=>h.ki c (hs c hc),fun c hc=>h.st c (hs c hc)⟩
theorem EnS.plain{en:Nat->En}(h:EnS R L M S en){c:Nat}(hc:c∈S):fK R L M (one c)=true:=by
 unfold fK letN;rw [h.st c hc,jQ 'd',mU.mpr (fun s hs=>by
  obtain ⟨j,_,rfl⟩:=C6.mp hs
  simp)]
 rfl
structure Zs8(n:Int)(m:Nat)(zs:List Str):Prop where
 len:zs.length<=10
 of:∀ z∈zs,∃ j<m+2,z=p8 n j
noncomputable def yK (zs:List Str):List Nat:=zs.map fun z=>z.cps.toList.headD 0
theorem Zs8.ch{n:Int}(h:Zs8 n m zs):(∀ z∈zs,∃ c∈yK zs,z=one c)/\(∀ c∈yK zs,one c∈zs/\c∈sg8L n (m+2)):=by
 refine ⟨fun z hz=>?_,fun c hc=>?_⟩
 .obtain ⟨j,hj,e⟩:=h.of z hz;exact ⟨Y4 n (j:Int),C6.mpr ⟨z,hz,by rw [e];rfl⟩,e⟩
 .obtain ⟨z,hz,rfl⟩:=C6.mp hc;obtain ⟨j,hj,e⟩:=h.of z hz;rw [e] at hz ⊢
  exact ⟨hz,C6.mpr ⟨j,j6.mpr hj,rfl⟩⟩
theorem Zs8.chk{n:Int}(h:Zs8 n m zs){t t':Addr}{b:Bool}(h1:MadeT C H t n m b R L M)(h2:MadeT C H t' n m b' R' L' M'):chkF R L M R' L' M' zs=none/\∀ z∈zs,t8 R z/\t8 R' z:=by
 have ofz:∀ z∈zs,∃ c∈sg8L n (m+2),z=one c:=fun z hz=>by
  obtain ⟨c,hc,e⟩:=h.ch.1 z hz;exact ⟨c,(h.ch.2 c hc).2,e⟩
 constructor
 .unfold chkF;rw [Option.or_eq_none_iff,aI,aI];refine ⟨fun z hz=>?_,fun t ht=>?_⟩
  .obtain ⟨c,hc,rfl⟩:=ofz z hz;rw [h1.en.plain hc,h2.en.plain hc]
   simp
  .obtain ⟨a,ha,ht⟩:=U8.mp ht;obtain ⟨b,hb,rfl⟩:=C6.mp ht;obtain ⟨c,_,rfl⟩:=ofz a ha;obtain ⟨d,_,rfl⟩:=ofz b hb;have e:one c++one d=two c d:=rfl;rw [e,decide_eq_false (h1.two c d),decide_eq_false (h2.two c d)]
   simp
 .intro z hz;obtain ⟨c,hc,rfl⟩:=ofz z hz;have oc:∀ e∈(one c).cps.toList,e∈sg8L n (m+2):=fun e he=>by rw [E7.mp (show e∈[c] from he)];exact hc
  exact ⟨⟨by show 1<=500;decide,h1.en.whole oc⟩,by show 1<=500;decide,h2.en.whole oc⟩
theorem wit8{t t':Addr}{n:Int}{b:Bool}(h1:MadeT C H t n m b R L M)(h2:MadeT C H t' n m b' R' L' M')(hz:Zs8 n m zs)(hk:k<=4)(U7:0<k){u v:Str}(hw:yB 'e' 'g' (mvsF R L M R' L' M' k zs) zs u v) :
  (∀ c∈u.cps.toList,one c∈zs)/\(∀ c∈v.cps.toList,one c∈zs)/\Z7 (sg8L n (m+2)) u/\Z7 (sg8L n (m+2)) v/\(difL k (D6 b (L6 R L M) u.cps.toList v.cps.toList)).2≠(difL k (D6 b' (L6 R' L' M') u.cps.toList v.cps.toList)).2:=by
 obtain ⟨dJ,P6⟩:=hz.ch;obtain ⟨i1,i2,i3⟩:=uah (h1.en.sub fun c hc=>(P6 c hc).2) (h2.en.sub fun c hc=>(P6 c hc).2) hk U7 dJ hw;rw [h1.bh,h2.bh] at i3;exact ⟨fun c hc=>(P6 c (i1 c hc)).1,fun c hc=>(P6 c (i2 c hc)).1,fun c hc=>(P6 c (i1 c hc)).2,fun c hc=>(P6 c (i2 c hc)).2,i3⟩
theorem aqb{en en':Nat->En}(h:EnS R L M S en)(h':EnS R' L' M' S en')(hk:k<=4)(hz:∀ z∈zs,∃ c∈S,z=one c)(hs:∀ c∈S,one c∈zs){es:List BE}(B:Bfs 'e' 'g' (mvsF R L M R' L' M' k zs) es es.length) :
  ∀ (q:Nat) (l l':List Nat),l.length=q->l'.length=q->(∀ c∈l,c∈S)->(∀ c∈l',c∈S)->∃ e∈es,e.r=roomF k 'e' 'g' en en' l l':=by
 intro q
 induction q with
 | zero=>
  intro l l' e1 e2 _ _;obtain rfl:=aH.mp e1;obtain rfl:=aH.mp e2;obtain ⟨e,h1,h2⟩:=B.st;refine ⟨e,G6 h1,?_⟩;rw [h2];show _=join4 (difL k (D6 _ en [] [])) (difL k (D6 _ en' [] []));rw [bF fun j _=>sI _ _ j,bF fun j _=>sI _ _ j];rfl
 | succ q ih=>
  intro l l' e1 e2 hl uB;obtain ⟨a,x,rfl⟩:∃ a x,l=a++[x]:=⟨l.dropLast,l.getLast (fun e=>by rw [e] at e1;cases e1),(List.dropLast_concat_getLast _).symm⟩
  obtain ⟨b,y,rfl⟩:∃ b y,l'=b++[y]:=⟨l'.dropLast,l'.getLast (fun e=>by rw [e] at e2;cases e2),(List.dropLast_concat_getLast _).symm⟩
  rw [D9,Y8] at e1 e2;obtain ⟨e,he,er⟩:=ih a b 'a' 'a' (fun c hc=>hl c (Q3 _ hc)) (fun c hc=>uB c (Q3 _ hc));obtain ⟨i,hi⟩:=jS.mp he;have hx:=hl x (N7 _ N2);have hy:=uB y (N7 _ N2);have oc:∀ {c},c∈S->∀ e∈(one c).cps.toList,e∈S:=fun {c} hc e he=>by rw [E7.mp (show e∈[c] from he)];exact hc
  have hm:((one x,one y,join4 (difR R L M k (one x) (one y)) (difR R' L' M' k (one x) (one y))):Mv)∈mvsF R L M R' L' M' k zs:=U8.mpr ⟨one x,hs x hx,C6.mpr ⟨one y,hs y hy,rfl⟩⟩;obtain ⟨e',he',er'⟩:=C6.mp ((B.cl i (E5.mp hi).1 e hi).2 _ hm).2;refine ⟨e',he',?_⟩;rw [er',yG 'a' x y,<- er];show M9 _ _ e.r (join4 (difR R L M k (one x) (one y)) (difR R' L' M' k (one x) (one y)))=_;rw [h.dif hk (oc hx) (oc hy),h'.dif hk (oc hx) (oc hy)];rfl
theorem aiz(U7:0<k){g g' f f':Nat->Int}{t:Int}(ht:t≠0)(dL:(difL k g).2=(difL k g').2)(dM:g 0≠0↔g' 0≠0)(e1:f 0=if g 0=0 then t else g 0)(e2:f' 0=if g' 0=0 then t else g' 0):(difL k f).2=(difL k f').2:=by
 by_cases h0:g 0=0
 .have h0':g' 0=0:=Classical.byContradiction fun q=>dM.mpr q h0
  rw [if_pos h0] at e1;rw [if_pos h0'] at e2;rw [iE U7 (by rw [e1];exact ht),iE U7 (by rw [e2];exact ht),e1,e2]
 .have h0':=dM.mp h0;rw [if_neg h0] at e1;rw [if_neg h0'] at e2;rw [iE U7 h0,iE U7 h0'] at dL;rw [iE U7 (by rw [e1];exact h0),iE U7 (by rw [e2];exact h0'),e1,e2];exact dL
theorem sN{en:Nat->En}{l:List Nat}(hl:l.length=l'.length)(x:Nat)(r:List Nat):D6 bh en (l++x::r) l' 0=(if D6 bh en l l' 0=0 then 1 else D6 bh en l l' 0)/\D6 bh en l (l'++x::r) 0=if D6 bh en l l' 0=0 then -1 else D6 bh en l l' 0:=by
 have:=yE eR ((en x).1) (r.map fun c=>(en c).1) (xs:=l.map fun c=>(en c).1) (ys:=l'.map fun c=>(en c).1) (by simpa using hl)
 refine ⟨?_,?_⟩
 .show cmpG ((l++x::r).map fun c=>(en c).1) (l'.map fun c=>(en c).1)=_;rw [D0];exact this.1
 .show cmpG (l.map fun c=>(en c).1) ((l'++x::r).map fun c=>(en c).1)=_;rw [D0];exact this.2
theorem arX{t t':Addr}{n:Int}{b:Bool}(h1:MadeT C H t n m b R L M)(h2:MadeT C H t' n m b' R' L' M')(hz:Zs8 n m zs)(hk:k<=4)(U7:0<k){es:List BE}(B:Bfs 'e' 'g' (mvsF R L M R' L' M' k zs) es es.length){lu lv:List Nat}(hu:∀ c∈lu,one c∈zs)(hv:∀ c∈lv,one c∈zs) :
  (difL k (D6 b (L6 R L M) lu lv)).2=(difL k (D6 b' (L6 R' L' M') lu lv)).2/\∃ e∈es,e.r=roomF k b b' (L6 R L M) (L6 R' L' M') (lu.take (min lu.length lv.length)) (lv.take (min lu.length lv.length)):=by
 obtain ⟨dJ,P6⟩:=hz.ch;have inS:∀ {c},one c∈zs->c∈yK zs:=fun {c} h=>C6.mpr ⟨one c,h,rfl⟩
 have key:=aqb (h1.en.sub fun c hc=>(P6 c hc).2) (h2.en.sub fun c hc=>(P6 c hc).2) hk dJ (fun c hc=>(P6 c hc).1) B;rw [h1.bh,h2.bh] at key;have ka:∀ l l':List Nat,l.length=l'.length->(∀ c∈l,one c∈zs)->(∀ c∈l',one c∈zs)->(∃ e∈es,e.r=roomF k b b' (L6 R L M) (L6 R' L' M') l l')/\(difL k (D6 b (L6 R L M) l l')).2=(difL k (D6 b' (L6 R' L' M') l l')).2/\(D6 b (L6 R L M) l l' 0≠0↔D6 b' (L6 R' L' M') l l' 0≠0):=fun l l' hl a1 a2=>by
  obtain ⟨e,he,er⟩:=key l.length l l' rfl hl.symm (fun c hc=>inS (a1 c hc)) (fun c hc=>inS (a2 c hc));obtain ⟨i,hi⟩:=jS.mp he;have dM:=(B.cl i (E5.mp hi).1 e hi).1;have dL:=(B.rc e he).even;unfold Z6 at dL;unfold m3 at dM;rw [mY,decide_eq_true_iff,er] at dL;rw [mY,decide_eq_true_iff,decide_eq_decide,er] at dM;refine ⟨⟨e,he,er⟩,dL,?_⟩;rw [<- sJ U7,<- sJ U7];exact dM
 refine ⟨?_,(ka _ _ (by simp only [G7];lia) (fun c hc=>hu c (gI hc)) fun c hc=>hv c (gI hc)).1⟩
 rcases mX lu.length lv.length with C4 | bP | hgt
 .have hs:lv=lv.take lu.length++lv[lu.length]::lv.drop (lu.length+1):=by rw [<- bX C4,j4]
  obtain ⟨_,k1,k2⟩:=ka lu (lv.take lu.length) (by rw [G7];lia) hu fun c hc=>hv c (gI hc)
  rw [hs];exact aiz U7 (t:=-1) 'h' k1 k2 (sN (by rw [G7];lia) _ _).2 (sN (by rw [G7];lia) _ _).2
 .exact (ka lu lv bP hu hv).2.1
 .have hs:lu=lu.take lv.length++lu[lv.length]::lu.drop (lv.length+1):=by rw [<- bX hgt,j4]
  obtain ⟨_,k1,k2⟩:=ka (lu.take lv.length) lv (by rw [G7];lia) (fun c hc=>hu c (gI hc)) hv;rw [hs];exact aiz U7 (t:=1) 'h' k1 k2 (sN (by rw [G7];lia) _ _).1 (sN (by rw [G7];lia) _ _).1
noncomputable def aiA (C:Addr) (m:Nat):Sp:=fun vs H Q _=>∃ (t:Addr) (u v:Str) (k:Nat) (n:Int) (bh:Bool) (R:List Rl) (L M:List Str),vs=[.str u,.str v,.ref t,.int k]/\k<=4/\MadeT C H t n m bh R L M/\Z7 (sg8L n (m+2)) u/\Z7 (sg8L n (m+2)) v/\u.length<=500/\v.length<=500/\∀ p H',H p=none->Same H H'->H' p=some (.tup (J8 (difL k (D6 bh (L6 R L M) u.cps.toList v.cps.toList))))->Q (.ref p) H'
noncomputable def anu (K:PySem.W.Frag):Sp:=fun vs H Q _=>∃ (p q:Addr) (s a:Int×Int) (b:Bool),vs=[.ref p,.ref q,.bl b]/\A8 K H p (J8 s)/\A8 K H q (J8 a)/\∀ t,A8 K H t (J8 (Z5 b s a))->Q (.ref t) H
noncomputable def anv (K:PySem.W.Frag):Sp:=fun vs H Q _=>∃ (p:Addr) (r:Rm),vs=[.ref p]/\A8 K H p (P1 r)/\Q (.bl true) H
theorem difL_zero{g:Nat->Int} : (difL i g).2=0↔∀ j<i,g j=0:=by
 rcases lO i g with ⟨e,z⟩ | ⟨j,hj,e,nj,_⟩
 .rw [e];exact ⟨fun _=>z,fun _=>rfl⟩
 .rw [e];exact ⟨fun h=>absurd h nj,fun h=>h j hj⟩
theorem arY{b:Bool}{s a:Int×Int} : (if a.1=0\/(s.1≠0/\s.1<a.1) then s else if s.1=a.1/\¬ (a.1=2/\b=true) then s else a)=Z5 b s a:=by
 unfold Z5
 by_cases h0:a.1=0
 .rw [if_pos (.inl h0),if_pos h0]
 rw [if_neg h0]
 by_cases h1:s.1=0\/a.1<s.1
 .rw [if_pos h1,if_neg 'a',if_neg 'a']
 .rw [if_neg h1]
  by_cases h2:s.1=a.1/\a.1=2/\b=true
  .rw [if_pos h2,if_neg 'a',if_neg (fun h=>h.2 h2.2)]
  .rw [if_neg h2]
   by_cases h3:s.1<a.1
   .rw [if_pos (.inr ⟨by lia,h3⟩)]
   .rw [if_neg 'a',if_pos ⟨by lia,fun h=>h2 ⟨by lia,h⟩⟩]
structure ClI(P:Program)(w:World)(K:PySem.W.Frag)(H H2:Hp)(d:Addr)(es:List BE):Prop where
 same:Same H H2
 ds:H2 d=some (dX P w d (es.map fun e=>(L5 e.r,e.ra,V.bl true)))
 fr:H d=none
theorem ClI.keys{P:Program}{w:World}{d:Addr}{es:List BE}(h:ClI P w K H H2 d es)(hr:∀ e∈es,A8 K H e.ra (P1 e.r)):KeysX K H2 (es.map fun e=>(L5 e.r,e.ra,V.bl true)):=fun p hp=>by
 obtain ⟨e,he,rfl⟩:=C6.mp hp;exact g8 h.same (hr e he)
theorem yL{es:List BE}{r:Rm} : (lookX (es.map fun e=>(L5 e.r,e.ra,V.bl true)) (L5 r)).isSome=decide (r∈es.map (·.r)):=by
 unfold lookX;rw [eQ,gN,List.find?_isSome,decide_eq_true_iff]
 constructor
 .rintro ⟨p,hp,e⟩;obtain ⟨x,hx,rfl⟩:=C6.mp hp;exact C6.mpr ⟨x,hx,xY (of_decide_eq_true e)⟩
 .intro h;obtain ⟨x,hx,rfl⟩:=C6.mp h;exact ⟨_,C6.mpr ⟨x,hx,rfl⟩,by simp⟩
noncomputable def ak8 (K:PySem.W.Frag) (C:Addr):Sp:=fun vs H Q _=>∃ (rl sl t1 t2:Addr) (k:Nat) (es:List BE) (zs:List Str) (n:Int) (b1 b2:Bool) (R R':List Rl) (L M L' M':List Str),vs=[.ref rl,.ref sl,.ref t1,.ref t2,.int k]/\k<=4/\H rl=some (.lst (es.map fun e=>V.ref e.ra))/\(∀ e∈es,A8 K H e.ra (P1 e.r))/\Bfs 'e' 'g' (mvsF R L M R' L' M' k zs) es es.length/\es.length<=225/\H sl=some (.lst (zs.map V.str))/\Zs8 n 4 zs/\MadeT C H t1 n 4 b1 R L M/\MadeT C H t2 n 4 b2 R' L' M'/\∀ H',Same H H'->Q (.bl true) H'
section
variable {P:Program} {w:World} {K:PySem.W.Frag} {mg:Str->Option Value} {base:Heap} {C:Addr}
theorem sc_told:FnScope ["rows", "seen", "row", "piece"] ["rows"] (C1 bB):=E6
abbrev VS(N:List Str)(s:Stmt)(x:Str)(n:Nat):Prop:=∀ {X:Cx} {pos:Pos},X.N=N->X.env.scope=C1 s->QE X (.Name x pos) (tVar n)
theorem vq{s:Stmt}{x:Str}(h:(decide (N[n]?=some x)&&visB (C1 s) x && !(x=='o') && !(x==("__classdict__" : Str)))=true:=by decide +kernel):VS N s x n:=fun hN hs=>qvd hN hs h
theorem vi{s:Stmt}{x:Str}{pos:Pos}(h:VS N s x n)(h1:X.N=N:=by rfl)(h2:X.env.scope=C1 s:=by rfl):QE X (.Name x pos) (tVar n):=h h1 h2
abbrev LS(s:Stmt)(x:Str):Prop:=v9 (C1 s) x
theorem lq{s:Stmt}{x:Str}(h:(C1 s).names.lookup x=some .local\/(C1 s).names.lookup x=some .cell:=by decide +kernel):LS s x:=h
abbrev sO:List Str:=["rows", "seen", "row", "piece"]
theorem vaa:VS sO bB "rows" 0:=vq
theorem vab:VS sO bB "seen" 1:=vq
theorem vac:VS sO bB "row" 2:=vq
theorem vad:VS sO bB "piece" 3:=vq
theorem vae:LS bB "seen":=lq
theorem vaf:LS bB "row":=lq
theorem vag:LS bB "piece":=lq
theorem aqc(F:FunD K "told" "told" bB f fd)(T:Txt P w K mg C):FnOk P w K mg base E2 1 f fd ["rows"] am7:=by
 refine F.ok sc_told ?_ ?_
 .rintro _ _ _ _ ⟨a,rs,zss,rfl,_⟩;rfl
 .intro cdv A outer s H vs Q E hr h;have B3:=hu_of hr;have hu:=hr.units;refine ⟨_,QSs.out (A5 (C8 (n:=1) sc_told.nd rfl vae hG)
   (A5 (M0 PassesOwn.never (O5 (K:=K) (vi vaa)) (D3 (n:=2) sc_told.nd rfl vaf 'f') (A4 (M0 PassesOwn.never (O5 (K:=K) (vi vac)) (D3 (n:=3) sc_told.nd rfl vag 'f') (A4 (r0 B3 (vi vab) (vi vad) qe_bl)))))
   (A4 (C5 (qe_cT (rL (K:=K) (calm:=true)) T.b_list kN (qa_c (vi vab) A2)))))),?_⟩
  obtain ⟨a,rs,zss,rfl,hR,hz,q⟩:=h;walk_at "rd";intro d nd;have hlz:∀ n:Nat,n<=100000->n<sizeLine:=fun n h=>L8 'a'
  refine ⟨⟨_,.of (C9 hR.top nd)⟩,forL (xs:=rs.map V.ref) (fun i Y H2=>∃ (u v:Option V),Y=[some (.ref a),some (.ref d),u,v]/\Same H H2/\H2 d=some (.dK (kvOf (toldL (zss.take i)))))
   ⟨none,none,rfl,Same.new nd,by rw [A3];rfl⟩ (by rintro i Y H2 _ ⟨_,_,_,S,_⟩;exact .of (S _ _ hR.top)) ?_ ?_⟩
  .rintro i x Y H2 hx ⟨u,v,rfl,S,hd⟩;obtain ⟨r,hr,rfl⟩:=G5 hx;obtain ⟨zs,dN,E3⟩:=Paired.at hR.row hr;have hcount:(toldL (zss.take i)).length+zs.length<=100000:=by
    have h1:zss.take (i+1)=zss.take i++[zs]:=by rw [v4,dN];rfl
    have h2:=nO (zss.take i);have h3:(zss.take (i+1)).flatten.length<=zss.flatten.length:=by
     conv=>rhs;rw [<- j4 (i+1) zss]
     rw [List.flatten_append,D9];lia
    rw [h1,List.flatten_append,D9] at h3;simp at h3;simp at h2 hz h3 ⊢
    lia
   walk_at "rd";refine ⟨⟨_,.of (S _ _ E3)⟩,forL (xs:=zs.map V.str) (fun j Y H3=>∃ (v:Option V),Y=[some (.ref a),some (.ref d),some (.ref r),v]/\Same H H3/\H3 d=some (.dK (kvOf (K8 (toldL (zss.take i)) (zs.take j)))))
    ⟨v,rfl,S,hd⟩ (by rintro j Y H3 _ ⟨_,_,S3,_⟩;exact .of (S3 _ _ E3)) ?_ ?_⟩
   .rintro j y Y H3 hy ⟨v,rfl,S3,R1⟩;obtain ⟨z,Q1,rfl⟩:=G5 hy;walk_at "rd";refine ⟨_,cI (k:=Sum.inr z) R1 ?_,S3.put nd,?_⟩
    .unfold kvOf;rw [A6];refine hlz _ ?_
     have:=nN (zs.take j) (toldL (zss.take i))
     rw [G7] at this;lia
    .rw [A3,agj,al2 Q1]
   .rintro Y H3 ⟨v,rfl,S3,R1⟩;walk_at "rd";refine ⟨S3,?_⟩;rw [R1,aj2 dN,A6,M3]
  .rintro Y H2 ⟨u,v,rfl,S,hd⟩;walk_at "rd";refine rListR.d (.of hd) fun l nl=>?_
   refine q l _ (S.free nl) (fun b o h=>C9 (S b o h) nl) ?_;rw [A3,aj3,A6];rw [show rs.length=zss.length from Paired.length hR.row,M3]
theorem sc_followers:FnScope ["rows", "after", "piece", "row", "one", "other"] ["rows"] (C1 g0):=E6
abbrev lQ:List Str:=["rows", "after", "piece", "row", "one", "other"]
theorem vah:VS lQ g0 "rows" 0:=vq
theorem yM:VS lQ g0 "after" 1:=vq
theorem vaj:VS lQ g0 "piece" 2:=vq
theorem vak:VS lQ g0 "row" 3:=vq
theorem vam:VS lQ g0 "one" 4:=vq
theorem van:VS lQ g0 "other" 5:=vq
theorem vao:LS g0 "after":=lq
theorem vap:LS g0 "piece":=lq
theorem vaq:LS g0 "row":=lq
theorem var:LS g0 "one":=lq
theorem vas:LS g0 "other":=lq
theorem agN(F:FunD K "followers" "followers" g0 f fd)(T:Txt P w K mg C)(G_told:FO P w K mg base 1 "told" ["rows"] [] am7):FnOk P w K mg base E2 2 f fd ["rows"] spFol:=by
 refine F.ok sc_followers ?_ ?_
 .rintro _ _ _ _ ⟨a,rs,zss,rfl,_⟩;rfl
 .intro cdv A outer s H vs Q E hr h;have B3:=hu_of hr;have hu:=hr.units;refine ⟨_,QSs.out (A5 (C8 (n:=1) sc_followers.nd rfl vao hG)
   (A5 (M0 PassesOwn.never (O5 (K:=K) (D7 G_told (hm hr) (qa_c (vi vah) A2))) (D3 (n:=2) sc_followers.nd rfl vap 'f') (A4 (r0 B3 (vi yM) (vi vaj) (R4 A2))))
   (A5 (M0 PassesOwn.never (O5 (K:=K) (vi vah)) (D3 (n:=3) sc_followers.nd rfl vaq 'f') (A4 (M0 PassesOwn.never (arw T.b_zip (qa_c (vi vak) (qa_c (O4 (K:=K) (vi vak) (M4 A1) Q8) A2))) (cK (K:=K) (n:=2) (R5 ((D3 (n:=4) sc_followers.nd rfl var 'f')) (R5 ((D3 (n:=5) sc_followers.nd rfl vas 'f')) cJ))) (A4 (T0 (qe_mB (K:=K) W2 j8 j7 k7 (f8 B3 (vi yM) (vi vam)) (qa_c (vi van) A2)))))))
   (A4 (C5 (vi yM)))))),?_⟩
  obtain ⟨a,rs,zss,rfl,hR,hz,q⟩:=h;walk_at "rd";intro d nd;have S0:Same H (A0 H d (.dK [])):=Same.new nd;refine ⟨a,rs,zss,rfl,hR.same S0,hz,fun l H1 nl S1 hl=>?_⟩;have hd1:H1 d=some (.dK []):=S1 _ _ A3;have S01:=S0.trans S1;have A9:(toldL zss).length<=100000:=N8 (nO zss) hz;have tnd:=kU zss;refine ⟨l,rfl,⟨_,.of hl⟩,forL (xs:=(toldL zss).map V.str) (fun i Y H2=>∃ (u v w x:Option V) (ad:Str->Addr),Y=[some (.ref a),some (.ref d),u,v,w,x]/\SameBut d H1 H2/\H2 d=some (.dK (C2 ((toldL zss).take i) fun t=>.ref (ad t)))/\DL H1 H2 ((toldL zss).take i) ad fun _=>[])
   ⟨none,none,none,none,fun _=>0,rfl,ual _ _,hd1,⟨fun t h=>by simp at h,fun t h=>by simp at h,fun t h=>by simp at h⟩⟩ (fun i Y H2 _ ⟨_,_,_,_,_,_,S,_⟩=>.of (S _ _ (fun e=>by rw [e,hd1] at hl;cases hl) hl)) ?_ ?_⟩
  .rintro i x Y H2 hx ⟨u,v,w,y,ad,rfl,S,hd,dl⟩;obtain ⟨z,hk,rfl⟩:=G5 hx;have hi:i<(toldL zss).length:=(E5.mp hk).1;have U1:=wX tnd hk;walk_at "rd";refine fun p np=>⟨_,cI (k:=Sum.inr z) (C9 hd np) (by rw [k8,G7];exact L8 'a'),?_⟩
   have n1:H1 p=none:=S.free np (fun e=>by rw [e,hd] at np;cases np);refine ⟨(S.put n1).at,fun t=>if t=z then p else ad t,?_,?_⟩
   .rw [A3,fA _ U1,M7 hk];have e:(fun t=>if t=z then V.ref p else V.ref (ad t))=fun t=>V.ref (if t=z then p else ad t):=by funext t;split <;> rfl
    rw [e]
   .rw [M7 hk];exact ((dl.more U1 np n1).congr fun t _=>by split <;> rfl).put hd1
  .rintro Y H2 ⟨u,v,w,y,ad,rfl,S,hd,dl⟩;rw [A6,M3] at hd dl;have S2:Same H H2:=S.same S01 nd;walk_at "rd";have dl0:DL H H2 (toldL zss) ad fun _=>[]:=dl.old S01
   refine ⟨⟨_,.of (S2 _ _ hR.top)⟩,forL (xs:=rs.map V.ref) (fun i Y H3=>∃ (v w x:Option V),Y=[some (.ref a),some (.ref d),u,v,w,x]/\Same H H3/\H3 d=some (.dK (C2 (toldL zss) fun t=>.ref (ad t)))/\DL H H3 (toldL zss) ad (G0 (edges (zss.take i))))
    ⟨v,w,y,rfl,S2,hd,dl0⟩ (by rintro i Y H3 _ ⟨_,_,_,_,S,_⟩;exact .of (S _ _ hR.top)) ?_ ?_⟩
   .rintro i x Y H3 hx ⟨v,w,y,rfl,S3,R1,bS⟩;obtain ⟨r,hr,rfl⟩:=G5 hx;obtain ⟨zs,dN,E3⟩:=Paired.at hR.row hr;have fW:=S3 _ _ E3;have E9:∀ x∈zs,x∈toldL zss:=fun x hx=>(wV _ _).mpr (List.mem_flatten.mpr ⟨zs,G6 dN,hx⟩)
    walk_at "rd";refine rSlR.l (.of fW) fun p np=>?_
    have ecut:cutV (zs.map V.str) (some 1) none=zs.tail.map V.str:=by
     have:=r8 (zs.map V.str) 1
     rw [show ((1:Nat):Int)=1 from rfl] at this;rw [this,<- gM,List.drop_one]
    rw [ecut];have fX:H p=none:=S3.free np;have nad:∀ t∈toldL zss,ad t≠p:=fun t ht e=>by have:=bS.row t ht;rw [e,np] at this;cases this
    have nadr:∀ t∈toldL zss,ad t≠r:=fun t ht e=>by have:=bS.new t ht;rw [e,E3] at this;cases this
    have ndp:d≠p:=fun e=>by rw [<- e,R1] at np;cases np
    have nadd:∀ t∈toldL zss,ad t≠d:=fun t ht e=>by have:=bS.row t ht;rw [e,R1] at this;cases this
    refine ⟨p,rfl,⟨_,C9 fW np⟩,⟨_,A3⟩,forZ (xs:=zs.map V.str) (ys:=zs.tail.map V.str) (fun j Y H4=>∃ (w x:Option V),Y=[some (.ref a),some (.ref d),u,some (.ref r),w,x]/\Same H H4/\H4 p=some (.lst (zs.tail.map V.str))/\H4 d=some (.dK (C2 (toldL zss) fun t=>.ref (ad t)))/\DL H H4 (toldL zss) ad (G0 (edges (zss.take i)++(W5 zs).take j)))
     ⟨w,y,rfl,S3.put fX,A3,C9 R1 np,?_⟩ (by rintro j Y H4 ⟨_,_,_,S,hp,_⟩;exact ⟨S _ _ E3,hp⟩) ?_ ?_⟩
    .rw [eI,M8];exact bS.same (Same.new np)
    .rintro j xv yv t Y H4 hxv hyv ⟨w,v,rfl,S4,o4,W7,mL⟩ nt;obtain ⟨x,hx,rfl⟩:=G5 hxv;obtain ⟨y,hy,rfl⟩:=G5 hyv;have mM:=E9 x (G6 hx);have nt0:H t=none:=S4.free nt;have hlx:=mL.row x mM;have hE:(W5 zs)[j]?=some (x,y):=agr hx hy;walk_at "rd";refine ⟨_,.of A3,rfl,_,_,rfl,_,_,rfl,rfl,V.ref (ad x),.inl ⟨_,Sum.inr x,.inl (C9 W7 nt),rfl,by rw [Q5,if_pos mM]⟩,V2 (C9 hlx nt),appOk (C9 hlx nt) ?_ ⟨(S4.put nt0).put (mL.new x mM),?_,?_,?_⟩⟩
     .rw [A6];refine L8 ?_;have h1:(G0 (edges (zss.take i)++(W5 zs).take j) x).length<=(edges (zss.take i)++(W5 zs).take j).length:=by
       unfold G0;rw [A6];exact List.length_filter_le _ _
      have h2:=ags (zss.take i);have h3:(zss.take i).flatten.length<=zss.flatten.length:=by
       conv=>rhs;rw [<- j4 i zss]
       rw [List.flatten_append,D9];lia
      have h4:zs.length<=zss.flatten.length:=List.Sublist.length_le (List.sublist_flatten_of_mem (G6 dN));rw [D9,G7,wW] at h1;lia
     .rw [A7 (nad x mM).symm];exact C9 o4 nt
     .rw [A7 (nadd x mM).symm];exact C9 W7 nt
     .have h1:=(mL.same (Same.new (u:=.tup [V.str x,V.str y]) nt)).app mM (G0 (edges (zss.take i)++(W5 zs).take j) x++[y]);rw [D0] at h1;refine h1.congr fun t _=>?_
      rw [M7 hE,<- W8,ame]
      by_cases e:t=x
      .rw [if_pos e,if_pos e.symm,e]
      .rw [if_neg e,if_neg (fun z=>e z.symm)]
    .rintro Y H4 ⟨w,x,rfl,S4,o4,W7,mL⟩;walk_at "rd";refine ⟨S4,W7,?_⟩;rw [aiT dN];rw [u9 (l:=W5 zs) (by rw [wW,A6,A6];exact C3 _)] at mL;exact mL
   .rintro Y H3 ⟨v,w,y,rfl,S3,R1,bS⟩;rw [A6,show rs.length=zss.length from Paired.length hR.row,M3] at bS;walk_at "rd";exact q d ad H3 nd S3 R1 bS
theorem sc_count_ahead:FnScope ["after", "ahead", "piece", "other"] ["after"] (C1 bC):=E6
abbrev sP:List Str:=["after", "ahead", "piece", "other"]
theorem yN:VS sP bC "after" 0:=vq
theorem yO:VS sP bC "ahead" 1:=vq
theorem vav:VS sP bC "piece" 2:=vq
theorem vaw:VS sP bC "other" 3:=vq
theorem vax:LS bC "ahead":=lq
theorem vay:LS bC "piece":=lq
theorem vaz:LS bC "other":=lq
theorem aeV(F:FunD K "count_ahead" "count_ahead" bC f fd)(T:Txt P w K mg C):FnOk P w K mg base E2 1 f fd ["after"] akj:=by
 refine F.ok sc_count_ahead ?_ ?_
 .rintro _ _ _ _ ⟨d,ts,ad,E,rfl,_⟩;rfl
 .intro cdv A outer s H vs Q E hr h;have B3:=hu_of hr;have hu:=hr.units;refine ⟨_,QSs.out (A5 (C8 (n:=1) sc_count_ahead.nd rfl vax hG)
   (A5 (wS PassesOwn.never (vi yN) (D3 (n:=2) sc_count_ahead.nd rfl vay 'f') (A4 (r0 B3 (vi yO) (vi vav) A1)))
   (A5 (wS PassesOwn.never (vi yN) (D3 (n:=2) sc_count_ahead.nd rfl vay 'f') (A4 (M0 PassesOwn.never (O5 (K:=K) (f8 B3 (vi yN) (vi vav))) (D3 (n:=3) sc_count_ahead.nd rfl vaz 'f') (A4 (aj5 B3 (vi yO) (vi vaw) A1 arp)))))
   (A4 (C5 (vi yO)))))),?_⟩
  obtain ⟨d,ts,ad,E,rfl,hd,tnd,A9,hElen,E3,hE,q⟩:=h;walk_at "rd";intro c nc;have ndc:d≠c:=fun e=>by rw [e,nc] at hd;cases hd
  refine ⟨_,C9 hd nc,fun o=>forD (fun i Y H2=>∃ (u v:Option V),Y=[some (.ref d),some (.ref c),u,v]/\H2 d=some (.frz o (.dK (C2 ts fun t=>.ref (ad t))))/\SameBut d H H2/\H2 c=some (.dK (C2 (ts.take i) fun _=>.int 0)))
   ⟨none,none,rfl,A3,(SameBut.put (ual _ _) nc).at,by rw [A7 ndc.symm,A3];rfl⟩ (by rintro i Y H2 ⟨_,_,_,h,_⟩;exact h) ?_ ?_⟩
  .rintro i k v Y H2 hk ⟨u,w,rfl,hf,S,hc⟩;obtain ⟨t,ht,rfl,rfl⟩:=am4 hk;have hi:i<ts.length:=(E5.mp ht).1;walk_at "rd";refine ⟨_,cI (k:=Sum.inr t) hc (by rw [k8,G7];exact L8 'a'),?_,S.put nc,?_⟩
   .rw [A7 ndc];exact hf
   .rw [A3,fA _ (wX tnd ht),M7 ht];exact congrArg (fun x=>some (HO.dK x)) (V4 fun t _=>by split <;> rfl)
  .rintro Y H2 ⟨u,w,rfl,hf,S,hc⟩;rw [k8,M3] at hc;have S2:Same H (A0 H2 d (.dK (C2 ts fun t=>.ref (ad t)))):=S.thaw hd;have V7:A0 H2 d (.dK (C2 ts fun t=>.ref (ad t))) d=some (.dK (C2 ts fun t=>.ref (ad t))):=A3;have P6:A0 H2 d (.dK (C2 ts fun t=>.ref (ad t))) c=some (.dK (C2 ts fun _=>.int 0)):=by rw [A7 ndc.symm];exact hc
   generalize A0 H2 d (.dK (C2 ts fun t=>.ref (ad t)))=H3 at S2 V7 P6;walk_at "rd";refine ⟨_,V7,fun o=>forD (fun i Y H4=>∃ (u v:Option V),Y=[some (.ref d),some (.ref c),u,v]/\H4 d=some (.frz o (.dK (C2 ts fun t=>.ref (ad t))))/\SameBut d H H4/\H4 c=some (.dK (C2 ts fun t=>.int (cntIn E (ts.take i) t:Nat))))
    ⟨u,w,rfl,A3,fun b o hb h=>by rw [A7 hb];exact S2 b o h,?_⟩ (by rintro i Y H2 ⟨_,_,_,h,_⟩;exact h) ?_ ?_⟩
   .rw [A7 ndc.symm,P6];exact congrArg (fun x=>some (HO.dK x)) (V4 fun t _=>by rw [eI,aki];rfl)
   .rintro i k v Y H4 hk ⟨u,w,rfl,hf,S4,mN⟩;obtain ⟨t,ht,rfl,rfl⟩:=am4 hk;have pX:t∈ts:=G6 ht;have hl4:H4 (ad t)=some (.lst ((G0 E t).map V.str)):=S4 _ _ (fun e=>by have:=E3 t pX;rw [e,hd] at this;cases this) (E3 t pX);walk_at "rd";refine ⟨V.ref (ad t),.inl ⟨_,Sum.inr t,.inr ⟨o,hf⟩,rfl,by rw [Q5,if_pos pX]⟩,ad t,rfl,⟨_,.of hl4⟩,forL (xs:=(G0 E t).map V.str) (fun j Y H5=>∃ (v:Option V),Y=[some (.ref d),some (.ref c),some (kV (Sum.inr t)),v]/\H5 d=some (.frz o (.dK (C2 ts fun t=>.ref (ad t))))/\SameBut d H H5/\
     H5 c=some (.dK (C2 ts fun q=>.int (cntIn E (ts.take i) q+((G0 E t).take j).count q:Nat)))) ⟨w,rfl,hf,S4,by rw [mN];rfl⟩ (fun j Y H5 _ ⟨_,_,_,S5,_⟩=>.of (S5 _ _ (fun e=>by have:=E3 t pX;rw [e,hd] at this;cases this) (E3 t pX))) ?_ ?_⟩
    .rintro j v5 Y H5 hv5 ⟨v,rfl,hf5,S5,j0⟩;obtain ⟨y,hy2,rfl⟩:=G5 hv5;have fY:y∈ts:=by
      have:=G6 hy2
      unfold G0 at this;obtain ⟨e,he,rfl⟩:=C6.mp this;exact (hE e (X4.mp he).1).2
     walk_at "rd";refine ⟨V.int (cntIn E (ts.take i) y+((G0 E t).take j).count y:Nat),.inl ⟨_,Sum.inr y,.inl j0,rfl,by rw [Q5,if_pos fY]⟩,_,_,rfl,rfl,_,cI (k:=Sum.inr y) j0 (by rw [k8];exact L8 'a'),?_,S5.put nc,?_⟩
     .rw [A7 ndc];exact hf5
     .rw [A3,nS _ fY];refine congrArg (fun x=>some (HO.dK x)) (V4 fun q _=>?_);rw [M7 hy2,List.count_append,List.count_singleton]
      by_cases e:q=y
      .rw [if_pos e,e,if_pos 'd'];exact congrArg V.int 'a'
      .rw [if_neg e,if_neg (by simpa using fun z:y=q=>e z.symm)];rfl
    .rintro Y H5 ⟨v,rfl,hf5,S5,j0⟩;walk_at "rd";refine ⟨hf5,S5,?_⟩;rw [A6,M3] at j0;rw [j0];refine congrArg (fun x=>some (HO.dK x)) (V4 fun q _=>?_);rw [M7 ht,aiQ (wX tnd ht)]
   .rintro Y H4 ⟨u,w,rfl,hf,S4,mN⟩;rw [k8,M3] at mN;walk_at "rd";refine q c _ nc (S4.thaw hd) ?_;rw [A7 ndc.symm,mN];exact congrArg (fun x=>some (HO.dK x)) (V4 fun t _=>by rw [akh (fun e he=>(hE e he).1)])
theorem sc_lined_up:FnScope ["rows", "after", "ahead", "pieces", "numbers", "free", "line", "number", "other"] ["rows"] (C1 R6):=E6
abbrev cW:List Str:=["rows", "after", "ahead", "pieces", "numbers", "free", "line", "number", "other"]
theorem vaA:VS cW R6 "rows" 0:=vq
theorem yP:VS cW R6 "after" 1:=vq
theorem vaC:VS cW R6 "ahead" 2:=vq
theorem oR:VS cW R6 "pieces" 3:=vq
theorem vaE:VS cW R6 "numbers" 4:=vq
theorem sQ:VS cW R6 "free" 5:=vq
theorem yQ:VS cW R6 "line" 6:=vq
theorem yR:VS cW R6 "number" 7:=vq
theorem yS:VS cW R6 "other" 8:=vq
theorem vaJ:LS R6 "after":=lq
theorem vaK:LS R6 "ahead":=lq
theorem vaL:LS R6 "pieces":=lq
theorem vaM:LS R6 "numbers":=lq
theorem vaN:LS R6 "free":=lq
theorem vaO:LS R6 "line":=lq
theorem vaP:LS R6 "number":=lq
theorem vaQ:LS R6 "other":=lq
theorem aht(F:FunD K "lined_up" "lined_up" R6 f fd)(T:Txt P w K mg C)(G_followers:FO P w K mg base 2 "followers" ["rows"] [] spFol)(G_count_ahead:FO P w K mg base 1 "count_ahead" ["after"] [] akj):FnOk P w K mg base E2 3 f fd ["rows"] akk:=by
 refine F.ok sc_lined_up ?_ ?_
 .rintro _ _ _ _ ⟨a,rs,zss,rank,rfl,_⟩;rfl
 .intro cdv A outer s H vs Q E hr h;have B3:=hu_of hr;have hu:=hr.units;refine ⟨_,QSs.out (A5 (C8 (n:=1) sc_lined_up.nd rfl vaJ (D7 G_followers (hm hr) (qa_c (vi vaA) A2)))
   (A5 (C8 (n:=2) sc_lined_up.nd rfl vaK (D7 G_count_ahead (hm hr) (qa_c (vi yP) A2)))
   (A5 (C8 (n:=3) sc_lined_up.nd rfl vaL (qe_cT (rL (K:=K) (calm:=true)) T.b_list kN (qa_c (vi yP) A2)))
   (A5 (C8 (n:=4) sc_lined_up.nd rfl vaM (qe_cT (ake (K:=K) (calm:=true)) T.b_dict ajX (qa_c (f9  (V5:CompOk ["rows", "after", "ahead", "pieces", "numbers", "free", "line", "number", "other"] (C1 R6).names _ ["number", "piece"] 2 []) (wY T.b_enumerate (qa_c (vi oR) A2)) (fun _ _ _ _ _=>(cK (K:=K) (n:=2) (R5 (D3 (n:=0) (show List.Nodup (["number", "piece"]:List Str) by decide +kernel) rfl (Or.inl rfl)) (R5 (D3 (n:=1) (show List.Nodup (["number", "piece"]:List Str) by decide +kernel) rfl (Or.inl rfl)) cJ)))) (fun _ _ _ _ _=>k6) (fun _ _ _ _ _=>(F9 (qa_c (qv 1) (qa_c (qv 0) A2))))) A2)))
   (A5 (nP (n:=5) sc_lined_up.nd rfl vaN (V5:CompOk ["rows", "after", "ahead", "pieces", "numbers", "free", "line", "number", "other"] (C1 R6).names _ ["piece", "numbers", "ahead"] 1 [4,2]) (O5 (K:=K) (vi oR)) (fun _ _ _ _ _=>D3 (n:=0) (show List.Nodup (["piece", "numbers", "ahead"]:List Str) by decide +kernel) rfl (Or.inl rfl)) (fun _ _ _ _ _=>(kS (E1 'k' (f8 B3 (qv 2) (qv 0)) A1))) (fun _ _ _ _ _=>(f8 B3 (qv 1) (qv 0))))
   (A5 (C8 (n:=6) sc_lined_up.nd rfl vaO (R4 A2))
   (A5 (rK PassesOwn.never (P8 (K:=K) (vi sQ)) (A5 (C8 (n:=7) sc_lined_up.nd rfl vaP (qe_cB (arF (calm:=true)) T.b_min arm (qa_c (vi sQ) A2)))
   (A5 (T0 (qe_mB (K:=K) W2 PySem.F.slot_list_remove PySem.F.type_list_remove akw (vi sQ) (qa_c (vi yR) A2)))
   (A5 (T0 (qe_mB (K:=K) W2 j8 j7 k7 (vi yQ) (qa_c (qe_ix (K:=K) (vi oR) (vi yR)) A2)))
   (A4 (M0 PassesOwn.never (O5 (K:=K) (f8 B3 (vi yP) (qe_ix (K:=K) (vi oR) (vi yR)))) (D3 (n:=8) sc_lined_up.nd rfl vaQ 'f') (A5 (aj5 B3 (vi vaC) (vi yS) A1 arq)
   (A4 (qs_if (E1 'k' (f8 B3 (vi vaC) (vi yS)) A1) (A4 (T0 (qe_mB (K:=K) W2 j8 j7 k7 (vi sQ) (qa_c (f8 B3 (vi vaE) (vi yS)) A2)))) E8)))))))))
   (A5 (qs_if (E1 q_lt (qe_cB (q_len (K:=K)) T.b_len f7 (qa_c (vi yQ) A2)) (qe_cB (q_len (K:=K)) T.b_len f7 (qa_c (vi oR) A2))) (A4 kP) E8)
   (A4 (C5 (vi yQ))))))))))),?_⟩
  obtain ⟨a,rs,zss,rank,rfl,hR,hz,aA,q⟩:=h;walk_at "rd";have A9:(toldL zss).length<=100000:=N8 (nO zss) hz;have hElen:(edges zss).length<=100000:=N8 (ags zss) hz;have tnd:=kU zss;have etold:∀ e∈edges zss,e.1∈toldL zss/\e.2∈toldL zss:=fun e he=>aiS he
  refine ⟨a,rs,zss,rfl,hR,hz,fun d ad H1 nd S1 hd dl=>?_⟩;generalize bR:toldL zss=ts at *;generalize hEE:edges zss=E at *;refine ⟨d,ts,ad,E,rfl,hd,tnd,A9,hElen,dl.row,etold,fun c H2 nc S2 hc=>?_⟩;walk_at "rd";refine rListR.d (.of (S2 _ _ hd)) fun w nw=>?_
  rw [amg];have fZ:=S1.trans S2;have ncH:H c=none:=S1.free nc;have V7:=S2 _ _ hd;have ncd:c≠d:=fun e=>by rw [e,hd] at nc;cases nc
  have nac:∀ t∈ts,ad t≠c:=fun t ht e=>by have:=dl.row t ht;rw [e,nc] at this;cases this
  have uC:A0 H2 w (.lst (ts.map V.str)) w=some (.lst (ts.map V.str)):=A3;have Sw:Same H2 (A0 H2 w (.lst (ts.map V.str))):=Same.new nw;generalize A0 H2 w (.lst (ts.map V.str))=H3 at uC Sw ⊢
  have idx:∀ {i:Nat} {z:Str},ts[i]?=some z->ts.idxOf z=i:=fun {i z} h=>by
   obtain ⟨hi,rfl⟩:=E5.mp h;exact List.Nodup.idxOf_getElem tnd i hi
  refine ⟨w,rfl,⟨_,uC⟩,compE (xs:=ts.map V.str) [] rfl (fun D i ys H4=>∃ qs:List Addr,ys=qs.map V.ref/\Same H3 H4/\Paired (fun q t=>H4 q=some (.tup [.str t,.int (ts.idxOf t:Nat)])) qs (ts.take i)) (fun D nD=>⟨[],rfl,Same.new nD,.nil⟩) (by rintro D i ys H4 nD _ ⟨_,_,S,_⟩;exact S _ _ uC) ?_ ?_⟩
  .rintro D i x t ys H4 nD hi hx ⟨qs,rfl,S,P4⟩ hD hy nt;obtain ⟨z,hz,rfl⟩:=G5 hx;rw [A6] at hi hy;walk_at "rd";refine ⟨by decide,fun p np=>⟨C9 (C9 hD nt) np,by rw [A6];exact L8 'a',kY.put (by rw [A6];exact hi) (by rw [A6];exact hy) ⟨qs++[p],by rw [D0];rfl,((S.trans (Same.new nt)).trans (Same.new np)).put nD,?_⟩⟩⟩;rw [M7 hz];refine Paired.snoc (N9 P4 fun q t' h=>?_) ?_
   .rw [A7 (fun e=>by rw [e,hD] at h;cases h)];exact C9 (C9 h nt) np
   .rw [A7 (fun e=>by rw [e,C9 hD nt] at np;cases np),A3,idx hz]
  rintro D ys H4 nD ⟨qs,rfl,S34,P4⟩ hD hy;rw [A6,M3] at P4;refine ⟨rfl,D,qs,_,rfl,.of hD,ah9 (f:=fun t=>.int (ts.idxOf t:Nat)) P4,fun nm nnm=>?_⟩;rw [show Y1 [] (C2 ts fun t=>V.int (ts.idxOf t:Nat))=C2 ts fun t=>V.int (ts.idxOf t:Nat) from agx (pre:=[]) (by simpa using tnd)];have S5:Same H2 (A0 H4 nm (.dK (C2 ts fun t=>V.int (ts.idxOf t:Nat)))):=(Sw.trans S34).trans (Same.new nnm);have dO:A0 H4 nm (.dK (C2 ts fun t=>V.int (ts.idxOf t:Nat))) w=some (.lst (ts.map V.str)):=C9 (S34 _ _ uC) nnm;have hnm:A0 H4 nm (.dK (C2 ts fun t=>V.int (ts.idxOf t:Nat))) nm=some (.dK (C2 ts fun t=>V.int (ts.idxOf t:Nat))):=A3;have mN:H4 c=some (.dK (C2 ts fun t=>.int (cnt E [] t:Nat))):=S34 _ _ (Sw _ _ hc);have ncn:c≠nm:=fun e=>by rw [<- e,mN] at nnm;cases nnm
  generalize A0 H4 nm (.dK (C2 ts fun t=>V.int (ts.idxOf t:Nat)))=H5 at S5 dO hnm ⊢
  have j0:=S5 _ _ hc;have hd5:=S5 _ _ V7;have mG:∀ t∈ts,H5 (ad t)=some (.lst ((G0 E t).map V.str)):=fun t ht=>S5 _ _ (S2 _ _ (dl.row t ht))
  have S05:=fZ.trans S5;have ncw:c≠w:=fun e=>by rw [e,dO] at j0;cases j0
  refine ⟨w,rfl,⟨_,.of dO⟩,compL (xs:=ts.map V.str) [some (.ref nm),some (.ref c)] rfl (fun D i ys H6=>∃ fr:List Int,ys=fr.map V.int/\Same H5 H6/\FS (ts.take i) [] (fun q=>cnt E [] q=0) fr) (fun D nD=>⟨[],rfl,Same.new nD,FS.nil _⟩) (by rintro D i ys H6 nD _ ⟨_,_,S,_⟩;exact .of (S _ _ dO)) ?_ ?_⟩
  .rintro D i x ys H6 nD hi hx ⟨fr,rfl,S,F⟩ hD hy;obtain ⟨z,hz,rfl⟩:=G5 hx;have hzt:z∈ts:=G6 hz;have o3:i<ts.length:=(E5.mp hz).1;rw [A6] at hy;have hs:=F.snoc (i:=i) (q:=z) (by rw [G7];lia) 'd';rw [<- M7 hz] at hs;walk_at "rd";refine ⟨V.int (cnt E [] z:Nat),.inl ⟨_,Sum.inr z,.inl (S _ _ j0),rfl,by rw [Q5,if_pos hzt]⟩,?_⟩
   try walk_at "rd"
   refine iteD (fun h0=>⟨V.int (ts.idxOf z:Nat),.inl ⟨_,Sum.inr z,.inl (S _ _ hnm),rfl,by rw [Q5,if_pos hzt]⟩,hD,by rw [A6];exact L8 'a',CW.put hi (by rw [A6];exact hy) ⟨fr++[(i:Int)],by rw [D0,idx hz];rfl,S.put nD,hs.1 'a'⟩⟩) fun h0=>⟨hD,wH hi (by rw [A6];exact hy) ⟨fr,rfl,S,hs.2 'a'⟩⟩
  rintro f ys H6 nf ⟨fr,rfl,S56,F0⟩ hf6 hy;rw [A6,M3] at F0;intro ln nln;have nln5:H5 ln=none:=S56.free nln;have dP:f≠ln:=fun e=>by rw [e,nln] at hf6;cases hf6
  have frlen:∀ {line fr z},FS ts line z fr->fr.length<=ts.length:=fun {line fr z} F=>by
   have h1:∀ n∈fr,n∈(U9 ts.length).map fun (n:Nat)=>(n:Int):=fun n hn=>by
    obtain ⟨m,q,e,h2,_⟩:=(F.2 n).mp hn;exact C6.mpr ⟨m,j6.mpr (E5.mp h2).1,e.symm⟩
   have:=afi F.1 h1
   simpa using this
  refine rM (fun m Y H7=>∃ (u v:Option V) (line:List Str) (fr:List Int),Y=[some (.ref a),some (.ref d),some (.ref c),some (.ref w),some (.ref nm),some (.ref f),some (.ref ln),u,v]/\SameBut c H5 H7/\
    H7 c=some (.dK (C2 ts fun t=>.int (cnt E line t:Nat)))/\H7 f=some (.lst (fr.map V.int))/\FS ts line (fun q=>cnt E line q=0) fr/\H7 ln=some (.lst (line.map V.str))/\V3 E ts line/\m=ts.length-line.length) ts.length
   ⟨none,none,[],fr,rfl,fun b o _ h=>C9 (S56 _ _ h) nln,C9 (S56 _ _ j0) nln,C9 hf6 nln,F0,A3,V3.nil _ _,rfl⟩ ?_
  rintro m Y H7 ⟨u,v,line,fr,rfl,B7,hc7,uD,F,mO,run,rfl⟩;have S07:Same H H7:=B7.same S05 ncH;walk_at "rd";refine ⟨_,wP uD,?_⟩
  by_cases dQ:fr=[]
  .have dC:∀ p∈ts,p∈line:=fun p hp=>Classical.byContradiction fun hn=>by
    obtain ⟨q',hq⟩:=amf (line:=line) aA (fun e he=>(etold e he).1) ⟨p,hp,hn⟩;obtain ⟨h1,h2,h3⟩:=kT hq;obtain ⟨k,hk⟩:=jS.mp h1
    have:=(F.2 (k:Int)).mpr ⟨k,q',rfl,hk,h2,h3⟩
    rw [dQ] at this
    cases this
   have dR:=rP tnd run dC;rw [dQ];refine iteF ?_
   try walk_at "rd"
   refine ⟨line.length,.inl ⟨_,.of mO,by rw [A6]⟩,ts.length,.inl ⟨_,.of (B7 _ _ ncw.symm dO),by rw [A6]⟩,?_⟩
   try walk_at "rd"
   exact iteD (fun h=>absurd h 'a') fun _=>q ln line H7 (S05.free nln5) S07 mO run dC
  rw [show (!(fr.map V.int).isEmpty)=true by cases fr with | nil=>exact absurd rfl dQ | cons=>rfl];refine iteT ⟨fun σ' H'=>∃ (u v:Option V) (line':List Str) (fr:List Int),σ'=[some (.ref a),some (.ref d),some (.ref c),some (.ref w),some (.ref nm),some (.ref f),some (.ref ln),u,v]/\SameBut c H5 H'/\
    H' c=some (.dK (C2 ts fun t=>.int (cnt E line' t:Nat)))/\H' f=some (.lst (fr.map V.int))/\FS ts line' (fun q=>cnt E line' q=0) fr/\H' ln=some (.lst (line'.map V.str))/\V3 E ts line'/\ts.length-line'.length<ts.length-line.length,?_,?_⟩
  .rintro σ' H' ⟨u,v,line',fr',rfl,h1,h2,h3,h4,h5,h6,h7⟩;exact ⟨_,h7,⟨_,_,rfl⟩,h1,line',h2,fr',h3,h4,h5,h6,rfl⟩
  try walk_at "rd"
  refine ⟨fr,uD,dQ,fun M hM jB=>?_⟩;obtain ⟨mm,p,rfl,hpm,j3⟩:=ahd F hM jB;obtain ⟨pY,bN,uE⟩:=kT j3;have hll:line.length<ts.length:=by
   have h1:(line++[p]).Nodup:=(run.snoc j3).nodup;have h3:=agt h1 fun x hx=>(run.snoc j3).sub hx
   rw [D9,Y8] at h3;lia
  have F1:=F.take tnd hpm
  try walk_at "rd"
  refine ⟨V2 uD,arE uD hM ?_⟩;have hwf:w≠f:=fun e=>by rw [e,nf] at dO;cases dO
  have hcf:c≠f:=fun e=>by rw [e,nf] at j0;cases j0
  have hcl:c≠ln:=fun e=>by rw [e,nln5] at j0;cases j0
  have B8:SameBut c H5 (A0 H7 f (.lst ((fr.erase (mm:Int)).map V.int))):=B7.put nf;have uF:A0 H7 f (.lst ((fr.erase (mm:Int)).map V.int)) ln=some (.lst (line.map V.str)):=by rw [A7 dP.symm];exact mO
  have hf8:A0 H7 f (.lst ((fr.erase (mm:Int)).map V.int)) f=some (.lst ((fr.erase (mm:Int)).map V.int)):=A3;have hc8:A0 H7 f (.lst ((fr.erase (mm:Int)).map V.int)) c=some (.dK (C2 ts fun t=>.int (cnt E line t:Nat))):=by rw [A7 hcf];exact hc7
  generalize A0 H7 f (.lst ((fr.erase (mm:Int)).map V.int))=H8 at B8 uF hf8 hc8 ⊢
  have atp:F8 (ts.map V.str) (mm:Int)=some (V.str p):=G8 (by rw [U4,hpm];rfl);refine ⟨V2 uF,_,.inl (.of (B8 _ _ ncw.symm dO)),V.str p,atp,appOk uF (by rw [A6];exact L8 'a') ?_⟩;have B9:SameBut c H5 (A0 H8 ln (.lst (line.map V.str++[V.str p]))):=B8.put nln5;have hl9:A0 H8 ln (.lst (line.map V.str++[V.str p])) ln=some (.lst ((line++[p]).map V.str)):=by rw [A3,D0];rfl
  have hf9:A0 H8 ln (.lst (line.map V.str++[V.str p])) f=some (.lst ((fr.erase (mm:Int)).map V.int)):=by rw [A7 dP];exact hf8
  have hc9:A0 H8 ln (.lst (line.map V.str++[V.str p])) c=some (.dK (C2 ts fun t=>.int (cnt E line t:Nat))):=by rw [A7 hcl];exact hc8
  generalize A0 H8 ln (.lst (line.map V.str++[V.str p]))=H9 at B9 hl9 hf9 hc9 ⊢
  refine ⟨_,.inl (.of (B9 _ _ ncw.symm dO)),V.str p,atp,V.ref (ad p),.inl ⟨_,Sum.inr p,.inl (B9 _ _ ncd.symm hd5),rfl,by rw [Q5,if_pos pY]⟩,ad p,rfl,⟨_,.of (B9 _ _ (nac p pY) (mG p pY))⟩,
   forL (xs:=(G0 E p).map V.str) (fun j Y H7=>∃ (x:Option V) (fr:List Int),Y=[some (.ref a),some (.ref d),some (.ref c),some (.ref w),some (.ref nm),some (.ref f),some (.ref ln),some (.int (mm:Int)),x]/\SameBut c H5 H7/\
    H7 c=some (.dK (C2 ts fun t=>.int ((cnt E line t:Nat)-(((G0 E p).take j).count t:Nat))))/\H7 f=some (.lst (fr.map V.int))/\FS ts (line++[p]) (fun q=>cnt E line q=((G0 E p).take j).count q) fr/\H7 ln=some (.lst ((line++[p]).map V.str)))
   ⟨v,_,rfl,B9,?_,hf9,F1.congr fun q=>'d',hl9⟩ (by rintro j Y H7 _ ⟨_,_,_,B,_⟩;exact .of (B _ _ (nac p pY) (mG p pY))) ?_ ?_⟩
  .rw [hc9];exact congrArg (fun x=>some (HO.dK x)) (V4 fun t _=>congrArg V.int 'd')
  .rintro j v5 Y m9 hv5 ⟨x,fr,rfl,B,aB,jF,F,jG⟩;obtain ⟨y,hy,rfl⟩:=G5 hv5;have fY:y∈ts:=by
    have:=G6 hy
    unfold G0 at this;obtain ⟨e,he,rfl⟩:=C6.mp this;exact (etold e (X4.mp he).1).2
   have dF:((G0 E p).take j).count y<cnt E line y:=by
    have h1:=ah6 (E:=E) (q:=y) bN;have h2:(G0 E p).count y=((G0 E p).take (j+1)).count y+((G0 E p).drop (j+1)).count y:=by rw [<- List.count_append,j4]
    rw [M7 hy,List.count_append,List.count_singleton,if_pos 'd'] at h2;lia
   have hyb:y∉line++[p]:=fun hm=>by
    rcases G3.mp hm with hm | hm
    .have:=amp run hm;lia
    .rw [E7.mp hm] at dF;lia
   obtain ⟨my,hmy⟩:=jS.mp fY;have pZ:∀ q,((G0 E p).take (j+1)).count q=((G0 E p).take j).count q+if y=q then 1 else 0:=fun q=>by
    rw [M7 hy,List.count_append,List.count_singleton]
    by_cases e:y=q
    .rw [if_pos e,if_pos (by simpa using e)]
    .rw [if_neg e,if_neg (by simpa using e)]
   have turn:=F.turn (z':=fun q=>cnt E line q=((G0 E p).take (j+1)).count q) tnd (y:=y) (fun q hq=>by rw [pZ,if_neg (fun e=>hq e.symm),Nat.add_zero]) 'a' hmy hyb;have U1:C2 ts (fun t=>V.int (if t=y then (cnt E line y:Nat)-(((G0 E p).take j).count y:Nat)-1 else (cnt E line t:Nat)-(((G0 E p).take j).count t:Nat)))=C2 ts (fun t=>V.int ((cnt E line t:Nat)-(((G0 E p).take (j+1)).count t:Nat))):=V4 fun q _=>by
    rw [pZ]
    by_cases e:q=y
    .rw [if_pos e,e,if_pos rfl];exact congrArg V.int 'a'
    .rw [if_neg e,if_neg (fun z=>e z.symm)];exact congrArg V.int 'a'
   walk_at "rd";refine ⟨_,.inl ⟨_,Sum.inr y,.inl aB,rfl,by rw [Q5,if_pos fY]⟩,_,_,rfl,rfl,_,cI (k:=Sum.inr y) aB (by rw [k8];exact L8 'a'),?_⟩;have dS:A0 m9 c (.dK (putK (C2 ts fun t=>V.int ((cnt E line t:Nat)-(((G0 E p).take j).count t:Nat))) (Sum.inr y) (V.int ((cnt E line y:Nat)-(((G0 E p).take j).count y:Nat)-1)))) c=some (.dK (C2 ts (fun t=>V.int ((cnt E line t:Nat)-(((G0 E p).take (j+1)).count t:Nat))))):=by
    rw [A3,nS _ fY,<- U1];refine congrArg (fun x=>some (HO.dK x)) (V4 fun q _=>?_)
    by_cases e:q=y
    .rw [if_pos e,if_pos e]
    .rw [if_neg e,if_neg e]
   have B11:SameBut c H5 (A0 m9 c (.dK (putK (C2 ts fun t=>V.int ((cnt E line t:Nat)-(((G0 E p).take j).count t:Nat))) (Sum.inr y) (V.int ((cnt E line y:Nat)-(((G0 E p).take j).count y:Nat)-1))))):=B.at;have dU:A0 m9 c (.dK (putK (C2 ts fun t=>V.int ((cnt E line t:Nat)-(((G0 E p).take j).count t:Nat))) (Sum.inr y) (V.int ((cnt E line y:Nat)-(((G0 E p).take j).count y:Nat)-1)))) f=some (.lst (fr.map V.int)):=by rw [A7 hcf.symm];exact jF
   have jH:A0 m9 c (.dK (putK (C2 ts fun t=>V.int ((cnt E line t:Nat)-(((G0 E p).take j).count t:Nat))) (Sum.inr y) (V.int ((cnt E line y:Nat)-(((G0 E p).take j).count y:Nat)-1)))) ln=some (.lst ((line++[p]).map V.str)):=by rw [A7 hcl.symm];exact jG
   generalize A0 m9 c (.dK (putK (C2 ts fun t=>V.int ((cnt E line t:Nat)-(((G0 E p).take j).count t:Nat))) (Sum.inr y) (V.int ((cnt E line y:Nat)-(((G0 E p).take j).count y:Nat)-1))))=H11 at dS B11 dU jH ⊢
   refine ⟨V.int ((cnt E line y:Nat)-(((G0 E p).take (j+1)).count y:Nat)),.inl ⟨_,Sum.inr y,.inl dS,rfl,by rw [Q5,if_pos fY]⟩,?_⟩
   try walk_at "rd"
   have hfl2:=frlen F;refine iteD (fun h0=>⟨V2 dU,V.int (ts.idxOf y:Nat),.inl ⟨_,Sum.inr y,.inl (B11 _ _ ncn.symm hnm),rfl,by rw [Q5,if_pos fY]⟩,appOk dU (by rw [A6];exact L8 'a') ?_⟩) fun h0=>?_
   .refine ⟨B11.put nf,?_,fr++[(my:Int)],?_,turn.1 'a',?_⟩
    .rw [A7 hcf];exact dS
    .rw [A3,D0,idx hmy];rfl
    .rw [A7 dP.symm];exact jH
   .exact ⟨B11,dS,fr,dU,turn.2 'a',jH⟩
  .rintro Y m9 ⟨x,fr,rfl,B,aB,jF,F,jG⟩;rw [A6,M3] at aB F;have gA:∀ q,cnt E line q=cnt E (line++[p]) q+(G0 E p).count q:=fun q=>ah6 (E:=E) (q:=q) bN
   refine ⟨⟨_,_,rfl⟩,B,line++[p],?_,fr,jF,F.congr fun q=>?_,jG,run.snoc j3,by rw [D9,Y8];lia⟩
   .rw [aB];exact congrArg (fun x=>some (HO.dK x)) (V4 fun q _=>congrArg V.int (by have:=gA q;lia))
   .have:=gA q
    lia
theorem agO:FnScope ["sign"] ["sign"] (C1 sB):=E6
abbrev ahu:List Str:=["sign"]
theorem vaR:VS ahu sB "sign" 0:=vq
theorem agP(F:FunD K "is_figure" "is_figure" sB f fd)(T:Txt P w K mg C):FnOk P w K mg base E2 1 f fd ["sign"] kZ:=by
 refine F.ok agO ?_ ?_
 .rintro _ _ _ _ ⟨c,rfl,_⟩;rfl
 .intro cdv A outer s H vs Q E hr h;have B3:=hu_of hr;have hu:=hr.units;refine ⟨_,QSs.out (A4 (C5 (al3 q_le q_le O3 (vi vaR) O3))),?_⟩;obtain ⟨c,rfl,q⟩:=h;walk_at "rd";have e1:(Str.ofString "0").cps.toList=[48]:=by decide +kernel
  have e2:(Str.ofString "9").cps.toList=[57]:=by decide +kernel
  rw [e1,e2];simp only [arA];refine iteN (fun h1=>?_) fun h1=>?_
  .have e:figO c=!decide (57<c):=by
    unfold figO;rw [decide_eq_true (by lia:48<=c)]
    by_cases h2:c<=57
    .rw [decide_eq_true h2,decide_eq_false (by lia:¬ 57<c)];rfl
    .rw [decide_eq_false h2,decide_eq_true (by lia:57<c)];rfl
   rw [e] at q;exact q
  .have e:figO c=false:=by unfold figO;rw [decide_eq_false (by lia:¬ 48<=c)];rfl
   rw [e] at q;exact q
theorem ahv:FnScope ["rules", "word"] ["rules", "word"] (C1 oI):=E6
abbrev ajc:List Str:=["rules", "word"]
theorem vaS:VS ajc oI "rules" 0:=vq
theorem ahw(F:FunD K "has_rule" "has_rule" oI f fd)(T:Txt P w K mg C):FnOk P w K mg base E2 1 f fd ["rules", "word"] (spHas K):=by
 refine F.ok ahv ?_ ?_
 .rintro _ _ _ _ ⟨a,ts,R,w,rfl,_⟩;rfl
 .intro cdv A outer s H vs Q E hr h;have B3:=hu_of hr;have hu:=hr.units;refine ⟨_,QSs.out (A4 (C5 (qe_cB (q_any (calm:=true)) T.b_any amY (qa_c (f9  (V5:CompOk ["rules", "word"] (C1 oI).names _ ["rule", "word"] 1 [1]) (O5 (K:=K) (vi vaS)) (fun _ _ _ _ _=>D3 (n:=0) (show List.Nodup (["rule", "word"]:List Str) by decide +kernel) rfl (Or.inl rfl)) (fun _ _ _ _ _=>k6) (fun _ _ _ _ _=>(q0 'k' (qe_ix (K:=K) (qv 0) A1) (qv 1)))) A2)))),?_⟩;obtain ⟨a,ts,R,w,rfl,hR,hl,q⟩:=h;walk_at "rd";refine ⟨⟨_,.of hR.top⟩,compL (xs:=ts.map V.ref) [some (.str w)] rfl (fun D i ys H4=>ys=((R.take i).map fun z=>decide (z.1=w)).map V.bl/\Same H H4) (fun D nD=>⟨rfl,Same.new nD⟩) (by rintro D i ys H4 nD _ ⟨_,S⟩;exact .of (S _ _ hR.top)) ?_ ?_⟩
  .rintro D i x ys H4 nD hi hx ⟨rfl,S⟩ hD hy;obtain ⟨t,ht,rfl⟩:=G5 hx;obtain ⟨z,hz,E3⟩:=Paired.at hR.row ht;have bO:i<R.length:=(E5.mp hz).1;walk_at "rd";refine ⟨_,.inr (.of (S _ _ E3)),V.str z.1,J5 _ _,?_⟩;walk_at "rd";refine ⟨hD,by rw [A6,A6,G7];exact L8 'a',CW.put hi hy ⟨?_,S.put nD⟩⟩;rw [v4,hz]
   simp
  rintro D ys H4 nD ⟨rfl,S⟩ hD hy;rw [A6,hR.len,M3] at hD;refine ⟨_,rfl,hD,?_⟩;have e:((R.map fun z=>decide (z.1=w)).any id)=hasW R w:=by
   unfold hasW;rw [List.any_map];rfl
  rw [e];exact q H4 S
theorem aeW:FnScope ["rule"] ["rule"] (C1 sC):=E6
abbrev afX:List Str:=["rule"]
theorem lR:VS afX sC "rule" 0:=vq
theorem aeX(F:FunD K "pieces_told" "pieces_told" sC f fd)(T:Txt P w K mg C):FnOk P w K mg base E2 1 f fd ["rule"] (akm K):=by
 refine F.ok aeW ?_ ?_
 .rintro _ _ _ _ ⟨t,z,rfl,_⟩;rfl
 .intro cdv A outer s H vs Q E hr h;have B3:=hu_of hr;have hu:=hr.units;obtain ⟨a_JOBS,m_JOBS,M_JOBS⟩:=T.x_JOBS;refine ⟨_,QSs.out (A5 (qs_if (E1 'k' (qe_ix (K:=K) (vi lR) A1) O3) (A4 (C5 (O4 (K:=K) (vi lR) (M4 A1) Q8))) E8)
   (A5 (qs_if (E1 'k' (qe_ix (K:=K) (vi lR) A1) O3) (A4 (C5 (O4 (K:=K) (vi lR) (M4 A1) (M4 A1)))) E8)
   (A4 (C5 (ah1 (E1 (q_inM M_JOBS) (qe_ix (K:=K) (vi lR) A1) (kO m_JOBS)) (O4 (K:=K) (vi lR) (M4 A1) Q8) (F9 A2)))))),?_⟩
  obtain ⟨t,z,rfl,ht,q⟩:=h;have hT:A8 K H t ((z.1::z.2).map V.str):=.of ht;have A9:1<=((z.1::z.2).map V.str).length:=by rw [A6,L3];lia
  walk_at "rd";refine ⟨_,.inr hT,V.str z.1,J5 _ _,?_⟩;walk_at "rd";refine iteD (fun e=>?_) fun n1=>⟨_,.inr hT,V.str z.1,J5 _ _,?_⟩
  .refine rSlR.t hT (aX (k:=2) 'h' A9) fun p np=>q p _ (Same.new np) (.of ?_)
   rw [A3,show ((2:Int))=((2:Nat):Int) from rfl,r8,F6,List.drop_succ_cons,<- gM];unfold P5;rw [if_pos e]
  walk_at "rd";refine iteD (fun e=>?_) fun n2=>⟨_,.inr hT,V.str z.1,J5 _ _,?_⟩
  .refine rSlR.t hT (aX (k:=1) 'h' A9) fun p np=>q p _ (Same.new np) (.of ?_)
   have ecut:cutV ((z.1::z.2).map V.str) (some 1) (some 2)=(z.2.take 1).map V.str:=by
    unfold cutV
    cases z.2 with
    | nil=>rfl
    | cons y r=>
     have e1:HT.sIx ((z.1::y::r).map V.str).length 0 (some 1)=1:=by
      rw [show ((1:Int))=((1:Nat):Int) from rfl,HT.sIx_nat,A6,L3,L3];lia
     have e2:HT.sIx ((z.1::y::r).map V.str).length ((z.1::y::r).map V.str).length (some 2)=2:=by
      rw [show ((2:Int))=((2:Nat):Int) from rfl,HT.sIx_nat,A6,L3,L3];lia
     rw [e1,e2];rfl
   rw [A3,ecut];unfold P5;rw [if_neg n1,if_pos e]
  walk_at "rd"
  by_cases hj:hV z.1
  .rw [xA hj];refine iteT (rSlR.t hT (aX (k:=1) 'h' A9) fun p np=>q p _ (Same.new np) (.of ?_));rw [A3,F6,wQ];unfold P5;have h3:z.1=("row" : Str)\/z.1=("marks" : Str)\/z.1=("over" : Str):=by
    rcases hj with h | h | h | h | h
    .exact .inl h
    .exact .inr (.inl h)
    .exact absurd h n1
    .exact absurd h n2
    .exact .inr (.inr h)
   rw [if_neg n1,if_neg n2,if_pos h3]
  .rw [aml hj];refine iteF fun p np=>q p _ (Same.new np) (.of ?_)
   rw [A3];unfold P5;rw [if_neg n1,if_neg n2,if_neg (fun h=>hj (by
    rcases h with h | h | h
    .exact .inl h
    .exact .inr (.inl h)
    .exact .inr (.inr (.inr (.inr h)))))]
   rfl
theorem ahx:FnScope ["jobs", "piece", "job", "figures"] ["jobs", "piece", "job", "figures"] (C1 fE):=E6
abbrev sR:List Str:=["jobs", "piece", "job", "figures"]
theorem vaU:VS sR fE "jobs" 0:=vq
theorem yT:VS sR fE "piece" 1:=vq
theorem vaW:VS sR fE "job" 2:=vq
theorem vaX:VS sR fE "figures" 3:=vq
theorem ahy(F:FunD K "is_clash" "is_clash" fE f fd)(T:Txt P w K mg C)(G_is_figure:FO P w K mg base 1 "is_figure" ["sign"] [] kZ):FnOk P w K mg base E2 2 f fd ["jobs", "piece", "job", "figures"] akn:=by
 refine F.ok ahx ?_ ?_
 .rintro _ _ _ _ ⟨d,p,j,fg,ks,g,rfl,_⟩;rfl
 .intro cdv A outer s H vs Q E hr h;have B3:=hu_of hr;have hu:=hr.units;obtain ⟨a_AGAIN,m_AGAIN,M_AGAIN⟩:=T.x_AGAIN;refine ⟨_,QSs.out (A5 (qs_if (QW.pt (q9 (E1 (q_in (K:=K) hu) (vi yT) (vi vaU)) (w8 (QW.pt (qw_or (E1 (q_ne (K:=K) hu) (f8 B3 (vi vaU) (vi yT)) (vi vaW)) (aT (E1 (aj7 (K:=K) hu) (vi vaW) (kO m_AGAIN)))))))) (A4 (C5 qe_bl)) E8)
   (A4 (C5 (am0 (vi vaX) (amZ (qe_cB (q_any (calm:=true)) T.b_any amY (qa_c (f9  (V5:CompOk ["jobs", "piece", "job", "figures"] (C1 fE).names _ ["sign"] 1 []) (am1 (vi yT)) (fun _ _ _ _ _=>D3 (n:=0) (show List.Nodup (["sign"]:List Str) by decide +kernel) rfl (Or.inl rfl)) (fun _ _ _ _ _=>k6) (fun _ _ _ _ _=>(D7 G_is_figure (hm hr) (qa_c (qv 0) A2)))) A2))))))),?_⟩
  obtain ⟨d,p,j,fg,ks,g,rfl,hd,hp,h1,h2,q⟩:=h;walk_at "rd";have tail:(if fg=true then eY (kM p) 1 [] (gName 0) tYes (tCall kZ [] E0 (tCons (tVar 0) tNil)) [some (V.ref d),some (V.str p),some (V.str j),some (V.bl fg)] (fun x H1=>rAnyB true [x] H1 Q) H else Q (V.bl false) H):=by
   by_cases hf:fg=true
   .rw [if_pos hf];refine compS [] rfl (fun D i ys H4=>ys=((p.cps.toList.take i).map figO).map V.bl/\Same H H4) (fun D nD=>⟨rfl,Same.new nD⟩) ?_ ?_
    .rintro D i x ys H4 nD hi hx ⟨rfl,S⟩ hD hy;walk_at "rd";refine ⟨x,rfl,hD,?_,CW.put hi hy ⟨?_,S.put nD⟩⟩
     .rw [A6,A6,G7];exact L8 (by have:p.cps.size=p.length:=rfl;lia)
     .rw [v4,hx]
      simp
    .rintro D ys H4 nD ⟨rfl,S⟩ hD hy;walk_at "rd";refine ⟨_,hD,?_⟩;have e:((p.cps.toList.take p.cps.size).map figO).any id=false:=by
      rw [List.any_eq_false];intro b hb;obtain ⟨c,hc,rfl⟩:=C6.mp hb;rw [h2 hf c (gI hc)];decide
     rw [e];exact q H4 S
   .rw [if_neg hf];exact q H (aQ H)
  refine rInR.d (f6 (k:=Sum.inr p) hd) ⟨_,rfl,?_⟩;rw [Q5,gO]
  by_cases hk:p∈ks
  .obtain ⟨e1,e2⟩:=h1 hk;rw [if_pos hk];refine iteT ⟨V.str (g p),.inl ⟨_,Sum.inr p,.inl hd,rfl,by rw [Q5,if_pos hk]⟩,?_⟩;walk_at "rd";rw [decide_eq_true e1];refine iteF (rInR.l (.inr (M_AGAIN _)) rfl rfl ⟨_,rfl,?_⟩);have e3:eU (.str j) [V.str "letter",V.str "mark",V.str "over"]=true:=by
    have:=ah0 j nV
    rw [decide_eq_true e2] at this;exact this
   rw [e3];exact iteF tail
  .rw [if_neg hk];exact iteF tail
theorem sc_jobs_of:FnScope ["rules", "figures", "jobs", "rule", "piece"] ["rules"] (C1 t5):=E6
abbrev oS:List Str:=["rules", "figures", "jobs", "rule", "piece"]
theorem yU:VS oS t5 "rules" 0:=vq
theorem vaZ:VS oS t5 "figures" 1:=vq
theorem sS:VS oS t5 "jobs" 2:=vq
theorem yV:VS oS t5 "rule" 3:=vq
theorem va2:VS oS t5 "piece" 4:=vq
theorem va3:LS t5 "figures":=lq
theorem va4:LS t5 "jobs":=lq
theorem va5:LS t5 "rule":=lq
theorem va6:LS t5 "piece":=lq
theorem ajd(F:FunD K "jobs_of" "jobs_of" t5 f fd)(T:Txt P w K mg C)(G_has_rule:FO P w K mg base 1 "has_rule" ["rules", "word"] [] (spHas K))(G_pieces_told:FO P w K mg base 1 "pieces_told" ["rule"] [] (akm K))(G_is_clash:FO P w K mg base 2 "is_clash" ["jobs", "piece", "job", "figures"] [] akn):FnOk P w K mg base E2 3 f fd ["rules"] (am5 K):=by
 refine F.ok sc_jobs_of ?_ ?_
 .rintro _ _ _ _ ⟨a,ts,R,g,rfl,_⟩;rfl
 .intro cdv A outer s H vs Q E hr h;have B3:=hu_of hr;have hu:=hr.units;obtain ⟨a_JOBS,m_JOBS,M_JOBS⟩:=T.x_JOBS;refine ⟨_,QSs.out (A5 (C8 (n:=1) sc_jobs_of.nd rfl va3 (D7 G_has_rule (hm hr) (qa_c (vi yU) (qa_c O3 A2))))
   (A5 (C8 (n:=2) sc_jobs_of.nd rfl va4 hG)
   (A5 (M0 PassesOwn.never (O5 (K:=K) (vi yU)) (D3 (n:=3) sc_jobs_of.nd rfl va5 'f') (A4 (M0 PassesOwn.never (cL (K:=K) (D7 G_pieces_told (hm hr) (qa_c (vi yV) A2))) (D3 (n:=4) sc_jobs_of.nd rfl va6 'f') (A5 (qs_if (P8 (K:=K) (D7 G_is_clash (hm hr) (qa_c (vi sS) (qa_c (vi va2) (qa_c (ah3 M_JOBS (kO m_JOBS) (qe_ix (K:=K) (vi yV) A1)) (qa_c (vi vaZ) A2)))))) (A4 kP) E8)
   (A4 (r0 B3 (vi sS) (vi va2) (ah3 M_JOBS (kO m_JOBS) (qe_ix (K:=K) (vi yV) A1))))))))
   (A5 (qs_if (P8 (K:=K) (D7 G_has_rule (hm hr) (qa_c (vi yU) (qa_c O3 A2)))) (A4 (r0 B3 (vi sS) O3 O3)) E8)
   (A4 (C5 (vi sS))))))),?_⟩
  obtain ⟨a,ts,R,g,rfl,hR,hl,Y5,hnc,hbl,q⟩:=h;walk_at "rd";refine ⟨a,ts,R, "figures",rfl,hR,hl,fun H1 S1=>?_⟩;generalize hasW R "figures"=fg at hnc;intro d nd;have uG:H d=none:=S1.free nd;have S2:Same H (A0 H1 d (.dK [])):=fun b o h=>C9 (S1 b o h) nd
  refine ⟨⟨_,.of (S2 _ _ hR.top)⟩,forL (xs:=ts.map V.ref) (fun i Y H2=>∃ (u v:Option V),Y=[some (.ref a),some (.bl fg),some (.ref d),u,v]/\Same H H2/\H2 d=some (.dK (C2 (keysP (C7 (R.take i))) fun t=>.str (g t))))
   ⟨none,none,rfl,S2,by rw [A3];rfl⟩ (by rintro i Y H2 _ ⟨_,_,_,S,_⟩;exact .of (S _ _ hR.top)) ?_ ?_⟩
  .rintro i x Y H2 hx ⟨u,v,rfl,S,hd⟩;obtain ⟨t,ht,rfl⟩:=G5 hx;obtain ⟨z,hz,E3⟩:=Paired.at hR.row ht;walk_at "rd";refine ⟨t,z,rfl,S _ _ E3,fun p H3 S3 hp=>⟨p,rfl,⟨_,hp⟩,forT (xs:=(P5 z).map V.str) (fun j Y H4=>∃ (v:Option V),Y=[some (.ref a),some (.bl fg),some (.ref d),some (.ref t),v]/\A8 K H4 p ((P5 z).map V.str)/\Same H H4/\H4 d=some (.dK (C2 (keysP (C7 (R.take i)++((P5 z).take j).map fun p=>(p,jobD z.1))) fun t=>.str (g t))))
    ⟨v,rfl,hp,S.trans S3,by rw [eI,List.map_nil,M8];exact S3 _ _ hd⟩ (by rintro j Y H4 _ ⟨_,_,h,_⟩;exact h) ?_ ?_⟩⟩
   .rintro j x Y H4 mP ⟨v,rfl,o4,S4,W7⟩;obtain ⟨pc,hpc,rfl⟩:=G5 mP;obtain ⟨e1,e2⟩:=arz hz hpc;obtain ⟨n1,n2,n3,n4⟩:=hnc _ _ _ e1;rw [e2] at n2;have hw:=nW (G6 hpc);have X1:A8 K H4 t ((z.1::z.2).map V.str):=.of (S4 _ _ E3);have m8:(keysP (C7 (R.take i)++((P5 z).take j).map fun p=>(p,jobD z.1))).length<=10000:=by
     have h1:=wZ (C7 (R.take i)++((P5 z).take j).map fun p=>(p,jobD z.1));have h2:=congrArg c0 e2;rw [G7] at h2;lia
    walk_at "rd";refine ⟨_,.inr X1,V.str z.1,J5 _ _,Sum.inr z.1,rfl,V.str (jobD z.1),xA hw,d,pc,jobD z.1,fg,_,g,rfl,W7,n4,fun hk=>⟨n1.symm,n2 ((rS _ _).mp hk)⟩,n3,fun H5 S5=>⟨false,rfl,iteF ⟨_,.inr (X1.same S5),V.str z.1,J5 _ _,Sum.inr z.1,rfl,V.str (jobD z.1),xA hw,_,cI (k:=Sum.inr pc) (S5 _ _ W7) (by rw [k8];exact L8 'a'),(o4.same S5).dput (S5 _ _ W7),(S4.trans S5).put uG,?_⟩⟩⟩;rw [A3,M7 hpc,D0,<- W8];rw [show ([pc].map fun p=>(p,jobD z.1))=[(pc,jobD z.1)] from rfl,aiU];unfold dd
    by_cases E9:pc∈keysP (C7 (R.take i)++((P5 z).take j).map fun p=>(p,jobD z.1))
    .rw [if_pos E9,nS _ E9];refine congrArg (fun x=>some (HO.dK x)) (V4 fun t _=>?_)
     by_cases e:t=pc
     .rw [if_pos e,e,n1]
     .rw [if_neg e]
    .rw [if_neg E9,fA _ E9];refine congrArg (fun x=>some (HO.dK x)) (V4 fun t _=>?_)
     by_cases e:t=pc
     .rw [if_pos e,e,n1]
     .rw [if_neg e]
   .rintro Y H4 ⟨v,rfl,o4,S4,W7⟩;walk_at "rd";refine ⟨S4,?_⟩;rw [afg hz];rw [A6,M3] at W7;exact W7
  .rintro Y H2 ⟨u,v,rfl,S,hd⟩;rw [A6,hR.len,M3] at hd;walk_at "rd";refine ⟨a,ts,R, "blanks",rfl,hR.same S,hl,fun H3 S3=>⟨hasW R "blanks",rfl,?_⟩⟩;have R1:=S3 _ _ hd;have hkn:(" " : Str)∉keysP (C7 R):=fun h=>hbl ((rS _ _).mp h)
   have m8:=wZ (C7 R);have hg:∀ t∈keysP (C7 R),V.str (g t)=jobG g t:=fun t ht=>by
    unfold jobG;rw [if_neg (fun e=>hkn (by rw [<- e];exact ht))]
   by_cases hb:hasW R "blanks"=true
   .rw [hb];refine iteT ⟨_,cI (k:=Sum.inr (" " : Str)) R1 (by rw [k8];exact L8 'a'),q d _ uG ((S.trans S3).put uG) ?_⟩;rw [A3,fA _ hkn];unfold W6;rw [if_pos hb];refine congrArg (fun x=>some (HO.dK x)) (V4 fun t ht=>?_);unfold jobG
    by_cases e:t=(" " : Str)
    .simp only [if_pos e]
    .simp only [if_neg e]
   .rw [cA] at hb;rw [hb];refine iteF (q d _ uG (S.trans S3) ?_);unfold W6;rw [hb,if_neg L9,M8,R1];exact congrArg (fun x=>some (HO.dK x)) (V4 hg)
theorem sc_misused:FnScope ["rule", "jobs", "first"] ["rule", "jobs"] (C1 cN):=E6
abbrev agQ:List Str:=["rule", "jobs", "first"]
theorem oT:VS agQ cN "rule" 0:=vq
theorem va8:VS agQ cN "first" 2:=vq
theorem va9:LS cN "first":=lq
theorem aje(F:FunD K "misused" "misused" cN f fd)(T:Txt P w K mg C):FnOk P w K mg base E2 1 f fd ["rule", "jobs"] (am8 K):=by
 refine F.ok sc_misused ?_ ?_
 .rintro _ _ _ _ ⟨t,d,z,ks,g,rfl,_⟩;rfl
 .intro cdv A outer s H vs Q E hr h;have B3:=hu_of hr;have hu:=hr.units;refine ⟨_,QSs.out (A5 (qs_if (E1 'k' (qe_ix (K:=K) (vi oT) A1) O3) (A4 (C5 (f9  (V5:CompOk ["rule", "jobs", "first"] (C1 cN).names _ ["piece", "jobs"] 1 [1]) (cL (K:=K) (O4 (K:=K) (vi oT) (M4 A1) (M4 A1))) (fun _ _ _ _ _=>D3 (n:=0) (show List.Nodup (["piece", "jobs"]:List Str) by decide +kernel) rfl (Or.inl rfl)) (fun _ _ _ _ _=>(kS (E1 (q_ne (K:=K) hu) (rR B3 (qv 1) (qv 0)) O3))) (fun _ _ _ _ _=>(qv 0))))) E8)
   (A5 (qs_if (E1 'k' (qe_ix (K:=K) (vi oT) A1) O3) (A5 (nP (n:=2) sc_misused.nd rfl va9 (V5:CompOk ["rule", "jobs", "first"] (C1 cN).names _ ["piece", "jobs"] 1 [1]) (cL (K:=K) (O4 (K:=K) (vi oT) (M4 A1) (M4 A1))) (fun _ _ _ _ _=>D3 (n:=0) (show List.Nodup (["piece", "jobs"]:List Str) by decide +kernel) rfl (Or.inl rfl)) (fun _ _ _ _ _=>(kS (E1 (q_ne (K:=K) hu) (rR B3 (qv 1) (qv 0)) O3))) (fun _ _ _ _ _=>(qv 0)))
   (A4 (C5 (qe_op (q_add (K:=K)) (vi va8) (f9  (V5:CompOk ["rule", "jobs", "first"] (C1 cN).names _ ["piece", "jobs"] 1 [1]) (cL (K:=K) (O4 (K:=K) (vi oT) (M4 A1) Q8)) (fun _ _ _ _ _=>D3 (n:=0) (show List.Nodup (["piece", "jobs"]:List Str) by decide +kernel) rfl (Or.inl rfl)) (fun _ _ _ _ _=>(kS (E1 (aj7 (K:=K) hu) (rR B3 (qv 1) (qv 0)) (F9 (qa_c O3 (qa_c O3 A2)))))) (fun _ _ _ _ _=>(qv 0))))))) E8)
   (A4 (C5 (R4 A2))))),?_⟩
  obtain ⟨t,d,z,ks,g,rfl,ht,hd,us,hl,q⟩:=h;have hT:A8 K H t ((z.1::z.2).map V.str):=.of ht;walk_at "rd";refine ⟨_,.inr hT,V.str z.1,J5 _ _,?_⟩;walk_at "rd"
  by_cases h1:z.1='i'
  .rw [decide_eq_true h1];have A9:1<=((z.1::z.2).map V.str).length:=by rw [A6,L3];lia
   refine iteT (rSlR.t hT (aX (k:=1) 'h' A9) fun s ns=>?_);have ecut:cutV ((z.1::z.2).map V.str) (some 1) (some 2)=(z.2.take 1).map V.str:=by
    rw [show cutV ((z.1::z.2).map V.str) (some 1) (some 2)=_ from aib ((z.1::z.2).map V.str) (i:=1) (j:=2) 'h',F6,List.drop_succ_cons,List.drop_zero,<- eJ]
   rw [ecut];have S1:Same H (A0 H s (.tup ((z.2.take 1).map V.str))):=Same.new ns;have hs:A0 H s (.tup ((z.2.take 1).map V.str)) s=some (.tup ((z.2.take 1).map V.str)):=A3;generalize A0 H s (.tup ((z.2.take 1).map V.str))=H1 at S1 hs;refine ⟨s,rfl,⟨_,.of hs⟩,compT (xs:=(z.2.take 1).map V.str) [some (.ref d)] rfl (fun D i ys H2=>ys=[]/\Same H1 H2) (fun D nD=>⟨rfl,Same.new nD⟩) (by rintro D i ys H2 nD _ ⟨_,S⟩;exact .of (S _ _ hs)) ?_ ?_⟩
   .rintro D i y ys H2 nD hi hy ⟨rfl,S⟩ hD Q2;obtain ⟨p,hp,rfl⟩:=G5 hy;obtain ⟨m1,m2⟩:=us.gr h1 p (G6 hp);have V7:=S _ _ (S1 _ _ hd);walk_at "rd";refine ⟨.inl ⟨_,.inl V7⟩,_,f6 (k:=Sum.inr p) V7,?_⟩;rw [Q5,if_pos m1,Option.getD_some,m2];refine ⟨_,rfl,?_⟩;rw [show ∀ v:Str,(!decide (v=v))=false by intro v;simp];exact iteF ⟨hD,hi,F7 _,⟨_,rfl⟩,rfl,S⟩
   .rintro D ys H2 nD ⟨rfl,S⟩ hD Q2;exact q D H2 (S1.free nD) (S1.trans S) hD
  rw [decide_eq_false h1];refine iteF ⟨_,.inr hT,V.str z.1,J5 _ _,?_⟩;walk_at "rd"
  by_cases h2:z.1=("as" : Str)
  .rw [decide_eq_true h2];have A9:1<=((z.1::z.2).map V.str).length:=by rw [A6,L3];lia
   refine iteT (rSlR.t hT (aX (k:=2) 'h' A9) fun s ns=>?_);have ecut:cutV ((z.1::z.2).map V.str) (some 2) (some 3)=((z.2.drop 1).take 1).map V.str:=by
    rw [show cutV ((z.1::z.2).map V.str) (some 2) (some 3)=_ from aib ((z.1::z.2).map V.str) (i:=2) (j:=3) 'h',F6,List.drop_succ_cons,<- gM,<- eJ]
   rw [ecut];have S1:Same H (A0 H s (.tup (((z.2.drop 1).take 1).map V.str))):=Same.new ns;have hs:A0 H s (.tup (((z.2.drop 1).take 1).map V.str)) s=some (.tup (((z.2.drop 1).take 1).map V.str)):=A3;generalize A0 H s (.tup (((z.2.drop 1).take 1).map V.str))=H1 at S1 hs;refine ⟨s,rfl,⟨_,.of hs⟩,compT (xs:=((z.2.drop 1).take 1).map V.str) [some (.ref d)] rfl (fun D i ys H2=>ys=[]/\Same H1 H2) (fun D nD=>⟨rfl,Same.new nD⟩) (by rintro D i ys H2 nD _ ⟨_,S⟩;exact .of (S _ _ hs)) ?_ ?_⟩
   .rintro D i y ys H2 nD hi hy ⟨rfl,S⟩ hD Q2;obtain ⟨p,hp,rfl⟩:=G5 hy;obtain ⟨m1,m2⟩:=us.a1 h2 p (G6 hp);have V7:=S _ _ (S1 _ _ hd);walk_at "rd";refine ⟨.inl ⟨_,.inl V7⟩,_,f6 (k:=Sum.inr p) V7,?_⟩;rw [Q5,if_pos m1,Option.getD_some,m2];refine ⟨_,rfl,?_⟩;rw [show ∀ v:Str,(!decide (v=v))=false by intro v;simp];exact iteF ⟨hD,hi,F7 _,⟨_,rfl⟩,rfl,S⟩
   rintro D ys H2 nD ⟨rfl,S⟩ hD Q2;have S2:=S1.trans S;have hT2:A8 K H2 t ((z.1::z.2).map V.str):=.of (S2 _ _ ht);refine rSlR.t hT2 (aX (k:=3) 'h' A9) fun s2 ns2=>?_
   have ecut2:cutV ((z.1::z.2).map V.str) (some 3) none=(z.2.drop 2).map V.str:=by
    rw [show cutV ((z.1::z.2).map V.str) (some 3) none=_ from r8 ((z.1::z.2).map V.str) 3,F6,List.drop_succ_cons,<- gM]
   rw [ecut2];have S3:Same H2 (A0 H2 s2 (.tup ((z.2.drop 2).map V.str))):=Same.new ns2;have cZ:A0 H2 s2 (.tup ((z.2.drop 2).map V.str)) s2=some (.tup ((z.2.drop 2).map V.str)):=A3;generalize A0 H2 s2 (.tup ((z.2.drop 2).map V.str))=H3 at S3 cZ;refine ⟨s2,rfl,⟨_,.of cZ⟩,compT (xs:=(z.2.drop 2).map V.str) [some (.ref d)] rfl (fun D i ys H4=>ys=[]/\Same H3 H4) (fun D nD=>⟨rfl,Same.new nD⟩) (by rintro D i ys H4 nD _ ⟨_,S⟩;exact .of (S _ _ cZ)) ?_ ?_⟩
   .rintro D2 i y ys H4 nD2 hi hy ⟨rfl,S4⟩ hD2 hyl2;obtain ⟨p,hp,rfl⟩:=G5 hy;obtain ⟨m1,m2⟩:=us.a2 h2 p (G6 hp);have W7:=S4 _ _ (S3 _ _ (S2 _ _ hd));walk_at "rd";refine ⟨.inl ⟨_,.inl W7⟩,_,f6 (k:=Sum.inr p) W7,?_⟩;rw [Q5,if_pos m1,Option.getD_some];refine ⟨by decide,fun v nv=>?_⟩;have fin:eU (g p) [V.str (Str.ofString "letter"),V.str (Str.ofString "mark")]=true/\flatV (g p)=true:=by
     rcases m2 with m2 | m2 <;> rw [m2] <;> exact ⟨by decide +kernel,rfl⟩
    refine rInR.l (.inr (.of A3)) fin.2 rfl ?_;rw [fin.1,Bool.true_xor];exact ⟨_,rfl,iteF ⟨C9 hD2 nv,hi,F7 _,⟨_,rfl⟩,rfl,S4.trans (Same.new nv)⟩⟩
   rintro D2 ys H4 nD2 ⟨rfl,S4⟩ hD2 hyl2;have hD4:=S4 _ _ (S3 _ _ hD);refine rAddR.l hD4 hD2 'h' fun l nl=>?_
   exact q l _ ((S2.trans (S3.trans S4)).free nl) ((S2.trans (S3.trans S4)).trans (Same.new nl)) A3
  rw [decide_eq_false h2];exact iteF fun p np=>q p _ np (Same.new np) A3
theorem sc_check_letters:FnScope ["rules", "jobs", "rule", "wrong"] ["rules", "jobs"] (C1 cO):=E6
abbrev sT:List Str:=["rules", "jobs", "rule", "wrong"]
theorem vba:VS sT cO "rules" 0:=vq
theorem vbb:VS sT cO "jobs" 1:=vq
theorem vbc:VS sT cO "rule" 2:=vq
theorem vbd:VS sT cO "wrong" 3:=vq
theorem vbe:LS cO "rule":=lq
theorem vbf:LS cO "wrong":=lq
theorem aee(F:FunD K "check_letters" "check_letters" cO f fd)(T:Txt P w K mg C)(G_misused:FO P w K mg base 1 "misused" ["rule", "jobs"] [] (am8 K)):FnOk P w K mg base E2 2 f fd ["rules", "jobs"] (aic K):=by
 refine F.ok sc_check_letters ?_ ?_
 .rintro _ _ _ _ ⟨a,d,ts,R,ks,g,rfl,_⟩;rfl
 .intro cdv A outer s H vs Q E hr h;have B3:=hu_of hr;have hu:=hr.units;refine ⟨_,QSs.out (A4 (M0 PassesOwn.never (O5 (K:=K) (vi vba)) (D3 (n:=2) sc_check_letters.nd rfl vbe 'f') (A5 (C8 (n:=3) sc_check_letters.nd rfl vbf (D7 G_misused (hm hr) (qa_c (vi vbc) (qa_c (vi vbb) A2))))
   (A4 (qs_if (P8 (K:=K) (vi vbd)) (A4 kP) E8))))),?_⟩
  obtain ⟨a,d,ts,R,ks,g,rfl,hR,hd,hw,q⟩:=h;walk_at "rd";refine ⟨⟨_,.of hR.top⟩,forL (xs:=ts.map V.ref) (fun i Y H2=>∃ (u v:Option V),Y=[some (.ref a),some (.ref d),u,v]/\Same H H2) ⟨none,none,rfl,aQ H⟩ (by rintro i Y H2 _ ⟨_,_,_,S⟩;exact .of (S _ _ hR.top)) ?_ ?_⟩
  .rintro i x Y H2 hx ⟨u,v,rfl,S⟩;obtain ⟨t,ht,rfl⟩:=G5 hx;obtain ⟨z,hz,E3⟩:=Paired.at hR.row ht;obtain ⟨n1,n2⟩:=hw z (G6 hz);walk_at "rd";refine ⟨t,d,z,ks,g,rfl,S _ _ E3,S _ _ hd,n1,n2,fun p H3 np S3 hp=>⟨_,wP hp,iteF (S.trans S3)⟩⟩
  .rintro Y H2 ⟨u,v,rfl,S⟩;exact q H2 S
theorem ajf:FnScope ["rules", "word"] ["rules", "word"] (C1 oJ):=E6
abbrev ak9:List Str:=["rules", "word"]
theorem vbg:VS ak9 oJ "rules" 0:=vq
theorem ajg(F:FunD K "line_of" "line_of" oJ f fd)(T:Txt P w K mg C)(G_lined_up:FO P w K mg base 3 "lined_up" ["rows"] [] akk):FnOk P w K mg base E2 4 f fd ["rules", "word"] (am6 K):=by
 refine F.ok ajf ?_ ?_
 .rintro _ _ _ _ ⟨a,ts,R,w,rank,rfl,_⟩;rfl
 .intro cdv A outer s H vs Q E hr h;have B3:=hu_of hr;have hu:=hr.units;refine ⟨_,QSs.out (A4 (C5 (D7 G_lined_up (hm hr) (qa_c (f9  (V5:CompOk ["rules", "word"] (C1 oJ).names _ ["rule", "word"] 1 [1]) (O5 (K:=K) (vi vbg)) (fun _ _ _ _ _=>D3 (n:=0) (show List.Nodup (["rule", "word"]:List Str) by decide +kernel) rfl (Or.inl rfl)) (fun _ _ _ _ _=>(kS (E1 'k' (qe_ix (K:=K) (qv 0) A1) (qv 1)))) (fun _ _ _ _ _=>(qe_cT (rL (K:=K) (calm:=true)) T.b_list kN (qa_c (O4 (K:=K) (qv 0) (M4 A1) Q8) A2)))) A2)))),?_⟩;obtain ⟨a,ts,R,w,rank,rfl,hR,hl,dP,aA,q⟩:=h;walk_at "rd";refine ⟨⟨_,.of hR.top⟩,compL (xs:=ts.map V.ref) [some (.str w)] rfl (fun D i ys H4=>∃ qs:List Addr,ys=qs.map V.ref/\RowsAt H H4 D qs (rowsW (R.take i) w)) (fun D nD=>⟨[],rfl,⟨⟨A3,.nil⟩,by simp,fun r hr=>by rw [E7.mp hr];exact nD,Same.new nD⟩⟩)
   (by rintro D i ys H4 nD _ ⟨qs,_,RA⟩;exact .of (RA.same _ _ hR.top)) ?_ ?_⟩
  .rintro D i x ys H4 nD hi hx ⟨qs,rfl,RA⟩ hD hy;obtain ⟨t,ht,rfl⟩:=G5 hx;obtain ⟨z,hz,E3⟩:=Paired.at hR.row ht;have bO:i<R.length:=(E5.mp hz).1;have X1:A8 K H4 t ((z.1::z.2).map V.str):=.of (RA.same _ _ E3);have A9:1<=((z.1::z.2).map V.str).length:=by rw [A6,L3];lia
   walk_at "rd";refine ⟨_,.inr X1,V.str z.1,J5 _ _,?_⟩;walk_at "rd";refine iteD (fun e=>rSlR.t X1 (aX (k:=1) 'h' A9) fun p np=>?_) fun e=>⟨hD,wH hi hy ⟨qs,rfl,?_⟩⟩
   .rw [F6,wQ];walk_at "rd";refine rListR.l (.inr (.of A3)) fun p2 np2=>⟨C9 (C9 hD np) np2,?_,CW.put hi hy ⟨qs++[p2],by rw [D0];rfl,?_⟩⟩
    .rw [A6] at hy;rw [A6];exact L8 'a'
    .rw [afh hz,if_pos e];have n2:H4 p2=none:=(Same.new np).free np2;exact RA.grow (fun b o h=>C9 (C9 h np) np2) n2 A3
   .rw [afh hz,if_neg e];exact RA
  rintro D ys H4 nD ⟨qs,rfl,RA⟩ hD hy;rw [A6,hR.len,M3] at RA;refine ⟨D,qs,rowsW R w,rank,rfl,RA.rows,dP,aA,fun l line H5 nl S5 hl5 run cov=>?_⟩;exact q l line H5 (RA.same.free nl) (RA.same.trans S5) hl5 run cov
theorem sc_forms_of:FnScope ["rules", "forms", "rule"] ["rules"] (C1 fF):=E6
abbrev yW:List Str:=["rules", "forms", "rule"]
theorem vbh:VS yW fF "rules" 0:=vq
theorem vbi:VS yW fF "forms" 1:=vq
theorem yX:VS yW fF "rule" 2:=vq
theorem vbk:LS fF "forms":=lq
theorem vbl:LS fF "rule":=lq
theorem ahz(F:FunD K "forms_of" "forms_of" fF f fd)(T:Txt P w K mg C):FnOk P w K mg base E2 1 f fd ["rules"] (aia K):=by
 refine F.ok sc_forms_of ?_ ?_
 .rintro _ _ _ _ ⟨a,ts,R,rfl,_⟩;rfl
 .intro cdv A outer s H vs Q E hr h;have B3:=hu_of hr;have hu:=hr.units;refine ⟨_,QSs.out (A5 (C8 (n:=1) sc_forms_of.nd rfl vbk hG)
   (A5 (M0 PassesOwn.never (O5 (K:=K) (vi vbh)) (D3 (n:=2) sc_forms_of.nd rfl vbl 'f') (A4 (qs_if (E1 'k' (qe_ix (K:=K) (vi yX) A1) O3) (A4 (T0 (qe_mB (K:=K) W2 PySem.F.slot_list_extend PySem.F.type_list_extend (ako (K:=K)) (amb (vi vbi) (qe_ix (K:=K) (vi yX) A1) (R4 A2)) (qa_c (O4 (K:=K) (vi yX) (M4 A1) Q8) A2)))) E8)))
   (A4 (C5 (vi vbi))))),?_⟩
  obtain ⟨a,ts,R,rfl,hR,hg,hl,hf,q⟩:=h;walk_at "rd";intro d nd;refine ⟨⟨_,.of (C9 hR.top nd)⟩,forL (xs:=ts.map V.ref) (fun i Y H2=>∃ (u:Option V) (ad:Str->Addr),Y=[some (.ref a),some (.ref d),u]/\Same H H2/\H2 d=some (.dK (C2 (E4 (R.take i)) fun y=>.ref (ad y)))/\DL (A0 H d (.dK [])) H2 (E4 (R.take i)) ad (D8 (R.take i))) ⟨none,fun _=>d,rfl,Same.new nd,A3,⟨by simp [E4,L0,K8],by simp [E4,L0,K8],by simp [E4,L0,K8]⟩⟩ (by rintro i Y H2 _ ⟨_,_,_,S,_⟩;exact .of (S _ _ hR.top)) ?_ ?_⟩
  .rintro i x Y H2 hx ⟨u,ad,rfl,S,hd,dl⟩;obtain ⟨t,ht,rfl⟩:=G5 hx;obtain ⟨z,hz,E3⟩:=Paired.at hR.row ht;have hT:A8 K H2 t ((z.1::z.2).map V.str):=.of (S _ _ E3);walk_at "rd";refine ⟨_,.inr hT,V.str z.1,J5 _ _,?_⟩;walk_at "rd"
   by_cases V9:z.1='i'
   .rw [decide_eq_true V9];refine iteT ?_;obtain ⟨w,ps⟩:=z;obtain rfl:w='i':=V9;obtain ⟨y,fs,rfl⟩:∃ y fs,ps=y::fs:=by
     cases ps with
     | nil=>exact absurd rfl (hg _ (G6 hz) rfl)
     | cons y fs=>exact ⟨y,fs,rfl⟩
    have etk:R.take (i+1)=R.take i++[('i',y::fs)]:=M7 hz;have dP:(D8 (R.take i) y).length+fs.length<=10000:=by
     have:=hf (i+1) y
     rw [etk,xG,if_pos rfl,D9] at this;exact this
    have m8:(C2 (E4 (R.take i)) fun y=>V.ref (ad y)).length<=1000:=by
     rw [k8];unfold E4;have h1:=nN ((L0 (R.take i)).map (·.1)) [];have h2:(L0 (R.take i)).length<=(R.take i).length:=List.length_filterMap_le _ _;rw [A6,Z0] at h1;rw [G7] at h2;lia
    have V8:F8 ((('i',y::fs).1::('i',y::fs).2).map V.str) 1=some (V.str y):=G8 (j:=1) rfl;have dW:cutV ((('i',y::fs).1::('i',y::fs).2).map V.str) (some 2) none=fs.map V.str:=r8 _ 2;refine ⟨.inl ⟨_,.inl hd⟩,_,.inr hT,V.str y,V8,fun p np=>⟨_,C9 hd np,Nat.lt_of_le_of_lt m8 'h',Sum.inr y,rfl,fun v hv=>?_,fun hn=>?_⟩⟩
    .rw [Q5] at hv
     by_cases hy:y∈E4 (R.take i)
     .rw [if_pos hy] at hv;cases hv;have gB:=dl.row y hy;have ndy:ad y≠d:=fun e=>by have:=dl.new y hy;rw [e,A3] at this;cases this
      have nHy:H (ad y)=none:=by have:=dl.new y hy;rw [A7 ndy] at this;exact this
      have T1:Same H2 (A0 H2 p (.lst [])):=Same.new np;generalize A0 H2 p (.lst [])=H3 at T1;refine ⟨V2 (T1 _ _ gB),rSlR.t (hT.same T1) (aX (k:=2) 'h' 'd') fun s ns=>?_⟩;rw [dW];have T2:Same H3 (A0 H3 s (.tup (fs.map V.str))):=Same.new ns;have hs:A0 H3 s (.tup (fs.map V.str)) s=some (.tup (fs.map V.str)):=A3;generalize A0 H3 s (.tup (fs.map V.str))=H4 at T2 hs;have T:=T1.trans T2;refine ⟨ad y,s,_,_,rfl,rfl,T _ _ gB,.of hs,by rw [A6,A6];exact Q4 'a',(S.trans T).put nHy,ad,?_,?_⟩
      .rw [A7 ndy.symm,T _ _ hd,etk,rV];unfold dd;rw [if_pos hy]
      .rw [etk,rV];unfold dd;rw [if_pos hy,<- D0];refine ((dl.same T).app hy (D8 (R.take i) y++fs)).congr fun x _=>?_
       rw [xG]
       by_cases bT:x=y
       .subst bT;simp
       .simp [bT]
     .rw [if_neg hy] at hv;cases hv
    .have hy:y∉E4 (R.take i):=fun hy=>by rw [Q5,if_pos hy] at hn;cases hn
     have ndp:d≠p:=fun e=>by rw [<- e,hd] at np;cases np
     have n0:A0 H d (.dK []) p=none:=by rw [A7 ndp.symm];exact S.free np
     have dl2:=dl.more hy np n0;have bS:=dl2.put (b:=d) (o:=.dK (C2 (E4 (R.take i)++[y]) fun t=>if t=y then V.ref p else V.ref (ad t))) (u:=.dK []) A3;rw [fA (V.ref p) hy];have uE:A0 (A0 H2 p (.lst [])) d (.dK (C2 (E4 (R.take i)++[y]) fun t=>if t=y then V.ref p else V.ref (ad t))) p=some (.lst []):=by rw [A7 ndp.symm,A3]
     have R1:A0 (A0 H2 p (.lst [])) d (.dK (C2 (E4 (R.take i)++[y]) fun t=>if t=y then V.ref p else V.ref (ad t))) d=some (.dK (C2 (E4 (R.take i)++[y]) fun t=>if t=y then V.ref p else V.ref (ad t))):=A3;have S3:Same H (A0 (A0 H2 p (.lst [])) d (.dK (C2 (E4 (R.take i)++[y]) fun t=>if t=y then V.ref p else V.ref (ad t)))):=(S.trans (Same.new np)).put nd;generalize A0 (A0 H2 p (.lst [])) d (.dK (C2 (E4 (R.take i)++[y]) fun t=>if t=y then V.ref p else V.ref (ad t)))=H3 at bS uE R1 S3;have hT3:A8 K H3 t ((('i',y::fs).1::('i',y::fs).2).map V.str):=.of (S3 _ _ E3);refine ⟨V2 uE,rSlR.t hT3 (aX (k:=2) 'h' 'd') fun s ns=>?_⟩;rw [dW];have T2:Same H3 (A0 H3 s (.tup (fs.map V.str))):=Same.new ns;have hs:A0 H3 s (.tup (fs.map V.str)) s=some (.tup (fs.map V.str)):=A3;generalize A0 H3 s (.tup (fs.map V.str))=H4 at T2 hs;refine ⟨p,s,_,_,rfl,rfl,T2 _ _ uE,.of hs,by rw [A6];exact Q4 (by simp;lia),(S3.trans T2).put (S.free np),fun t=>if t=y then p else ad t,?_,?_⟩
     .rw [A7 ndp,T2 _ _ R1,etk,rV];unfold dd;rw [if_neg hy];refine congrArg (fun z=>some (HO.dK z)) (V4 fun x _=>?_);show (if x=y then V.ref p else V.ref (ad x))=V.ref (if x=y then p else ad x)
      by_cases bT:x=y
      .rw [if_pos bT,if_pos bT]
      .rw [if_neg bT,if_neg bT]
     .rw [etk,rV];unfold dd;rw [if_neg hy,eG]
      have:=((bS.same T2).app (z:=y) 'd' fs).congr (G:=D8 (R.take i++[('i',y::fs)])) fun x _=>by
       rw [xG]
       by_cases bT:x=y
       .subst bT;have e0:D8 (R.take i) x=[]:=by
         unfold D8;rw [mU.mpr fun e he=>?_]
         .rfl
         .intro h;have h:e.1=x:=by simpa using h
          refine hy ?_;unfold E4;rw [aW];exact .inr (C6.mpr ⟨e,he,h⟩)
        simp [e0]
       .simp [bT]
      rw [if_pos rfl] at this;exact this
   .rw [decide_eq_false V9];refine iteF ⟨S,ad,?_,?_⟩
    .rw [show E4 (R.take (i+1))=E4 (R.take i) by unfold E4;rw [xE hz,fC V9,M8]];exact hd
    .rw [show E4 (R.take (i+1))=E4 (R.take i) by unfold E4;rw [xE hz,fC V9,M8]];refine dl.congr fun x _=>?_
     unfold D8;rw [xE hz,fC V9,M8]
  .rintro Y H2 ⟨u,ad,rfl,S,hd,dl⟩;walk_at "rd";rw [A6,hR.len,M3] at hd dl;exact q d ad H2 nd S hd (dl.old (Same.new nd))
theorem sc_steps_of:FnScope ["rules", "letters", "marks", "steps", "place", "letter", "mark", "forms", "case", "form", "rule"] ["rules", "letters", "marks"] (C1 Q9):=E6
abbrev y4:List Str:=["rules", "letters", "marks", "steps", "place", "letter", "mark", "forms", "case", "form", "rule"]
theorem vbm:VS y4 Q9 "rules" 0:=vq
theorem vbn:VS y4 Q9 "letters" 1:=vq
theorem vbo:VS y4 Q9 "marks" 2:=vq
theorem lS:VS y4 Q9 "steps" 3:=vq
theorem vbq:VS y4 Q9 "place" 4:=vq
theorem yY:VS y4 Q9 "letter" 5:=vq
theorem vbs:VS y4 Q9 "mark" 6:=vq
theorem vbt:VS y4 Q9 "forms" 7:=vq
theorem vbu:VS y4 Q9 "case" 8:=vq
theorem vbv:VS y4 Q9 "form" 9:=vq
theorem yZ:VS y4 Q9 "rule" 10:=vq
theorem vbx:LS Q9 "steps":=lq
theorem vby:LS Q9 "place":=lq
theorem vbz:LS Q9 "letter":=lq
theorem vbA:LS Q9 "mark":=lq
theorem vbB:LS Q9 "forms":=lq
theorem vbC:LS Q9 "case":=lq
theorem vbD:LS Q9 "form":=lq
theorem vbE:LS Q9 "rule":=lq
theorem ahA(F:FunD K "steps_of" "steps_of" Q9 f fd)(T:Txt P w K mg C)(G_forms_of:FO P w K mg base 1 "forms_of" ["rules"] [] (aia K)):FnOk P w K mg base E2 2 f fd ["rules", "letters", "marks"] (aie K):=by
 refine F.ok sc_steps_of ?_ ?_
 .rintro _ _ _ _ ⟨a,b,c,ts,R,L,M,F,rfl,_⟩;rfl
 .intro cdv A outer s H vs Q E hr h;have B3:=hu_of hr;have hu:=hr.units;refine ⟨_,QSs.out (A5 (C8 (n:=3) sc_steps_of.nd rfl vbx hG)
   (A5 (M0 PassesOwn.never (wY T.b_enumerate (qa_c (vi vbn) A2)) (cK (K:=K) (n:=2) (R5 ((D3 (n:=4) sc_steps_of.nd rfl vby 'f')) (R5 ((D3 (n:=5) sc_steps_of.nd rfl vbz 'f')) cJ))) (A4 (r0 B3 (vi lS) (vi yY) (F9 (qa_c (F9 (qa_c (gZ T.g_LETTER) (qa_c (vi vbq) (qa_c A1 A2)))) A2)))))
   (A5 (M0 PassesOwn.never (wY T.b_enumerate (qa_c (vi vbo) A2)) (cK (K:=K) (n:=2) (R5 ((D3 (n:=4) sc_steps_of.nd rfl vby 'f')) (R5 ((D3 (n:=6) sc_steps_of.nd rfl vbA 'f')) cJ))) (A4 (r0 B3 (vi lS) (vi vbs) (F9 (qa_c (F9 (qa_c (gZ T.g_MARK) (qa_c (vi vbq) (qa_c A1 A2)))) A2)))))
   (A5 (C8 (n:=7) sc_steps_of.nd rfl vbB (D7 G_forms_of (hm hr) (qa_c (vi vbm) A2)))
   (A5 (wS PassesOwn.never (vi vbt) (D3 (n:=5) sc_steps_of.nd rfl vbz 'f') (A4 (M0 PassesOwn.never (amn T.b_enumerate (qa_c (f8 B3 (vi vbt) (vi yY)) A2)) (cK (K:=K) (n:=2) (R5 ((D3 (n:=8) sc_steps_of.nd rfl vbC 'f')) (R5 ((D3 (n:=9) sc_steps_of.nd rfl vbD 'f')) cJ))) (A4 (r0 B3 (vi lS) (vi vbv) (F9 (qa_c (F9 (qa_c (gZ T.g_LETTER) (qa_c (qe_ix (K:=K) (qe_ix (K:=K) (f8 B3 (vi lS) (vi yY)) A1) A1) (qa_c (vi vbu) A2)))) A2)))))))
   (A5 (M0 PassesOwn.never (O5 (K:=K) (vi vbm)) (D3 (n:=10) sc_steps_of.nd rfl vbE 'f') (A4 (qs_if (E1 'k' (qe_ix (K:=K) (vi yZ) A1) O3) (A4 (r0 B3 (vi lS) (qe_ix (K:=K) (vi yZ) A1) (qe_cT (nQ (K:=K)) T.b_tuple gY (qa_c (f9  (V5:CompOk ["rules", "letters", "marks", "steps", "place", "letter", "mark", "forms", "case", "form", "rule"] (C1 Q9).names _ ["part", "steps"] 1 [3]) (cL (K:=K) (O4 (K:=K) (vi yZ) (M4 A1) Q8)) (fun _ _ _ _ _=>D3 (n:=0) (show List.Nodup (["part", "steps"]:List Str) by decide +kernel) rfl (Or.inl rfl)) (fun _ _ _ _ _=>k6) (fun _ _ _ _ _=>(qe_ix (K:=K) (f8 B3 (qv 1) (qv 0)) A1))) A2)))) E8)))
   (A4 (C5 (vi lS))))))))),?_⟩
  obtain ⟨a,b,c,ts,R,L,M,F,rfl,hR,md,hb,hc,P7,hRl,dP,mQ,q⟩:=h;have A9:L.length+M.length+((E4 R).flatMap (D8 R)).length+(asKs R).length<=50000:=by
   unfold allKs at mQ;simp only [D9] at mQ;exact mQ
  walk_at "rd";intro d nd;have ndR:∀ {x:Addr} {o:HO},H x=some o->x≠d:=fun h e=>by rw [e,nd] at h;cases h
  refine ⟨⟨_,C9 hb nd⟩,forE (xs:=L.map V.str) (fun i Y H2=>∃ (u v w x y z r:Option V),Y=[some (.ref a),some (.ref b),some (.ref c),some (.ref d),u,v,w,x,y,z,r]/\StI H H2 d (L.take i) F)
   ⟨none,none,none,none,none,none,none,rfl,Same.new nd,fun _=>d,A3,by simp [K8]⟩ (by rintro i Y H2 ⟨_,_,_,_,_,_,_,_,S⟩;exact S.same _ _ hb) ?_ ?_⟩
  .rintro i x t Y H2 hx ⟨u,v,w,x',y,z,r,rfl,S⟩ nt;obtain ⟨l,hl,rfl⟩:=G5 hx;have hi:i<L.length:=(E5.mp hl).1;walk_at "rd";refine ⟨_,.of A3,rfl,_,_,rfl,_,_,rfl,rfl,by decide,fun p np=>⟨by decide,fun p1 X2=>?_⟩⟩;rw [M7 hl];exact StI.put nd (((S.more (Same.new nt)).more (Same.new np)).more (Same.new X2)) (by rw [G7];lia) (by
    rw [md.lt i l hl];exact StepAt.one A3 (C9 A3 X2))
  rintro Y H2 ⟨u,v,w,x',y,z,r,rfl,S⟩;rw [A6,M3] at S;walk_at "rd";refine ⟨⟨_,S.same _ _ hc⟩,forE (xs:=M.map V.str) (fun i Y H2=>∃ (u v w x y z r:Option V),Y=[some (.ref a),some (.ref b),some (.ref c),some (.ref d),u,v,w,x,y,z,r]/\StI H H2 d (L++M.take i) F)
   ⟨u,v,w,x',y,z,r,rfl,by rw [eI,M8];exact S⟩ (by rintro i Y H2 ⟨_,_,_,_,_,_,_,_,S⟩;exact S.same _ _ hc) ?_ ?_⟩
  .clear S;rintro i x t Y H2 hx ⟨u,v,w,x',y,z,r,rfl,S⟩ nt;obtain ⟨l,hl,rfl⟩:=G5 hx;have hi:i<M.length:=(E5.mp hl).1;walk_at "rd";refine ⟨_,.of A3,rfl,_,_,rfl,_,_,rfl,rfl,by decide,fun p np=>⟨by decide,fun p1 X2=>?_⟩⟩;rw [M7 hl,<- W8];exact StI.put nd (((S.more (Same.new nt)).more (Same.new np)).more (Same.new X2)) (by rw [D9,G7];lia) (by
    rw [md.mr i l hl];exact StepAt.one A3 (C9 A3 X2))
  clear S H2 u v w x' y z r;rintro Y H2 ⟨u,v,w,x',y,z,r,rfl,S⟩;rw [A6,M3] at S;walk_at "rd";refine ⟨a,ts,R,rfl,hR.same S.same,fun z hz e=>md.ne z hz (.inr e),hRl,dP,fun fd af H3 nfd S3 uH dl=>?_⟩;have nf0:H fd=none:=S.same.free nfd;have nf1:fd≠d:=fun e=>by
   obtain ⟨ad,h1,_⟩:=S.made;rw [<- e,nfd] at h1;cases h1
  have S':=S.more S3;have E3:=dl.row;clear S S3 dl nfd H2;refine ⟨fd,rfl,_,uH,fun o=>forD (fun i Y H4=>∃ (u v w y z r:Option V),Y=[some (.ref a),some (.ref b),some (.ref c),some (.ref d),u,v,w,some (.ref fd),y,z,r]/\FoI H H4 d fd o (E4 R) af (D8 R) (L++M++((E4 R).take i).flatMap (D8 R)) F)
   ⟨u,v,w,y,z,r,rfl,⟨A3,fun y hy=>by rw [A7 (fun e=>by have:=E3 y hy;rw [e,uH] at this;cases this)];exact E3 y hy,by rw [eI,List.flatMap_nil,M8];exact S'.frz uH nf0 nf1⟩⟩ (by rintro i Y H4 ⟨_,_,_,_,_,_,_,h⟩;exact h.frz) ?_ ?_⟩
  .rintro i k v' Y H4 hk ⟨u,v,w,y,z,r,rfl,J⟩;obtain ⟨l,hl,e⟩:=G5 (f:=fun t=>((Sum.inr t:B5),V.ref (af t))) hk;obtain ⟨rfl,rfl⟩:=Prod.mk.inj e;have qA:l∈E4 R:=G6 hl;have hlL:=md.gl l qA;have hfl2:(((E4 R).take i).flatMap (D8 R)).length+(D8 R l).length<=((E4 R).flatMap (D8 R)).length:=by
    have e:(E4 R).flatMap (D8 R)=((E4 R).take i).flatMap (D8 R)++D8 R l++((E4 R).drop (i+1)).flatMap (D8 R):=by
     have:=j4 (i+1) (E4 R)
     rw [M7 hl] at this;rw [<- this,b9,b9,o6,List.flatMap_nil,M8];rw [this]
    rw [e,D9,D9];lia
   walk_at "rd";refine ⟨V.ref (af l),.inl ⟨_,Sum.inr l,.inr ⟨o,J.frz⟩,rfl,by rw [Q5,if_pos qA]⟩,af l,rfl,⟨_,J.rows l qA⟩,forE1 (xs:=(D8 R l).map V.str) (fun j Y H5=>∃ (y z r:Option V),Y=[some (.ref a),some (.ref b),some (.ref c),some (.ref d),u,some (kV (Sum.inr l)),w,some (.ref fd),y,z,r]/\FoI H H5 d fd o (E4 R) af (D8 R) (L++M++((E4 R).take i).flatMap (D8 R)++(D8 R l).take j) F) ⟨y,z,r,rfl,by rw [eI,M8];exact J⟩ (by rintro j Y H5 ⟨_,_,_,_,h⟩;exact h.rows l qA) ?_ ?_⟩
   .clear J y z r;rintro j x t Y H5 hx ⟨y,z,r,rfl,J⟩ nt;obtain ⟨f,hf,rfl⟩:=G5 hx;have hj:j<(D8 R l).length:=(E5.mp hf).1;have T1:Same H5 (A0 H5 t (.tup [.int ((j+1:Nat):Int),.str f])):=Same.new nt;have ht:A0 H5 t (.tup [.int ((j+1:Nat):Int),.str f]) t=some (.tup [.int ((j+1:Nat):Int),.str f]):=A3;generalize A0 H5 t (.tup [.int ((j+1:Nat):Int),.str f])=H6 at T1 ht ⊢
    have J6:=J.more T1;obtain ⟨ad,h1,h2⟩:=J6.st.made;have E9:l∈K8 [] (L++M++((E4 R).take i).flatMap (D8 R)++(D8 R l).take j):=by
     rw [aW];exact .inr (Q3 _ (Q3 _ (Q3 _ hlL)))
    obtain ⟨tt,e1,e2⟩:=(h2 l E9).ex;rw [md.letter hlL] at e2;obtain ⟨t0,rfl,e3⟩:∃ t0,tt=[t0]/\H6 t0=some (tupT (2,(L.idxOf l:Int),0)):=by
     cases e2 with
     | cons h t=>cases t;exact ⟨_,rfl,h⟩
    walk_at "rd";refine ⟨_,.of ht,rfl,_,_,rfl,_,_,rfl,rfl,V.ref (ad l),.inl ⟨_,Sum.inr l,.inl h1,rfl,by rw [Q5,if_pos E9]⟩,?_⟩;walk_at "rd";refine ⟨_,.inr (.of e1),V.ref t0,J5 _ _,?_⟩;walk_at "rd";refine ⟨_,.inr (.of e3),V.int (L.idxOf l:Int),G8 (j:=1) rfl,by decide,fun p np=>⟨by decide,fun p1 X2=>?_⟩⟩;rw [M7 hf,<- W8];exact FoI.put nd ((J6.more (Same.new np)).more (Same.new X2)) (by simp only [D9,G7];lia) (by
     rw [md.gr l qA j f hf];exact StepAt.one A3 (C9 A3 X2))
   .rintro Y H5 ⟨y,z,r,rfl,J⟩;rw [A6,M3] at J;refine ⟨⟨_,_,_,_,_,_,rfl⟩,?_⟩;rw [M7 hl,b9,o6,List.flatMap_nil,M8,<- W8];exact J
  rintro Y H4 ⟨u,v,w,y,z,r,rfl,J⟩;rw [k8,M3] at J;have S5:=J.st.thaw (o:=.dK (C2 (E4 R) fun y=>V.ref (af y))) J.frz nf0 nf1;generalize A0 H4 fd (.dK (C2 (E4 R) fun y=>V.ref (af y)))=H5 at S5 ⊢
  clear J uH E3;walk_at "rd";refine ⟨⟨_,.of (S5.same _ _ hR.top)⟩,forL (xs:=ts.map V.ref) (fun i Y H6=>∃ (r:Option V),Y=[some (.ref a),some (.ref b),some (.ref c),some (.ref d),u,v,w,some (.ref fd),y,z,r]/\StI H H6 d (L++M++(E4 R).flatMap (D8 R)++asKs (R.take i)) F) ⟨r,rfl,by rw [eI];rw [show asKs []=[] from rfl,M8];exact S5⟩ (by rintro i Y H6 _ ⟨_,_,S⟩;exact .of (S.same _ _ hR.top)) ?_ ?_⟩
  .clear S5 r;rintro i x Y H6 hx ⟨r,rfl,S⟩;obtain ⟨t,ht,rfl⟩:=G5 hx;obtain ⟨zz,hz,E3⟩:=Paired.at hR.row ht;have gC:=G6 hz;have hT:A8 K H6 t ((zz.1::zz.2).map V.str):=.of (S.same _ _ E3);walk_at "rd";refine ⟨_,.inr hT,V.str zz.1,J5 _ _,?_⟩;walk_at "rd"
   by_cases has:zz.1=("as" : Str)
   .rw [decide_eq_true has];refine iteT ?_;obtain ⟨w1,ps⟩:=zz;obtain rfl:w1=("as" : Str):=has;obtain ⟨p,qs,rfl⟩:∃ p qs,ps=p::qs:=by
     cases ps with
     | nil=>exact absurd rfl (md.ne _ gC 'f')
     | cons p qs=>exact ⟨p,qs,rfl⟩
    have dW:cutV (((("as" : Str),p::qs).1::(("as" : Str),p::qs).2).map V.str) (some 2) none=qs.map V.str:=r8 _ 2;have hql:qs.length<=1000:=by have:=P7 _ gC;simp only [L3] at this;lia
    have hasl:=amr (R.take i);rw [G7] at hasl;refine rSlR.t hT (aX (k:=2) 'h' 'd') fun s ns=>?_
    rw [dW];have T1:Same H6 (A0 H6 s (.tup (qs.map V.str))):=Same.new ns;have hs:A0 H6 s (.tup (qs.map V.str)) s=some (.tup (qs.map V.str)):=A3;generalize A0 H6 s (.tup (qs.map V.str))=H7 at T1 hs;have S7:=S.more T1;have hT7:A8 K H7 t (((("as" : Str),p::qs).1::(("as" : Str),p::qs).2).map V.str):=A8.same T1 hT;clear hT S;refine ⟨s,rfl,⟨_,.of hs⟩,compT (xs:=qs.map V.str) [some (.ref d)] rfl (fun D j ys H8=>∃ gD:List Addr,ys=gD.map V.ref/\AsI H H7 H8 d (L++M++(E4 R).flatMap (D8 R)++asKs (R.take i)) F gD ((qs.take j).map fun q=>(F q).headD (0,0,0))) (fun D nD=>⟨[],rfl,S7.more (Same.new nD),.nil,Same.new nD⟩) (by rintro D j ys H8 nD _ ⟨_,_,h⟩;exact .of (h.sm _ _ hs)) ?_ ?_⟩
    .rintro D j yv ys H8 nD hi hy ⟨gD,rfl,J⟩ hD Q2;obtain ⟨qq,hq,rfl⟩:=G5 hy;have hqb:=md.pt _ gC rfl qq (G6 hq);obtain ⟨st,Z8⟩:=md.base hqb;obtain ⟨ad,h1,h2⟩:=J.st.made;have E9:qq∈K8 [] (L++M++(E4 R).flatMap (D8 R)++asKs (R.take i)):=by
      rw [aW];refine .inr (Q3 _ (Q3 _ (G3.mpr hqb)))
     obtain ⟨tt,e1,e2⟩:=(h2 qq E9).ex;rw [Z8] at e2;obtain ⟨t0,rfl,e3⟩:∃ t0,tt=[t0]/\H8 t0=some (tupT st):=by
      cases e2 with
      | cons h t=>cases t;exact ⟨_,rfl,h⟩
     walk_at "rd";refine ⟨V.ref (ad qq),.inl ⟨_,Sum.inr qq,.inl h1,rfl,by rw [Q5,if_pos E9]⟩,?_⟩;walk_at "rd";have uF:gD.length<=1000:=by
      have:=Paired.length J.pr
      rw [A6,G7] at this;lia
     refine ⟨_,.inr (.of e1),V.ref t0,J5 _ _,hD,by rw [A6];exact L8 'a',CW.put hi Q2 ⟨gD++[t0],by rw [D0];rfl,?_⟩⟩;refine AsI.putL (f:=D) ⟨J.st,?_,J.sm⟩ hD (S7.same.free nD) nD;rw [M7 hq,D0];refine Paired.snoc J.pr ?_;show H8 t0=some (tupT ((F qq).headD (0,0,0)));rw [Z8];exact e3
    rintro D ys H8 nD ⟨gD,rfl,J⟩ hD Q2;rw [A6,M3] at J;rw [tup_r];refine rTupR.l (.of hD) fun p1 X2=>?_
    have V8:F8 (((("as" : Str),p::qs).1::(("as" : Str),p::qs).2).map V.str) 1=some (V.str p):=G8 (j:=1) rfl;have S8:Same H8 (A0 H8 p1 (.tup (gD.map V.ref))):=Same.new X2;refine ⟨_,.inr (A8.same (J.sm.trans S8) hT7),V.str p,V8,?_⟩;rw [agy hz,aid,<- W8];refine StI.put nd (J.st.more S8) (by simp only [D9];lia) ?_;rw [md.as _ gC rfl p qs rfl];exact ⟨gD,A3,N9 J.pr fun t s e=>S8 _ _ e⟩
   .rw [decide_eq_false has];refine iteF ?_;rw [agy hz,aky has,M8];exact S
  rintro Y H6 ⟨r,rfl,S⟩;rw [A6,hR.len,M3] at S;walk_at "rd";exact q d H6 nd S.same S.made
theorem ad4:FnScope ["self", "rules"] ["self", "rules"] (C1 fG):=E6
abbrev acT:List Str:=["self", "rules"]
theorem cX:VS acT fG "self" 0:=vq
theorem iF:VS acT fG "rules" 1:=vq
theorem ad5(F:FunD K "__init__" "Order.__init__" fG f fd)(T:Txt P w K mg C)(G_has_rule:FO P w K mg base 1 "has_rule" ["rules", "word"] [] (spHas K))(G_jobs_of:FO P w K mg base 3 "jobs_of" ["rules"] [] (am5 K))(G_check_letters:FO P w K mg base 2 "check_letters" ["rules", "jobs"] [] (aic K))(G_line_of:FO P w K mg base 4 "line_of" ["rules", "word"] [] (am6 K))(G_steps_of:FO P w K mg base 2 "steps_of" ["rules", "letters", "marks"] [] (aie K)):FnOk P w K mg base E2 5 f fd ["self", "rules"] (rZ C):=by
 refine F.ok ad4 ?_ ?_
 .rintro _ _ _ _ ⟨x,dx,a,ts,R,g,r1,r2,rfl,_⟩;rfl
 .intro cdv A outer s H vs Q E hr h;have B3:=hu_of hr;have hu:=hr.units;refine ⟨_,QSs.out (A5 (kQ (K:=K) (vi cX) (D7 G_has_rule (hm hr) (qa_c (vi iF) (qa_c O3 A2))))
   (A5 (kQ (K:=K) (vi cX) (D7 G_has_rule (hm hr) (qa_c (vi iF) (qa_c O3 A2))))
   (A5 (kQ (K:=K) (vi cX) (D7 G_jobs_of (hm hr) (qa_c (vi iF) A2)))
   (A5 (T0 (D7 G_check_letters (hm hr) (qa_c (vi iF) (qa_c (aU (K:=K) (vi cX)) A2))))
   (A5 (kQ (K:=K) (vi cX) (D7 G_line_of (hm hr) (qa_c (vi iF) (qa_c O3 A2))))
   (A5 (kQ (K:=K) (vi cX) (D7 G_line_of (hm hr) (qa_c (vi iF) (qa_c O3 A2))))
   (A4 (kQ (K:=K) (vi cX) (D7 G_steps_of (hm hr) (qa_c (vi iF) (qa_c (aU (K:=K) (vi cX)) (qa_c (aU (K:=K) (vi cX)) A2)))))))))))),?_⟩
  obtain ⟨x,dx,a,ts,R,g,r1,r2,rfl,hx,hR,pl,q⟩:=h;have lp:∀ (f:Str) (y:V) (fs:List (Str×V)),(putF f y fs).length<=fs.length+1:=vI;walk_at "rd";refine ⟨a,ts,R, "figures",rfl,hR,pl.len,fun H1 S1=>⟨C,dx,[],S1 _ _ hx,T.cl,T.na_figures,by decide,?_⟩⟩;generalize hF1:putF (Str.ofString "figures") (V.bl (hasW R (Str.ofString "figures"))) []=F1;have l1:F1.length<=1:=by rw [<- hF1];exact lp _ _ _
  have B2:SameBut x H (A0 H1 x (.ins C dx F1)):=(Same.but S1).at;have qB:A0 H1 x (.ins C dx F1) x=some (.ins C dx F1):=A3;generalize A0 H1 x (.ins C dx F1)=H2 at B2 qB;have hR2:=hR.but B2 hx;refine ⟨a,ts,R, "behind",rfl,hR2,pl.len,fun H3 S3=>⟨C,dx,F1,S3 _ _ qB,T.cl,T.na_behind,by lia,?_⟩⟩;generalize hF2:putF (Str.ofString "behind") (V.bl (hasW R (Str.ofString "behind"))) F1=F2;have l2:F2.length<=2:=by rw [<- hF2];exact N8 (lp _ _ _) 'a'
  have B4:SameBut x H2 (A0 H3 x (.ins C dx F2)):=(Same.but S3).at;have mP:A0 H3 x (.ins C dx F2) x=some (.ins C dx F2):=A3;generalize A0 H3 x (.ins C dx F2)=H4 at B4 mP;have hR4:=hR2.but B4 qB;refine ⟨a,ts,R,g,rfl,hR4,pl.len,pl.plen,pl.nc,pl.nb,fun j H5 nj S5 hj=>?_⟩;have njx:j≠x:=fun e=>by rw [e,mP] at nj;cases nj
  generalize hF3:putF (Str.ofString "jobs") (V.ref j) F2=F3;have l3:F3.length<=3:=by rw [<- hF3];exact N8 (lp _ _ _) 'a'
  have k3:F3.lookup (Str.ofString "jobs")=some (V.ref j):=by rw [<- hF3,P0,if_pos rfl]
  refine ⟨C,dx,F2,S5 _ _ mP,T.cl,T.na_jobs,by lia,?_⟩;rw [hF3];have B6:SameBut x H4 (A0 H5 x (.ins C dx F3)):=(Same.but S5).at;have qC:A0 H5 x (.ins C dx F3) x=some (.ins C dx F3):=A3;have hj6:A0 H5 x (.ins C dx F3) j=some (.dK (C2 (keysP (C7 R)++W6 R) (jobG g))):=by rw [A7 njx];exact hj
  generalize A0 H5 x (.ins C dx F3)=H6 at B6 qC hj6;have hR6:=hR4.but B6 mP;refine ⟨C,dx,F3,qC,T.cl,T.na_jobs,_,k3,a,j,ts,R,_,_,rfl,hR6,hj6,fun z hz=>⟨pl.used hz,pl.zl z hz⟩,fun H7 S7=>?_⟩;refine ⟨a,ts,R, "row",r1,rfl,hR6.same S7,pl.len,N8 pl.f1 'h',pl.a1,fun ll L H8 nll S8 hll run cov=>?_⟩;have uA:=S8 _ _ (S7 _ _ qC);have nlx:ll≠x:=fun e=>by rw [e,S7 _ _ qC] at nll;cases nll
  have llen:L.length<=10000:=by
   rw [rP (kU _) run cov];exact N8 (nO _) pl.f1
  generalize hF4:putF (Str.ofString "letter_line") (V.ref ll) F3=F4;have l4:F4.length<=4:=by rw [<- hF4];exact N8 (lp _ _ _) 'a'
  refine ⟨C,dx,F3,uA,T.cl,T.na_letter_line,by lia,?_⟩;rw [hF4];have B9:SameBut x H6 (A0 H8 x (.ins C dx F4)):=(Same.but (S7.trans S8)).at;have uI:A0 H8 x (.ins C dx F4) x=some (.ins C dx F4):=A3;have qD:A0 H8 x (.ins C dx F4) ll=some (.lst (L.map V.str)):=by rw [A7 nlx];exact hll
  generalize A0 H8 x (.ins C dx F4)=H9 at B9 uI qD;have hR9:=hR6.but B9 qC;refine ⟨a,ts,R, "marks",r2,rfl,hR9,pl.len,N8 pl.f2 'h',pl.a2,fun ml M m9 nml S10 hml run2 cov2=>?_⟩;have nmx:ml≠x:=fun e=>by rw [e,uI] at nml;cases nml
  have mlen:M.length<=10000:=by
   rw [rP (kU _) run2 cov2];exact N8 (nO _) pl.f2
  generalize hF5:putF (Str.ofString "mark_line") (V.ref ml) F4=F5;have l5:F5.length<=5:=by rw [<- hF5];exact N8 (lp _ _ _) 'a'
  refine ⟨C,dx,F4,S10 _ _ uI,T.cl,T.na_mark_line,by lia,?_⟩;rw [hF5];have B11:SameBut x H9 (A0 m9 x (.ins C dx F5)):=(Same.but S10).at;have o5:A0 m9 x (.ins C dx F5) x=some (.ins C dx F5):=A3;have aD:A0 m9 x (.ins C dx F5) ml=some (.lst (M.map V.str)):=by rw [A7 nmx];exact hml
  have aE:A0 m9 x (.ins C dx F5) ll=some (.lst (L.map V.str)):=by rw [A7 nlx];exact S10 _ _ qD
  generalize A0 m9 x (.ins C dx F5)=H11 at B11 o5 aD aE;have hR11:=hR9.but B11 uI;have kl:F5.lookup (Str.ofString "letter_line")=some (V.ref ll):=by rw [<- hF5,P0,if_neg 'c',<- hF4,P0,if_pos rfl]
  have km:F5.lookup (Str.ofString "mark_line")=some (V.ref ml):=by rw [<- hF5,P0,if_pos rfl]
  refine ⟨C,dx,F5,o5,T.cl,T.na_letter_line,_,kl,C,dx,F5,o5,T.cl,T.na_mark_line,_,km,a,ll,ml,ts,R,L,M,stepF R L M,rfl,hR11,oC pl ⟨run,cov⟩ ⟨run2,cov2⟩,aE,aD,pl.zl,pl.len,akB pl,N8 (aoV pl ⟨run,cov⟩ ⟨run2,cov2⟩) 'h',fun md H12 nmd fZ hmd=>⟨C,dx,F5,fZ _ _ o5,T.cl,T.na_made,by lia,?_⟩⟩;have nmdx:md≠x:=fun e=>by rw [e,o5] at nmd;cases nmd
  have B:SameBut x H (A0 H12 x (.ins C dx (putF (Str.ofString "made") (V.ref md) F5))):=((B2.trans B4).trans ((B6.trans B9).trans (B11.trans (Same.but fZ)))).at;have fr:∀ {H':Hp} {y:Addr},SameBut x H H'->H' y=none->y≠x->H y=none:=fun {H' y} b n nx=>by
   cases e:H y with
   | none=>rfl
   | some o=>have:=b _ _ nx e;rw [n] at this;cases this
  have B44:=B2.trans B4;refine q j ll ml md L M _ (fr B44 nj njx) (fr ((B44.trans B6).trans (Same.but S7)) nll nlx) (fr ((B44.trans B6).trans B9) nml nmx) (fr (((B44.trans B6).trans B9).trans B11) nmd nmdx) B ⟨⟨dx,?_⟩,?_,?_,?_,hmd.mod (fZ _ _ o5) (by intro xs e;cases e) nmdx,⟨run,cov⟩,⟨run2,cov2⟩⟩
  .rw [A3,<- hF5,<- hF4,<- hF3,<- hF2,<- hF1];rfl
  .rw [A7 njx];exact fZ _ _ (B11 _ _ njx (B9 _ _ njx hj6))
  .rw [A7 nlx];exact fZ _ _ aE
  .rw [A7 nmx];exact fZ _ _ aD
theorem agR:FnScope ["self", "piece"] ["self", "piece"] (C1 fH):=E6
abbrev aeP:List Str:=["self", "piece"]
theorem vbH:VS aeP fH "self" 0:=vq
theorem vbI:VS aeP fH "piece" 1:=vq
theorem agS(F:FunD K "job" "Order.job" fH f fd)(T:Txt P w K mg C):FnOk P w K mg base E2 1 f fd ["self", "piece"] (xI C):=by
 refine F.ok agR ?_ ?_
 .rintro _ _ _ _ ⟨x,j,ll,ml,md,p,g,R,L,M,rfl,_⟩;rfl
 .intro cdv A outer s H vs Q E hr h;have B3:=hu_of hr;have hu:=hr.units;refine ⟨_,QSs.out (A4 (C5 (rR B3 (aU (K:=K) (vi vbH)) (vi vbI)))),?_⟩;obtain ⟨x,j,ll,ml,md,p,g,R,L,M,rfl,hO,q⟩:=h;obtain ⟨dx,h1⟩:=hO.ob;walk_at "rd";refine ⟨_,_,_,h1,T.cl,T.na_jobs,_,agw _ _ _ _ _ _,j,rfl,.inl ⟨_,.inl hO.jobs⟩,_,f6 (k:=Sum.inr p) hO.jobs,?_⟩;rw [Q5]
  by_cases hp:p∈keysP (C7 R)++W6 R
  .rw [if_pos hp] at q ⊢
   exact q
  .rw [if_neg hp] at q ⊢
   exact q
theorem sc_figures_at:FnScope ["text", "at", "end"] ["text", "at"] (C1 hX):=E6
abbrev zA:List Str:=["text", "at", "end"]
theorem zB:VS zA hX "text" 0:=vq
theorem vbK:VS zA hX "at" 1:=vq
theorem zC:VS zA hX "end" 2:=vq
theorem vbM:LS hX "end":=lq
theorem afY(F:FunD K "figures_at" "figures_at" hX f fd)(T:Txt P w K mg C)(G_is_figure:FO P w K mg base 1 "is_figure" ["sign"] [] kZ):FnOk P w K mg base E2 2 f fd ["text", "at"] akF:=by
 refine F.ok sc_figures_at ?_ ?_
 .rintro _ _ _ _ ⟨z,pre,rest,rfl,_⟩;rfl
 .intro cdv A outer s H vs Q E hr h;have B3:=hu_of hr;have hu:=hr.units;refine ⟨_,QSs.out (A5 (C8 (n:=2) sc_figures_at.nd rfl vbM (vi vbK))
   (A5 (rK PassesOwn.never (QW.pt (q9 (E1 q_lt (vi zC) (qe_cB (q_len (K:=K)) T.b_len f7 (qa_c (vi zB) A2))) (w8 (P8 (K:=K) (D7 G_is_figure (hm hr) (qa_c (qe_ix (K:=K) (vi zB) (vi zC)) A2)))))) (A4 (wM (n:=2) sc_figures_at.nd rfl vbM A1 wO)))
   (A4 (C5 (O4 (K:=K) (vi zB) (M4 (vi vbK)) (M4 (vi zC))))))),?_⟩
  obtain ⟨z,pre,rest,rfl,hz,P7,q⟩:=h;walk_at "rd";have A9:z.length=pre.length+rest.length:=by
   have:=congrArg c0 P7
   simp [Str.length] at this ⊢
   lia
  have hsz:z.length<=sizeLine:=Q4 'a';refine rM (fun m Y H2=>∃ (run left:List Nat),Y=[some (.str z),some (.int pre.length),some (.int ((pre++run).length:Nat))]/\H2=H/\rest=run++left/\rest.takeWhile figO=run++left.takeWhile figO/\m=left.length) rest.length ⟨[],rest,by simp,rfl,rfl,rfl,rfl⟩ ?_;rintro m Y H2 ⟨run,left,rfl,rfl,hr,htw,rfl⟩;have dY:z.cps.toList=pre++(run++left):=by rw [P7,hr]
  have bU:rest.length=run.length+left.length:=by rw [hr,D9]
  have ecut:cutS z (some (pre.length:Int)) (some (((pre++run).length:Nat):Int))=⟨run.toArray⟩:=by
   have:=xK (y:=run) (rest:=left) dY
   rw [show (((pre++run).length:Nat):Int)=(pre.length:Int)+(run.length:Int) by rw [D9];lia];exact this
  have hpr:(pre++run).length=pre.length+run.length:=D9;walk_at "rd";refine ⟨hsz,iteD (fun C4=>⟨hsz,?_⟩) fun hge=>⟨hsz,?_⟩⟩
  .cases left with
   | nil=>simp at bU;lia
   | cons c l2=>
    refine ⟨c,?_,c,rfl,figO c,rfl,?_⟩
    .rw [dY,<- W8];exact akE
    by_cases hf:figO c=true
    .rw [hf];refine iteT ⟨_,fun _ _ h=>h,l2.length,by simp,run++[c],by simp;lia,rfl,l2,by rw [hr];simp,?_,rfl⟩;rw [htw,List.takeWhile_cons_of_pos hf]
     simp
    .rw [cA] at hf;rw [hf];refine iteF ⟨hsz,?_⟩;rw [ecut];rw [htw,List.takeWhile_cons_of_neg (by simp [hf]),M8] at q;exact q
  .have iU:left=[]:=aH.mp 'a';rw [htw,iU,List.takeWhile_nil,M8] at q;rw [ecut];exact q
theorem sc_part_at:FnScope ["known", "text", "at", "figures", "two"] ["known", "text", "at", "figures"] (C1 cP):=E6
abbrev oU:List Str:=["known", "text", "at", "figures", "two"]
theorem vbN:VS oU cP "known" 0:=vq
theorem oV:VS oU cP "text" 1:=vq
theorem lT:VS oU cP "at" 2:=vq
theorem vbQ:VS oU cP "figures" 3:=vq
theorem vbR:VS oU cP "two" 4:=vq
theorem vbS:LS cP "two":=lq
theorem ajh(F:FunD K "part_at" "part_at" cP f fd)(T:Txt P w K mg C)(G_is_figure:FO P w K mg base 1 "is_figure" ["sign"] [] kZ)(G_figures_at:FO P w K mg base 2 "figures_at" ["text", "at"] [] akF):FnOk P w K mg base E2 3 f fd ["known", "text", "at", "figures"] akG:=by
 refine F.ok sc_part_at ?_ ?_
 .rintro _ _ _ _ ⟨d,z,g,pre,c,r,w,y,rfl,_⟩;rfl
 .intro cdv A outer s H vs Q E hr h;have B3:=hu_of hr;have hu:=hr.units;refine ⟨_,QSs.out (A5 (qs_if (QW.pt (q9 (P8 (K:=K) (vi vbQ)) (w8 (P8 (K:=K) (D7 G_is_figure (hm hr) (qa_c (qe_ix (K:=K) (vi oV) (vi lT)) A2)))))) (A4 (C5 (D7 G_figures_at (hm hr) (qa_c (vi oV) (qa_c (vi lT) A2))))) E8)
   (A5 (C8 (n:=4) sc_part_at.nd rfl vbS (O4 (K:=K) (vi oV) (M4 (vi lT)) (M4 (qe_op (q_add (K:=K)) (vi lT) A1))))
   (A5 (qs_if (E1 (q_in (K:=K) hu) (vi vbR) (vi vbN)) (A4 (C5 (vi vbR))) E8)
   (A5 (qs_if (E1 (q_in (K:=K) hu) (qe_ix (K:=K) (vi oV) (vi lT)) (vi vbN)) (A4 (C5 (qe_ix (K:=K) (vi oV) (vi lT)))) E8)
   (A4 kP))))),?_⟩
  obtain ⟨d,z,g,pre,c,r,w,y,rfl,hd,hz,P7,hp,q⟩:=h;have hsz:z.length<=sizeLine:=Q4 'a';have ha:F8 z.cps.toList (pre.length:Int)=some c:=by rw [P7];exact akE
  rw [lE] at hp
  cases w with
  | false=>
   rw [Bool.false_and,if_neg L9] at hp;walk_at "rd"
   cases r with
   | nil=>
    rw [lC] at hp
    by_cases h1:one c∈g
    .rw [if_pos h1] at hp;obtain rfl:=Option.some.inj hp;rw [agE P7];refine ⟨hsz,rInR.d (f6 (k:=Sum.inr (one c)) hd) ⟨_,rfl,?_⟩⟩;rw [lB,gO,decide_eq_true h1];exact iteT q
    .rw [if_neg h1] at hp;cases hp
   | cons e r=>
    rw [lD] at hp;have ec:cutS z (some (pre.length:Int)) (some ((pre.length:Int)+2))=two c e:=xK (y:=[c,e]) (rest:=r) P7;rw [ec];refine ⟨hsz,rInR.d (f6 (k:=Sum.inr (two c e)) hd) ⟨_,rfl,?_⟩⟩;rw [lB,gO];refine iteD (fun h=>?_) fun h=>⟨hsz,c,ha,rInR.d (f6 (k:=Sum.inr (one c)) hd) ⟨_,rfl,?_⟩⟩
    .rw [if_pos h] at hp;obtain rfl:=Option.some.inj hp;exact q
    .rw [if_neg h] at hp
     by_cases h1:one c∈g
     .rw [if_pos h1] at hp;obtain rfl:=Option.some.inj hp;rw [lB,gO,decide_eq_true h1];exact iteT ⟨hsz,c,ha,q⟩
     .rw [if_neg h1] at hp;cases hp
  | true=>
   rw [Bool.true_and] at hp;walk_at "rd";refine ⟨hsz,c,ha,c,rfl,figO c,rfl,?_⟩
   by_cases hf:figO c=true
   .rw [hf];rw [if_pos hf] at hp;obtain rfl:=Option.some.inj hp;exact iteT ⟨z,pre,c::r,rfl,hz,P7,q⟩
   rw [if_neg hf] at hp;rw [cA] at hf;rw [hf];refine iteF ?_
   cases r with
   | nil=>
    rw [lC] at hp
    by_cases h1:one c∈g
    .rw [if_pos h1] at hp;obtain rfl:=Option.some.inj hp;rw [agE P7];refine ⟨hsz,rInR.d (f6 (k:=Sum.inr (one c)) hd) ⟨_,rfl,?_⟩⟩;rw [lB,gO,decide_eq_true h1];exact iteT q
    .rw [if_neg h1] at hp;cases hp
   | cons e r=>
    rw [lD] at hp;have ec:cutS z (some (pre.length:Int)) (some ((pre.length:Int)+2))=two c e:=xK (y:=[c,e]) (rest:=r) P7;rw [ec];refine ⟨hsz,rInR.d (f6 (k:=Sum.inr (two c e)) hd) ⟨_,rfl,?_⟩⟩;rw [lB,gO];refine iteD (fun h=>?_) fun h=>⟨hsz,c,ha,rInR.d (f6 (k:=Sum.inr (one c)) hd) ⟨_,rfl,?_⟩⟩
    .rw [if_pos h] at hp;obtain rfl:=Option.some.inj hp;exact q
    .rw [if_neg h] at hp
     by_cases h1:one c∈g
     .rw [if_pos h1] at hp;obtain rfl:=Option.some.inj hp;rw [lB,gO,decide_eq_true h1];exact iteT ⟨hsz,c,ha,q⟩
     .rw [if_neg h1] at hp;cases hp
theorem sc_cut:FnScope ["known", "text", "figures", "pieces", "parts", "at", "part"] ["known", "text", "figures"] (C1 s_cut):=E6
abbrev n_cut:List Str:=["known", "text", "figures", "pieces", "parts", "at", "part"]
theorem vbT:VS n_cut s_cut "known" 0:=vq
theorem vbU:VS n_cut s_cut "text" 1:=vq
theorem vbV:VS n_cut s_cut "figures" 2:=vq
theorem vbW:VS n_cut s_cut "pieces" 3:=vq
theorem vbX:VS n_cut s_cut "parts" 4:=vq
theorem vbY:VS n_cut s_cut "at" 5:=vq
theorem vbZ:VS n_cut s_cut "part" 6:=vq
theorem vb0:LS s_cut "pieces":=lq
theorem vb1:LS s_cut "parts":=lq
theorem vb2:LS s_cut "at":=lq
theorem vb3:LS s_cut "part":=lq
theorem anw(F:FunD K "cut" "cut" s_cut f fd)(T:Txt P w K mg C)(G_part_at:FO P w K mg base 3 "part_at" ["known", "text", "at", "figures"] [] akG):FnOk P w K mg base E2 4 f fd ["known", "text", "figures"] (sA K):=by
 refine F.ok sc_cut ?_ ?_
 .rintro _ _ _ _ ⟨a,z,ks,w,rfl,_⟩;rfl
 .intro cdv A outer s H vs Q E hr h;have B3:=hu_of hr;have hu:=hr.units;refine ⟨_,QSs.out (A5 (C8 (n:=3) sc_cut.nd rfl vb0 (qe_cT (ake (K:=K) (calm:=true)) T.b_dict ajX (qa_c (f9  (V5:CompOk ["known", "text", "figures", "pieces", "parts", "at", "part"] (C1 s_cut).names _ ["piece"] 1 []) (O5 (K:=K) (vi vbT)) (fun _ _ _ _ _=>D3 (n:=0) (show List.Nodup (["piece"]:List Str) by decide +kernel) rfl (Or.inl rfl)) (fun _ _ _ _ _=>k6) (fun _ _ _ _ _=>(F9 (qa_c (qv 0) (qa_c qe_bl A2))))) A2)))
   (A5 (C8 (n:=4) sc_cut.nd rfl vb1 (R4 A2))
   (A5 (C8 (n:=5) sc_cut.nd rfl vb2 A1)
   (A5 (rK PassesOwn.never (E1 q_lt (vi vbY) (qe_cB (q_len (K:=K)) T.b_len f7 (qa_c (vi vbU) A2))) (A5 (C8 (n:=6) sc_cut.nd rfl vb3 (D7 G_part_at (hm hr) (qa_c (vi vbW) (qa_c (vi vbU) (qa_c (vi vbY) (qa_c (vi vbV) A2))))))
   (A5 (T0 (qe_mB (K:=K) W2 j8 j7 k7 (vi vbX) (qa_c (vi vbZ) A2)))
   (A4 (wM (n:=5) sc_cut.nd rfl vb2 (qe_cB (q_len (K:=K)) T.b_len f7 (qa_c (vi vbZ) A2)) wO)))))
   (A4 (C5 (vi vbX))))))),?_⟩
  obtain ⟨a,z,ks,w,rfl,hS,m8,hz,hw,q⟩:=h;walk_at "rd";refine ⟨⟨_,hS⟩,compL (xs:=ks.map V.str) [] rfl (fun D i ys H4=>∃ ts:List Addr,ys=ts.map V.ref/\Paired (fun t k=>H4 t=some (.tup [V.str k,V.bl true])) ts (ks.take i)/\Same H H4) (fun D nD=>⟨[],rfl,.nil,Same.new nD⟩) (by rintro D i ys H4 nD _ ⟨_,_,_,S⟩;exact S.seq hS) ?_ ?_⟩
  .rintro D i x ys H4 nD hi hx ⟨ts,rfl,P,S⟩ hD hy;obtain ⟨k,hk,rfl⟩:=G5 hx;rw [A6] at hi;walk_at "rd";refine ⟨by decide,fun t nt=>⟨C9 hD nt,L8 'a',CW.put (by rw [A6];exact hi) hy ⟨ts++[t],by rw [D0];rfl,?_,Same.put (fun b o h=>C9 (S b o h) nt) nD⟩⟩⟩;have hDt:D≠t:=fun e=>by rw [e,nt] at hD;cases hD
   rw [v4,hk,Option.toList_some];refine Paired.snoc (N9 P fun r k h=>?_) (by rw [A7 hDt.symm,A3]);rw [A7 (fun e=>by rw [e,hD] at h;cases h)];exact C9 h nt
  rintro D ys H4 nD ⟨ts,rfl,P,S⟩ hD hy;rw [A6,M3] at P;have P2:Paired (fun t (kx:B5×V)=>A8 K H4 t [kV kx.1,kx.2]) ts (kvOf ks):=by
   clear hD hy nD S m8 hS q hw
   induction P with
   | nil=>exact .nil
   | cons h t ih=>exact .cons (.of h) ih
  refine ⟨rfl,D,ts,kvOf ks,rfl,.of hD,P2,fun d nd=>?_⟩;rw [show Y1 [] (kvOf ks)=kvOf (K8 [] ks) from afk ks []];have S1:Same H (A0 H4 d (.dK (kvOf (K8 [] ks)))):=fun b o h=>C9 (S b o h) nd
  have hd:A0 H4 d (.dK (kvOf (K8 [] ks))) d=some (.dK (kvOf (K8 [] ks))):=A3;generalize A0 H4 d (.dK (kvOf (K8 [] ks)))=H5 at S1 hd;have hcg:∀ l,cutF w (K8 [] ks) l=cutF w ks l:=ai3 fun x=>by rw [aW];simp
  generalize K8 [] ks=g at hd hcg;refine fun p np=>rM (fun m Y H6=>∃ (pre rest:List Nat) (ps:List Str) (u:Option V),Y=[some (.ref a),some (.str z),some (.bl w),some (.ref d),some (.ref p),some (.int pre.length),u]/\Same H5 H6/\H6 p=some (.lst (ps.map V.str))/\z.cps.toList=pre++rest/\(cutF w g z.cps.toList).1=pre.length+(cutF w g rest).1/\(cutF w g z.cps.toList).2=ps++(cutF w g rest).2/\ps.length<=pre.length/\m=rest.length) z.cps.toList.length
   ⟨[],z.cps.toList,[],none,rfl,Same.new np,A3,rfl,by simp,rfl,F7 _,rfl⟩ ?_
  rintro m Y H6 ⟨pre,rest,ps,u,rfl,S6,h6,P7,dJ,P6,Y5,rfl⟩;have A9:z.length=pre.length+rest.length:=by
   have:=congrArg c0 P7
   simp [Str.length] at this ⊢
   lia
  walk_at "rd";refine ⟨Q4 'a',iteD (fun C4=>?_) fun hge=>?_⟩
  .cases rest with
   | nil=>simp at A9;lia
   | cons c r=>
    cases hy:partF w g (c::r) with
    | none=>
     exfalso
     rw [oF hy] at dJ;have hw2:=hw;unfold aZ at hw2;rw [<- hcg,dJ] at hw2;simp at A9 hw2;lia
    | some y=>
     refine ⟨_,fun _ _ h=>h,d,z,g,pre,c,r,w,y,rfl,S6 _ _ hd,hz,P7,hy,?_⟩;obtain ⟨rest',e1,e2,e3⟩:=lF hy;rw [e2] at dJ P6;have el:y.cps.toList.length=y.length:=by simp [Str.length]
     have erl:(c::r).length=y.length+rest'.length:=by rw [e1,D9,el]
     refine ⟨V2 h6,appOk h6 (by rw [A6];exact L8 'a') ?_⟩;walk_at "rd";refine ⟨Q4 'a',rest'.length,by rw [L3] at erl;lia,pre++y.cps.toList,by rw [D9,el];lia,S6.put np,rest',ps++[y],by rw [A3,D0];rfl,P7.trans (by rw [W8];exact congrArg (pre++·) e1),by rw [D9,el,dJ];dsimp only;lia,by rw [P6,W8];rfl,by rw [D9,D9,el,Y8];lia,rfl⟩
  .have hr:rest=[]:=aH.mp 'a';rw [hr] at dJ P6;refine q p H6 (S1.free np) (S1.trans S6) ?_;rw [h6,<- hcg,P6];show some (HO.lst (ps.map V.str))=some (HO.lst ((ps++[]).map V.str));rw [M8]
theorem aeY:FnScope ["self"] ["self"] (C1 iA):=E6
abbrev afZ:List Str:=["self"]
theorem vb4:VS afZ iA "self" 0:=vq
theorem aeZ(F:FunD K "known" "Order.known" iA f fd)(T:Txt P w K mg C):FnOk P w K mg base E2 1 f fd ["self"] (xM C):=by
 refine F.ok aeY ?_ ?_
 .rintro _ _ _ _ ⟨x,j,ll,ml,md,g,R,L,M,rfl,_⟩;rfl
 .intro cdv A outer s H vs Q E hr h;have B3:=hu_of hr;have hu:=hr.units;refine ⟨_,QSs.out (A4 (C5 (qe_cT (rL (K:=K) (calm:=true)) T.b_list kN (qa_c (aU (K:=K) (vi vb4)) A2)))),?_⟩;obtain ⟨x,j,ll,ml,md,g,R,L,M,rfl,hO,q⟩:=h;obtain ⟨dx,h1⟩:=hO.ob;walk_at "rd";refine ⟨_,_,_,h1,T.cl,T.na_jobs,_,agw _ _ _ _ _ _,?_⟩;walk_at "rd";refine rListR.d (.of hO.jobs) fun l nl=>?_
  rw [show (C2 (keysP (C7 R)++W6 R) (jobG g)).map (fun kv=>kV kv.1)=(G4 R).map V.str by unfold C2 G4;rw [R3];rfl];exact q l nl
theorem ae0:FnScope ["self", "piece"] ["self", "piece"] (C1 fI):=E6
abbrev adO:List Str:=["self", "piece"]
theorem vb5:VS adO fI "self" 0:=vq
theorem vb6:VS adO fI "piece" 1:=vq
theorem ae1(F:FunD K "steps" "Order.steps" fI f fd)(T:Txt P w K mg C):FnOk P w K mg base E2 1 f fd ["self", "piece"] (oH C):=by
 refine F.ok ae0 ?_ ?_
 .rintro _ _ _ _ ⟨x,j,ll,ml,md,p,g,R,L,M,rfl,_⟩;rfl
 .intro cdv A outer s H vs Q E hr h;have B3:=hu_of hr;have hu:=hr.units;refine ⟨_,QSs.out (A4 (C5 (al6 B3 (aU (K:=K) (vi vb5)) (vi vb6) (F9 A2)))),?_⟩;obtain ⟨x,j,ll,ml,md,p,g,R,L,M,rfl,hO,q⟩:=h;obtain ⟨dx,h1⟩:=hO.ob;obtain ⟨ad,a1,a2⟩:=hO.made;walk_at "rd";refine ⟨_,_,_,h1,T.cl,T.na_made,_,akH _ _ _ _ _ _,md,rfl,.inl ⟨_,.inl a1⟩,fun e ne=>⟨_,f6 (k:=Sum.inr p) (C9 a1 ne),?_⟩⟩;rw [Q5];have S:Same H (A0 H e (.tup [])):=Same.new ne
  by_cases hp:p∈K8 [] (allKs R L M)
  .rw [if_pos hp];exact q _ _ S ((a2 p hp).same S)
  .rw [if_neg hp];refine q _ _ S ⟨[],A3,?_⟩;rw [ai4 fun h=>hp ((aW _ _ _).mpr (.inr h))];exact .nil
theorem ahB:FnScope ["order", "text"] ["order", "text"] (C1 oK):=E6
abbrev aft:List Str:=["order", "text"]
theorem vb7:VS aft oK "order" 0:=vq
theorem vb8:VS aft oK "text" 1:=vq
theorem ahC(F:FunD K "parts_of" "parts_of" oK f fd)(T:Txt P w K mg C)(G3_cut:FO P w K mg base 4 "cut" ["known", "text", "figures"] [] (sA K))(G_Order_known:MO P w K mg base 1 C "known" ["self"] (xM C)):FnOk P w K mg base E2 5 f fd ["order", "text"] (aih C):=by
 refine F.ok ahB ?_ ?_
 .rintro _ _ _ _ ⟨x,j,ll,ml,md,z,g,R,L,M,rfl,_⟩;rfl
 .intro cdv A outer s H vs Q E hr h;have B3:=hu_of hr;have hu:=hr.units;refine ⟨_,QSs.out (A4 (C5 (D7 G3_cut (hm hr) (qa_c (amj (vi vb7) G_Order_known (hm hr)) (qa_c (vi vb8) (qa_c (aU (K:=K) (vi vb7)) A2)))))),?_⟩;obtain ⟨x,j,ll,ml,md,z,g,R,L,M,rfl,hO,hk,hz,hw,q⟩:=h;obtain ⟨dx,h1⟩:=hO.ob;walk_at "rd";refine ⟨_,_,h1,nX _ _ _ _ _ _ 'c',x,j,ll,ml,md,g,R,L,M,rfl,hO,fun l nl=>?_⟩;have S:Same H (A0 H l (.lst ((G4 R).map V.str))):=Same.new nl;exact ⟨_,_,_,S _ _ h1,T.cl,T.na_figures,_,aec _ _ _ _ _ _,l,z,G4 R,_,rfl,.of A3,hk,hz,hw,fun l2 H2 n2 S2 h2=>q l2 H2 (S.free n2) (S.trans S2) h2⟩
theorem ahD:FnScope ["order", "part"] ["order", "part"] (C1 oM):=E6
abbrev afu:List Str:=["order", "part"]
theorem vb9:VS afu oM "order" 0:=vq
theorem zD:VS afu oM "part" 1:=vq
theorem ahE(F:FunD K "steps_by" "steps_by" oM f fd)(T:Txt P w K mg C)(G_is_figure:FO P w K mg base 1 "is_figure" ["sign"] [] kZ)(G_Order_steps:MO P w K mg base 1 C "steps" ["self", "piece"] (oH C)):FnOk P w K mg base E2 2 f fd ["order", "part"] (agF C):=by
 refine F.ok ahD ?_ ?_
 .rintro _ _ _ _ ⟨x,j,ll,ml,md,c,r,y,g,R,L,M,rfl,_⟩;rfl
 .intro cdv A outer s H vs Q E hr h;have B3:=hu_of hr;have hu:=hr.units;refine ⟨_,QSs.out (A5 (qs_if (QW.pt (q9 (P8 (K:=K) (aU (K:=K) (vi vb9))) (w8 (P8 (K:=K) (D7 G_is_figure (hm hr) (qa_c (qe_ix (K:=K) (vi zD) A1) A2)))))) (A4 (C5 (F9 (qa_c (F9 (qa_c (gZ T.g_FIGURES) (qa_c (qe_cT ana T.b_int wG (qa_c (vi zD) A2)) (qa_c A1 A2)))) A2)))) E8)
   (A4 (C5 (rQ (vi vb9) G_Order_steps (hm hr) (qa_c (vi zD) A2))))),?_⟩
  obtain ⟨x,j,ll,ml,md,c,r,y,g,R,L,M,rfl,hy,Q2,hO,hf,q⟩:=h;obtain ⟨dx,h1⟩:=hO.ob;have hhd:y.cps.toList.headD 0=c:=by rw [hy];rfl
  walk_at "rd";refine ⟨_,_,_,h1,T.cl,T.na_figures,_,aec _ _ _ _ _ _,?_⟩;walk_at "rd";have fin:stepY R L M y=stepF R L M y->∃ x_5 x_6,H x=some (HO.ins C x_5 x_6)/\eK (Str.ofString "steps") x_6=none/\oH C [V.ref x,V.str y] H Q E0:=fun e=>⟨_,_,h1,nX _ _ _ _ _ _ 'c',x,j,ll,ml,md,y,g,R,L,M,rfl,hO,by rw [<- e];exact q⟩
  by_cases hw:hasW R "figures"=true
  .rw [if_pos hw];refine ⟨Q4 'a',c,by rw [hy];exact J5 _ _,c,rfl,?_⟩
   by_cases hc:figO c=true
   .have hsy:stepY R L M y=[(1,((nC y.cps.toList:Nat):Int),0)]:=by unfold stepY;rw [hw,hhd,hc];rfl
    have hAD:=hf hw (by rw [hhd];exact hc);rw [hc];walk_at "rd";refine ⟨hAD,by rw [<- lenL,hy];simp,Q2,by decide,fun p np=>⟨by decide,fun p1 X2=>?_⟩⟩;refine q p1 _ ((Same.new np).trans (Same.new X2)) ?_;rw [hsy];exact StepAt.one A3 (C9 A3 X2)
   .rw [cA] at hc;rw [hc];walk_at "rd";exact fin (by unfold stepY;rw [hhd,hc,Bool.and_false,if_neg L9])
  .rw [if_neg hw];rw [cA] at hw;exact fin (by rw [aii hw])
theorem ahF:FnScope ["made", "place"] ["made", "place"] (C1 oN):=E6
abbrev afv:List Str:=["made", "place"]
theorem zE:VS afv oN "made" 0:=vq
theorem vcc:VS afv oN "place" 1:=vq
theorem ahG(F:FunD K "add_mark" "add_mark" oN f fd)(T:Txt P w K mg C):FnOk P w K mg base E2 1 f fd ["made", "place"] (agG K):=by
 refine F.ok ahF ?_ ?_
 .rintro _ _ _ _ ⟨l,p,H0,es,U,rfl,_⟩;rfl
 .intro cdv A outer s H vs Q E hr h;have B3:=hu_of hr;have hu:=hr.units;refine ⟨_,QSs.out (hJ (qs_if (aR (P8 (K:=K) (vi zE))) (A4 (T0 (qe_mB (K:=K) W2 j8 j7 k7 (vi zE) (qa_c (F9 (qa_c (gZ T.g_MARK) (qa_c A1 (qa_c (R4 A2) (qa_c A1 A2))))) A2)))) E8)
   (A4 (T0 (qe_mB (K:=K) W2 j8 j7 k7 (qe_ix (K:=K) (qe_ix (K:=K) (vi zE) (qe_un q_neg A1)) A1) (qa_c (vi vcc) A2))))),?_⟩
  obtain ⟨l,p,H0,es,U,rfl,J,hU,hM,q⟩:=h;walk_at "rd";refine mid (fun Y H1=>∃ (es':List (Addr×Addr)) (e:Addr×Addr) (U':List J7) (u:J7),Y=[some (.ref l),some (.int p)]/\UnI H0 H1 l (es'++[e]) (U'++[u])/\addM U p=U'++[(u.1,u.2.1,u.2.2.1++[p],u.2.2.2)]/\u.2.2.1.length<=10000) ?_ ?_
  .walk_at "rd";refine ⟨_,wP J.top,?_⟩
   by_cases he:es=[]
   .subst he;have hU0:=ai7 J.row;subst hU0;simp only [List.map_nil,List.isEmpty_nil,Bool.not_true,Bool.not_false,if_true];refine ⟨V2 J.top,fun m nm=>⟨by decide,fun t nt=>appOk ((Same.new nm).trans (Same.new nt) _ _ J.top) 'h' ⟨[],(t,m),[],(0,0,[],0),?_,rfl,by decide⟩⟩⟩;exact J.push nm nt
   .obtain ⟨es',e,rfl⟩:=xP he;have hUn:U≠[]:=fun h=>by subst h;have:=Paired.length J.row;simp at this
    obtain ⟨U',u,rfl⟩:=xP hUn;have G9:((es'++[e]).map fun e=>V.ref e.1).isEmpty=false:=by simp
    rw [G9];simp only [Bool.not_false,Bool.not_true,mZ,if_false];refine ⟨es',e,U',u,J,?_,hM u 'd'⟩;unfold addM;rw [List.getLast?_append,List.getLast?_singleton]
    simp
  rintro Y H1 ⟨es',e,U',u,rfl,J1,ea,hul⟩;obtain ⟨hr,hu⟩:=wL J1.row;have V8:F8 ((es'++[e]).map fun e=>V.ref e.1) (-1)=some (V.ref e.1):=by rw [D0];exact alA _ _
  walk_at "rd";refine ⟨_,.inl (.of J1.top),_,V8,?_⟩;walk_at "rd";refine ⟨_,.inr (.of hu.1),V.ref e.2,G8 (j:=2) rfl,V2 hu.2,appOk hu.2 (by rw [A6];exact L8 'a') ?_⟩;refine q (es'++[e]) _ ?_;rw [ea];exact J1.mark p
theorem sc_add_part:FnScope ["order", "made", "part", "kind", "worth", "case"] ["order", "made", "part"] (C1 t6):=E6
abbrev lU:List Str:=["order", "made", "part", "kind", "worth", "case"]
theorem vcd:VS lU t6 "order" 0:=vq
theorem vce:VS lU t6 "made" 1:=vq
theorem vcf:VS lU t6 "part" 2:=vq
theorem vcg:VS lU t6 "kind" 3:=vq
theorem vch:VS lU t6 "worth" 4:=vq
theorem vci:VS lU t6 "case" 5:=vq
theorem vcj:LS t6 "kind":=lq
theorem vck:LS t6 "worth":=lq
theorem vcl:LS t6 "case":=lq
theorem ahH(F:FunD K "add_part" "add_part" t6 f fd)(T:Txt P w K mg C)(G_steps_by:FO P w K mg base 2 "steps_by" ["order", "part"] [] (agF C))(G_add_mark:FO P w K mg base 1 "add_mark" ["made", "place"] [] (agG K)):FnOk P w K mg base E2 3 f fd ["order", "made", "part"] (agH C):=by
 refine F.ok sc_add_part ?_ ?_
 .rintro _ _ _ _ ⟨x,l,j,ll,ml,md,c,r,y,g,R,L,M,H0,es,U,rfl,_⟩;rfl
 .intro cdv A outer s H vs Q E hr h;have B3:=hu_of hr;have hu:=hr.units;refine ⟨_,QSs.out (A4 (M0 PassesOwn.never (cL (K:=K) (D7 G_steps_by (hm hr) (qa_c (vi vcd) (qa_c (vi vcf) A2)))) (cK (K:=K) (n:=3) (R5 ((D3 (n:=3) sc_add_part.nd rfl vcj 'f')) (R5 ((D3 (n:=4) sc_add_part.nd rfl vck 'f')) (R5 ((D3 (n:=5) sc_add_part.nd rfl vcl 'f')) cJ)))) (A4 (qs_if (E1 'k' (vi vcg) (gZ T.g_MARK)) (A4 (T0 (D7 G_add_mark (hm hr) (qa_c (vi vce) (qa_c (vi vch) A2))))) (A4 (T0 (qe_mB (K:=K) W2 j8 j7 k7 (vi vce) (qa_c (F9 (qa_c (vi vcg) (qa_c (vi vch) (qa_c (R4 A2) (qa_c (vi vci) A2))))) A2)))))))),?_⟩;obtain ⟨x,l,j,ll,ml,md,c,r,y,g,R,L,M,H0,es,U,rfl,hy,Q2,hO,hf,J,hs,hU,hM,q⟩:=h;walk_at "rd";refine ⟨x,j,ll,ml,md,c,r,y,g,R,L,M,rfl,hy,Q2,hO.same J.same,hf,fun a H1 S1 Z8=>?_⟩;obtain ⟨ts,e1,e2⟩:=Z8.ex;obtain ⟨H0',B0,J0,tp⟩:=(J.more S1).cut;have e1':=tp _ _ e1;have e2':=N9 e2 fun t s (e:H1 t=some (tupT s))=>(show H0' t=some (tupT s) from tp _ _ e)
  generalize stepY R L M y=ss at hs e2 e2' q;refine ⟨a,rfl,⟨_,.of e1⟩,forT (xs:=ts.map V.ref) (fun i Y H2=>∃ (u v w:Option V) (es:List (Addr×Addr)),Y=[some (.ref x),some (.ref l),some (.str y),u,v,w]/\UnI H0' H2 l es ((ss.take i).foldl addS U)) ⟨none,none,none,es,rfl,J0⟩ (by rintro i Y H2 _ ⟨_,_,_,_,_,h⟩;exact .of (h.same _ _ e1')) ?_ ?_⟩
  .rintro i v Y H2 hv ⟨u1,u2,u3,es,rfl,J2⟩;obtain ⟨t,ht,rfl⟩:=G5 hv;obtain ⟨s',tX,bR⟩:=Paired.at e2' ht;have hi:i<ss.length:=(E5.mp tX).1;have i6:=xN (ss.take i) U;have dG:=xO (ss.take i) U 9000 hM;rw [G7] at i6 dG;have et:(ss.take (i+1)).foldl addS U=addS ((ss.take i).foldl addS U) s':=by rw [M7 tX,aJ];rfl
   have htt:A8 K H2 t [V.int s'.1,V.int s'.2.1,V.int s'.2.2]:=.of (J2.same _ _ bR);walk_at "rd";refine ⟨_,htt,rfl,_,_,rfl,_,_,rfl,_,_,rfl,rfl,?_⟩;walk_at "rd";rw [et];generalize (ss.take i).foldl addS U=U2 at J2 i6 dG;refine iteD (fun e=>⟨l,s'.2.1,H0',es,U2,rfl,J2,by lia,fun u hu=>by have:=dG u hu;lia,fun es' H3 J3=>?_⟩) fun e=>⟨V2 J2.top,fun m nm=>⟨by decide,fun t2 jI=>appOk ((Same.new nm).trans (Same.new jI) _ _ J2.top) (by rw [A6,Paired.length J2.row];exact L8 'a') ?_⟩⟩
   .unfold addS;rw [if_pos e];exact ⟨es',J3⟩
   .unfold addS;rw [if_neg e];exact ⟨_,J2.push nm jI⟩
  rintro Y H2 ⟨u1,u2,u3,es,rfl,J2⟩;rw [A6,Paired.length e2,M3] at J2;exact q es H2 (J2.base B0)
theorem sc_units:FnScope ["order", "text", "made", "part"] ["order", "text"] (C1 bD):=E6
abbrev sU:List Str:=["order", "text", "made", "part"]
theorem vcm:VS sU bD "order" 0:=vq
theorem vcn:VS sU bD "text" 1:=vq
theorem vco:VS sU bD "made" 2:=vq
theorem vcp:VS sU bD "part" 3:=vq
theorem vcq:LS bD "made":=lq
theorem vcr:LS bD "part":=lq
theorem amM(F:FunD K "units" "units" bD f fd)(T:Txt P w K mg C)(G_parts_of:FO P w K mg base 5 "parts_of" ["order", "text"] [] (aih C))(G_add_part:FO P w K mg base 3 "add_part" ["order", "made", "part"] [] (agH C)):FnOk P w K mg base E2 6 f fd ["order", "text"] (akI C):=by
 refine F.ok sc_units ?_ ?_
 .rintro _ _ _ _ ⟨x,j,ll,ml,md,z,g,R,L,M,rfl,_⟩;rfl
 .intro cdv A outer s H vs Q E hr h;have B3:=hu_of hr;have hu:=hr.units;refine ⟨_,QSs.out (A5 (C8 (n:=2) sc_units.nd rfl vcq (R4 A2))
   (A5 (M0 PassesOwn.never (O5 (K:=K) (D7 G_parts_of (hm hr) (qa_c (vi vcm) (qa_c (vi vcn) A2)))) (D3 (n:=3) sc_units.nd rfl vcr 'f') (A4 (T0 (D7 G_add_part (hm hr) (qa_c (vi vcm) (qa_c (vi vco) (qa_c (vi vcp) A2)))))))
   (A4 (C5 (f9  (V5:CompOk ["order", "text", "made", "part"] (C1 bD).names _ ["kind", "worth", "marks", "case"] 4 []) (O5 (K:=K) (vi vco)) (fun _ _ _ _ _=>(cK (K:=K) (n:=4) (R5 (D3 (n:=0) (show List.Nodup (["kind", "worth", "marks", "case"]:List Str) by decide +kernel) rfl (Or.inl rfl)) (R5 (D3 (n:=1) (show List.Nodup (["kind", "worth", "marks", "case"]:List Str) by decide +kernel) rfl (Or.inl rfl)) (R5 (D3 (n:=2) (show List.Nodup (["kind", "worth", "marks", "case"]:List Str) by decide +kernel) rfl (Or.inl rfl)) (R5 (D3 (n:=3) (show List.Nodup (["kind", "worth", "marks", "case"]:List Str) by decide +kernel) rfl (Or.inl rfl)) cJ)))))) (fun _ _ _ _ _=>k6) (fun _ _ _ _ _=>(F9 (qa_c (qv 0) (qa_c (qv 1) (qa_c (qe_cT (nQ (K:=K)) T.b_tuple gY (qa_c (qv 2) A2)) (qa_c (qv 3) A2))))))))))),?_⟩
  obtain ⟨x,j,ll,ml,md,z,g,R,L,M,rfl,hO,hk,hz,hw,hs,q⟩:=h;have hf:=aij (w:=hasW R "figures") (g:=G4 R) _ z.cps.toList (C3 _);have G9:=akJ (w:=hasW R "figures") (g:=G4 R) _ z.cps.toList (C3 _);have uJ:=(xL (w:=hasW R "figures") (g:=G4 R) _ z.cps.toList (C3 _)).2.1;rw [lenL] at uJ;have aF:=agJ (w:=hasW R "figures") (g:=G4 R) _ z.cps.toList (C3 _);rw [lenL] at aF;walk_at "rd";intro l nl;have S1:Same H (A0 H l (.lst [])):=Same.new nl;have o0:A0 H l (.lst []) l=some (.lst []):=A3;generalize A0 H l (.lst [])=H1 at S1 o0;refine ⟨x,j,ll,ml,md,z,g,R,L,M,rfl,hO.same S1,hk,by lia,hw,fun a H2 na S2 ha=>?_⟩;generalize (cutF (hasW R "figures") (G4 R) z.cps.toList).2=ps at ha hf G9 uJ aF q;have nal:a≠l:=fun e=>by rw [e,o0] at na;cases na
  have C0:UnI (cutH H2 [l]) H2 l [] []:=⟨S2 _ _ o0,.nil,by simp,fun b hb=>by unfold cutH;exact if_pos (by simpa using hb),agI _ _⟩
  have S0:Same H (cutH H2 [l]):=fun b o hb=>by
   unfold cutH;rw [if_neg (fun e=>by rw [E7.mp e,nl] at hb;cases hb)];exact S2 _ _ (S1 _ _ hb)
  have ha0:cutH H2 [l] a=some (.lst (ps.map V.str)):=by
   unfold cutH;rw [if_neg (fun e=>nal (E7.mp e))];exact ha
  have hO0:=hO.same S0;generalize cutH H2 [l]=H0 at C0 S0 ha0 hO0;refine ⟨a,rfl,⟨_,.of ha⟩,forLs (xs:=ps.map V.str) (fun i Y H3=>∃ (u:Option V) (es:List (Addr×Addr)),Y=[some (.ref x),some (.str z),some (.ref l),u]/\UnI H0 H3 l es (Q7 (stepY R L M) (ps.take i))) ⟨none,[],rfl,C0⟩ (by rintro i Y H3 _ ⟨_,_,_,h⟩;exact .of (h.same _ _ ha0)) ?_ ?_⟩
  .rintro P' Bk hP i v Y H3 hv ⟨u,es,rfl,J⟩;obtain ⟨y,hy,rfl⟩:=G5 hv;have hi:i<ps.length:=(E5.mp hy).1;have hym:=G6 hy;obtain ⟨B3,fS⟩:=xR (S:=stepY R L M) hs (ps.take i);rw [G7] at B3 fS;obtain ⟨c,r,hcr⟩:∃ c r,y.cps.toList=c::r:=by
    have:=G9 y hym
    rw [<- lenL] at this;cases e:y.cps.toList with
    | nil=>rw [e] at this;simp at this
    | cons c r=>exact ⟨c,r,rfl⟩
   have Q2:y.length<=640:=by have:=aF y hym;lia
   walk_at "rd";refine ⟨x,l,j,ll,ml,md,c,r,y,g,R,L,M,H0,es,_,rfl,hcr,Q2,hO0,hf y hym,J,by have:=hs y;lia,by lia,fun v hv=>by have:=fS v hv;lia,fun es' H4 J4=>?_⟩;rw [<- ahi hy] at J4;exact hP _ _ _ ⟨_,es',rfl,J4⟩
  rintro Y H3 ⟨u,es,rfl,J⟩;rw [A6,M3] at J;obtain ⟨B3,fS⟩:=xR (S:=stepY R L M) hs ps;have i8:=Paired.length J.row;generalize Q7 (stepY R L M) ps=U at J B3 fS i8 q;walk_at "rd";refine ⟨⟨_,.of J.top⟩,arN (xs:=es.map fun e=>V.ref e.1) [] rfl (fun D i ys H4=>∃ fs:List (Addr×Addr),ys=fs.map (fun e=>V.ref e.1)/\Same H3 H4/\Paired (fun e (u:J7)=>H4 e.1=some (.tup [.int u.1,.int u.2.1,.ref e.2,.int u.2.2.2])/\H4 e.2=some (.tup (u.2.2.1.map V.int))) fs (U.take i)) (fun D nD=>⟨[],rfl,Same.new nD,.nil⟩) (by rintro D i ys H4 nD _ ⟨_,_,S,_⟩;exact .of (S _ _ J.top)) ?_ ?_⟩
  .rintro D i v ys H4 nD hi hv ⟨fs,rfl,S4,P⟩ hD Q2;obtain ⟨e,he,rfl⟩:=G5 hv;obtain ⟨w,hw,gE⟩:=Paired.at J.row he;have dP:fs.length<=7500:=by
    have:=Paired.length P
    rw [G7] at this;lia
   refine ⟨e.1,_,_,_,_,rfl,.of (S4 _ _ gE.1),?_⟩;walk_at "rd";refine rTupR.l (.of (S4 _ _ gE.2)) fun m nm=>⟨by decide,fun t nt=>?_⟩
   have S5:Same H4 (A0 (A0 H4 m (.tup (w.2.2.1.map V.int))) t (.tup [V.int w.1,V.int w.2.1,V.ref m,V.int w.2.2.2])):=(Same.new nm).trans (Same.new nt);have hm5:A0 (A0 H4 m (.tup (w.2.2.1.map V.int))) t (.tup [V.int w.1,V.int w.2.1,V.ref m,V.int w.2.2.2]) m=some (.tup (w.2.2.1.map V.int)):=C9 A3 nt;have ht5:A0 (A0 H4 m (.tup (w.2.2.1.map V.int))) t (.tup [V.int w.1,V.int w.2.1,V.ref m,V.int w.2.2.2]) t=some (.tup [V.int w.1,V.int w.2.1,V.ref m,V.int w.2.2.2]):=A3;generalize A0 (A0 H4 m (.tup (w.2.2.1.map V.int))) t (.tup [V.int w.1,V.int w.2.1,V.ref m,V.int w.2.2.2])=H5 at S5 hm5 ht5;have hD5:=S5 _ _ hD;have dn:∀ {b:Addr} {xs:List V},H5 b=some (.tup xs)->b≠D:=fun h q=>by rw [q,hD5] at h;cases h
   refine ⟨hD5,by rw [A6];exact L8 'a',hi,by rw [D9,Y8];lia,⟨_,_,_,_,rfl⟩,fs++[(t,m)],by rw [D0];rfl,(S4.trans S5).put nD,?_⟩;rw [M7 hw];refine Paired.snoc (N9 P fun f w h=>⟨?_,?_⟩) ⟨?_,?_⟩
   .rw [A7 (dn (S5 _ _ h.1))];exact S5 _ _ h.1
   .rw [A7 (dn (S5 _ _ h.2))];exact S5 _ _ h.2
   .rw [A7 (dn ht5)];exact ht5
   .rw [A7 (dn hm5)];exact hm5
  rintro D ys H4 nD ⟨fs,rfl,S4,P⟩ hD Q2;rw [A6,i8,M3] at P;have SS:Same H H3:=S0.trans J.same;exact q D H4 (SS.free nD) (SS.trans S4) ⟨fs,hD,P⟩
theorem sc_looks:FnScope ["order", "text", "made", "marks"] ["order", "text"] (C1 t7):=E6
abbrev sV:List Str:=["order", "text", "made", "marks"]
theorem vcs:VS sV t7 "order" 0:=vq
theorem vct:VS sV t7 "text" 1:=vq
theorem zF:VS sV t7 "made" 2:=vq
theorem vcv:VS sV t7 "marks" 3:=vq
theorem vcw:LS t7 "made":=lq
theorem vcx:LS t7 "marks":=lq
theorem amN(F:FunD K "looks" "looks" t7 f fd)(T:Txt P w K mg C)(G_units:FO P w K mg base 6 "units" ["order", "text"] [] (akI C)):FnOk P w K mg base E2 7 f fd ["order", "text"] (akQ C):=by
 refine F.ok sc_looks ?_ ?_
 .rintro _ _ _ _ ⟨x,j,ll,ml,md,z,g,R,L,M,rfl,_⟩;rfl
 .intro cdv A outer s H vs Q E hr h;have B3:=hu_of hr;have hu:=hr.units;refine ⟨_,QSs.out (A5 (C8 (n:=2) sc_looks.nd rfl vcw (D7 G_units (hm hr) (qa_c (vi vcs) (qa_c (vi vct) A2))))
   (A5 (nP (n:=3) sc_looks.nd rfl vcx (V5:CompOk ["order", "text", "made", "marks"] (C1 t7).names _ ["unit"] 1 []) (O5 (K:=K) (vi zF)) (fun _ _ _ _ _=>D3 (n:=0) (show List.Nodup (["unit"]:List Str) by decide +kernel) rfl (Or.inl rfl)) (fun _ _ _ _ _=>k6) (fun _ _ _ _ _=>(qe_ix (K:=K) (qv 0) A1)))
   (hJ (qs_if (P8 (K:=K) (aU (K:=K) (vi vcs))) (A4 (T0 (qe_m0 (K:=K) W2 PySem.F.slot_list_reverse PySem.F.type_list_reverse aj9 (vi vcv)))) E8)
   (A4 (C5 (R4 (qa_c (f9  (V5:CompOk ["order", "text", "made", "marks"] (C1 t7).names _ ["unit"] 1 []) (O5 (K:=K) (vi zF)) (fun _ _ _ _ _=>D3 (n:=0) (show List.Nodup (["unit"]:List Str) by decide +kernel) rfl (Or.inl rfl)) (fun _ _ _ _ _=>k6) (fun _ _ _ _ _=>(O4 (K:=K) (qv 0) Q8 (M4 A1)))) (qa_c (vi vcv) (qa_c (f9  (V5:CompOk ["order", "text", "made", "marks"] (C1 t7).names _ ["unit"] 1 []) (O5 (K:=K) (vi zF)) (fun _ _ _ _ _=>D3 (n:=0) (show List.Nodup (["unit"]:List Str) by decide +kernel) rfl (Or.inl rfl)) (fun _ _ _ _ _=>k6) (fun _ _ _ _ _=>(qe_ix (K:=K) (qv 0) A1))) (qa_c (vi vct) A2)))))))))),?_⟩
  obtain ⟨x,j,ll,ml,md,z,g,R,L,M,rfl,hO,hk,hz,hw,hs,q⟩:=h;obtain ⟨b1,b2,b3⟩:=ahk hs (w:=hasW R "figures") (ks:=G4 R) (y:=z) hz;walk_at "rd";refine ⟨x,j,ll,ml,md,z,g,R,L,M,rfl,hO,hk,hz,hw,hs,fun u H1 nu S1 hU=>?_⟩;generalize Q7 (stepY R L M) (cutF (hasW R "figures") (G4 R) z.cps.toList).2=U at *;obtain ⟨es,e1,e2⟩:=hU;have i8:=Paired.length e2;walk_at "rd";refine ⟨⟨_,.of e1⟩,compL (xs:=es.map fun e=>V.ref e.1) [] rfl (fun D i ys H2=>Same H1 H2/\ys=(es.take i).map fun e=>V.ref e.2) (fun D nD=>⟨Same.new nD,rfl⟩) (by rintro D i ys H2 nD _ ⟨S,_⟩;exact .of (S _ _ e1)) ?_ ?_⟩
  .rintro D i y ys H2 nD hi hy ⟨S2,rfl⟩ hD Q2;obtain ⟨e,he,rfl⟩:=G5 (f:=fun e:Addr×Addr=>V.ref e.1) hy;obtain ⟨w,uK,gE⟩:=Paired.at e2 he;have o3:i<es.length:=(E5.mp he).1;walk_at "rd";refine ⟨_,.inr (.of (S2 _ _ gE.1)),V.ref e.2,G8 (j:=2) rfl,hD,by simp only [A6,G7];exact L8 'a',CW.put hi Q2 ⟨S2.put nD,?_⟩⟩;rw [M7 he,D0];rfl
  rintro D ys H2 nD ⟨S2,rfl⟩ hD _;rw [A6,M3] at hD;have fU:=aed e2;refine mid (fun Y H'=>Y=[some (.ref x),some (.str z),some (.ref u),some (.ref D)]/\Same H1 H'/\∃ uL:List Addr,H' D=some (.lst (uL.map V.ref))/\Paired (fun c (x:List Int)=>H1 c=some (.tup (x.map V.int))) uL ((if hasW R "behind"=true then U.reverse else U).map fun u=>u.2.2.1)) ?_ ?_
  .obtain ⟨dx,ho⟩:=hO.ob;walk_at "rd";refine ⟨_,_,_,S2 _ _ (S1 _ _ ho),T.cl,T.na_behind,_,aeE _ _ _ _ _ _,_,rfl,?_⟩
   by_cases hb:hasW R "behind"=true
   .rw [if_pos hb,if_pos hb];refine ⟨V2 hD,D,_,rfl,rfl,hD,S2.put nD,(es.map (·.2)).reverse,?_,?_⟩
    .rw [A3,List.map_reverse,R3];rfl
    .rw [List.map_reverse];exact xS fU
   .rw [if_neg hb,if_neg hb];refine ⟨S2,es.map (·.2),?_,fU⟩;rw [hD,R3];rfl
  rintro Y H3 ⟨rfl,S3,uL,hD3,hP3⟩;clear hD S2 fU;have mI:=S3 _ _ e1;walk_at "rd";refine ⟨⟨_,.of mI⟩,compL (xs:=es.map fun e=>V.ref e.1) [] rfl (fun D i ys H2=>Same H3 H2/\∃ as:List Addr,ys=as.map V.ref/\Paired (fun c (x:List Int)=>H2 c=some (.tup (x.map V.int))/\H3 c=none/\c≠D) as ((U.take i).map fun u=>[u.1,u.2.1])) (fun D nD=>⟨Same.new nD,[],rfl,.nil⟩) (by rintro D i ys H2 nD _ ⟨S,_⟩;exact .of (S _ _ mI)) ?_ ?_⟩
  .rintro D i y ys H2 nD2 hi hy ⟨S2,as,rfl,hP⟩ hD Q2;obtain ⟨e,he,rfl⟩:=G5 (f:=fun e:Addr×Addr=>V.ref e.1) hy;obtain ⟨w,uK,gE⟩:=Paired.at e2 he;have o3:i<es.length:=(E5.mp he).1;have mQ:=Paired.length hP;rw [A6,G7] at mQ;walk_at "rd";refine rSlR.t (.of (S2 _ _ (S3 _ _ gE.1))) (by simp [HT.sIx]) fun p np=>?_
   rw [show cutV [V.int w.1,V.int w.2.1,V.ref e.2,V.int w.2.2.2] none (some 2)=[w.1,w.2.1].map V.int from aV _ 2];have S4:Same H2 (A0 H2 p (.tup ([w.1,w.2.1].map V.int))):=Same.new np;have o4:A0 H2 p (.tup ([w.1,w.2.1].map V.int)) p=some (.tup ([w.1,w.2.1].map V.int)):=A3;have hpD:p≠D:=fun e=>by rw [e,hD] at np;cases np
   generalize A0 H2 p (.tup ([w.1,w.2.1].map V.int))=H4 at S4 o4;refine ⟨S4 _ _ hD,by rw [A6];exact L8 'a',CW.put hi Q2 ⟨(S2.trans S4).put nD2,as++[p],by rw [D0];rfl,?_⟩⟩;rw [M7 uK,D0];exact Paired.snoc (N9 hP fun c x ⟨h1,h2,h3⟩=>⟨by rw [A7 h3];exact S4 _ _ h1,h2,h3⟩) ⟨by rw [A7 hpD];exact o4,S2.free np,hpD⟩
  rintro D4 ys H4 nD4 ⟨S4,as1,rfl,hP4⟩ hD4 _;rw [A6,i8,M3] at hP4;have gF:=S4 _ _ mI;refine ⟨⟨_,.of gF⟩,compL (xs:=es.map fun e=>V.ref e.1) [] rfl (fun D i ys H2=>Same H4 H2/\ys=((U.take i).map fun u=>u.2.2.2).map V.int) (fun D nD=>⟨Same.new nD,rfl⟩) (by rintro D i ys H2 nD _ ⟨S,_⟩;exact .of (S _ _ gF)) ?_ ?_⟩
  .rintro D i y ys H2 nD2 hi hy ⟨S2,rfl⟩ hD Q2;obtain ⟨e,he,rfl⟩:=G5 (f:=fun e:Addr×Addr=>V.ref e.1) hy;obtain ⟨w,uK,gE⟩:=Paired.at e2 he;have o3:i<es.length:=(E5.mp he).1;walk_at "rd";refine ⟨_,.inr (.of (S2 _ _ (S4 _ _ (S3 _ _ gE.1)))),V.int w.2.2.2,G8 (j:=3) rfl,hD,by simp only [A6,G7];exact L8 'a',CW.put hi Q2 ⟨S2.put nD2,?_⟩⟩;rw [M7 uK,D0,D0];rfl
  rintro D5 ys H5 nD5 ⟨S5,rfl⟩ hD5 _;rw [A6,i8,M3] at hD5;refine ⟨by decide,fun p np=>?_⟩;have S6:Same H5 (A0 H5 p (.lst [V.ref D4,V.ref D,V.ref D5,V.str z])):=Same.new np;have S36:=S4.trans (S5.trans S6);refine q p _ ((S1.trans (S3.trans (S4.trans S5))).free np) (S1.trans (S3.trans S36)) ⟨_,A3,.cons ?_ (.cons ?_ (.cons ?_ (.cons rfl .nil)))⟩
  .exact ⟨D4,as1,rfl,(S5.trans S6) _ _ hD4,N9 hP4 fun c x h=>(S5.trans S6) _ _ h.1⟩
  .exact ⟨D,uL,rfl,S36 _ _ hD3,N9 hP3 fun c x h=>S36 _ _ (S3 _ _ h)⟩
  .exact ⟨D5,rfl,S6 _ _ hD5⟩
theorem sc_compare:FnScope ["order", "one", "other", "strength", "ours", "theirs", "level"] ["order", "one", "other", "strength"] (C1 Y3):=E6
abbrev iG:List Str:=["order", "one", "other", "strength", "ours", "theirs", "level"]
theorem vcy:VS iG Y3 "order" 0:=vq
theorem vcz:VS iG Y3 "one" 1:=vq
theorem vcA:VS iG Y3 "other" 2:=vq
theorem vcB:VS iG Y3 "strength" 3:=vq
theorem vcC:VS iG Y3 "ours" 4:=vq
theorem vcD:VS iG Y3 "theirs" 5:=vq
theorem sW:VS iG Y3 "level" 6:=vq
theorem vcF:LS Y3 "ours":=lq
theorem vcG:LS Y3 "theirs":=lq
theorem vcH:LS Y3 "level":=lq
theorem afw(F:FunD K "compare" "compare" Y3 f fd)(T:Txt P w K mg C)(G_looks:FO P w K mg base 7 "looks" ["order", "text"] [] (akQ C)):FnOk P w K mg base E2 8 f fd ["order", "one", "other", "strength"] (sF C):=by
 refine F.ok sc_compare ?_ ?_
 .rintro _ _ _ _ ⟨x,j,ll,ml,md,z,z',n,g,R,L,M,rfl,_⟩;rfl
 .intro cdv A outer s H vs Q E hr h;have B3:=hu_of hr;have hu:=hr.units;refine ⟨_,QSs.out (A5 (C8 (n:=4) sc_compare.nd rfl vcF (D7 G_looks (hm hr) (qa_c (vi vcy) (qa_c (vi vcz) A2))))
   (A5 (C8 (n:=5) sc_compare.nd rfl vcG (D7 G_looks (hm hr) (qa_c (vi vcy) (qa_c (vi vcA) A2))))
   (A5 (M0 PassesOwn.never (qi_r1 T.b_range (qa_c (vi vcB) A2)) (D3 (n:=6) sc_compare.nd rfl vcH 'f') (A4 (qs_if (E1 (q_ne (K:=K) hu) (qe_ix (K:=K) (vi vcC) (vi sW)) (qe_ix (K:=K) (vi vcD) (vi sW))) (A4 (C5 (ah1 (E1 (q_ltK hu (K:=K)) (qe_ix (K:=K) (vi vcC) (vi sW)) (qe_ix (K:=K) (vi vcD) (vi sW))) (qe_un q_neg A1) A1))) E8)))
   (A4 (C5 A1))))),?_⟩
  obtain ⟨x,j,ll,ml,md,z,z',n,g,R,L,M,rfl,hn,hO,hk,hz,Q1,hw,hw',hs,q⟩:=h;walk_at "rd";refine ⟨x,j,ll,ml,md,z,g,R,L,M,rfl,hO,hk,hz,hw,hs,fun l H1 nl S1 hl=>?_⟩;refine ⟨x,j,ll,ml,md,z',g,R,L,M,rfl,hO.same S1,hk,Q1,hw',hs,fun l' H2 nl' S2 uB=>?_⟩;have uM:=aho 'e' 'e' (Q7 (stepY R L M) (cutF (hasW R "figures") (G4 R) z.cps.toList).2) (Q7 (stepY R L M) (cutF (hasW R "figures") (G4 R) z'.cps.toList).2) z z';have i6:=hl.same S2;have A9:(g6 'e' (Q7 (stepY R L M) (cutF (hasW R "figures") (G4 R) z.cps.toList).2) z).length=4:=rfl;have hlen':(g6 'e' (Q7 (stepY R L M) (cutF (hasW R "figures") (G4 R) z'.cps.toList).2) z').length=4:=rfl;unfold g7 at q;generalize g6 'e' (Q7 (stepY R L M) (cutF (hasW R "figures") (G4 R) z.cps.toList).2) z=ds at *;generalize g6 'e' (Q7 (stepY R L M) (cutF (hasW R "figures") (G4 R) z'.cps.toList).2) z'=ds' at *;obtain ⟨vs,v1,v2⟩:=i6;obtain ⟨vs',w1,w2⟩:=uB;have z1:=Paired.length v2;have z2:=Paired.length w2;refine ⟨by lia,by lia,forRs (fun i Y H'=>(∃ u:Option V,Y=[some (.ref x),some (.str z),some (.str z'),some (.int n),some (.ref l),some (.ref l'),u])/\H'=H2/\∀ k<i,ds[k]?=ds'[k]?) ⟨⟨none,rfl⟩,rfl,by simp⟩ ?_ ?_⟩
  .rintro P' Bk hP i Y H' hi ⟨⟨u,rfl⟩,rfl,bP⟩;have E9:i<n:=by simpa using hi
   have a1:vs[i]?=some vs[i]:=L1 'a';have a2:vs'[i]?=some vs'[i]:=L1 'a';obtain ⟨d,hd,ld⟩:=Paired.at v2 a1;obtain ⟨d',iO,ld'⟩:=Paired.at w2 a2;have kd:=uM i d d' hd iO;generalize vs[i]=v at *;generalize vs'[i]=v' at *;have i1:F8 vs (0+(i:Int))=some v:=by rw [cE];exact G8 a1
   have i2:F8 vs' (0+(i:Int))=some v':=by rw [cE];exact G8 a2
   walk_at "rd";refine ⟨_,.inl (.of v1),_,i1,_,.inl (.of w1),_,i2,LvAt.ne ld ld' kd ⟨_,rfl,?_⟩⟩
   by_cases qE:d=d'
   .rw [if_neg (by simp [qE])];refine hP _ _ _ ⟨⟨_,rfl⟩,rfl,fun k hk=>?_⟩
    by_cases jE:k=i
    .rw [jE,hd,iO,qE]
    .exact bP k 'a'
   .rw [if_pos (by simp [qE])];have hq:=q H' (S1.trans S2);rw [amG E9 hd iO bP qE] at hq;unfold cmpD at hq;rw [if_neg qE] at hq;refine ⟨_,.inl (.of v1),_,i1,_,.inl (.of w1),_,i2,LvAt.lt ld ld' kd ⟨_,rfl,?_⟩⟩
    by_cases C4:d.lt d'=true
    .rw [if_pos C4] at hq ⊢
     exact hq
    .rw [if_neg C4] at hq ⊢
     exact hq
  rintro Y H' ⟨⟨u,rfl⟩,rfl,bP⟩;walk_at "rd"
  have:=q H' (S1.trans S2)
  rw [akR (by simpa using bP)] at this;exact this
theorem sc_difference:FnScope ["order", "x", "y", "strength", "level", "sign"] ["order", "x", "y", "strength"] (C1 g3):=E6
abbrev lV:List Str:=["order", "x", "y", "strength", "level", "sign"]
theorem vcI:VS lV g3 "order" 0:=vq
theorem vcJ:VS lV g3 "x" 1:=vq
theorem vcK:VS lV g3 "y" 2:=vq
theorem vcL:VS lV g3 "strength" 3:=vq
theorem vcM:VS lV g3 "level" 4:=vq
theorem vcN:VS lV g3 "sign" 5:=vq
theorem vcO:LS g3 "level":=lq
theorem vcP:LS g3 "sign":=lq
theorem adP(F:FunD K "difference" "difference" g3 f fd)(T:Txt P w K mg C)(G3_compare:FO P w K mg base 8 "compare" ["order", "one", "other", "strength"] [] (sF C)):FnOk P w K mg base E2 9 f fd ["order", "x", "y", "strength"] (spDif C):=by
 refine F.ok sc_difference ?_ ?_
 .rintro _ _ _ _ ⟨x,z,z',n,R,L,M,rfl,_⟩;rfl
 .intro cdv A outer s H vs Q E hr h;have B3:=hu_of hr;have hu:=hr.units;refine ⟨_,QSs.out (A5 (M0 PassesOwn.never (qi_r2 T.b_range (qa_c A1 (qa_c (qe_op (q_add (K:=K)) (vi vcL) A1) A2))) (D3 (n:=4) sc_difference.nd rfl vcO 'f') (A5 (C8 (n:=5) sc_difference.nd rfl vcP (D7 G3_compare (hm hr) (qa_c (vi vcI) (qa_c (vi vcJ) (qa_c (vi vcK) (qa_c (vi vcM) A2))))))
   (A4 (qs_if (E1 (q_ne (K:=K) hu) (vi vcN) A1) (A4 (C5 (F9 (qa_c (vi vcM) (qa_c (vi vcN) A2))))) E8))))
   (A4 (C5 (F9 (qa_c A1 (qa_c A1 A2)))))),?_⟩
  obtain ⟨x,z,z',n,R,L,M,rfl,hn,hO,hz,Q1,q⟩:=h;walk_at "rd";refine ⟨by decide,by decide,by lia,by lia,?_⟩;rw [show ((n:Int)+1-1).toNat=n by lia];refine forRs (fun i Y H2=>(∃ u v:Option V,Y=[some (.ref x),some (.str z),some (.str z'),some (.int n),u,v])/\Same H H2/\∀ k<i,cmpF (k+1) (g7 R L M z) (g7 R L M z')=0) ⟨⟨none,none,rfl⟩,aQ _,by simp⟩ ?_ ?_
  .rintro P' Bk hP i Y H2 hi ⟨⟨u,v,rfl⟩,S,h0⟩;obtain ⟨j,ll,ml,md,O⟩:=hO.ex;walk_at "rd";refine ⟨x,j,ll,ml,md,z,z',i+1,_,R,L,M,by rw [show (1+(i:Int))=((i+1:Nat):Int) by lia],by lia,O.same S,hO.kn,hz.1,Q1.1,hz.2,Q1.2,hO.st,fun H3 S3=>?_⟩;walk_at "rd";refine iteN (fun G9=>⟨by decide,fun p np=>?_⟩) fun he=>hP _ _ _ ⟨⟨_,_,rfl⟩,S.trans S3,fun k hk=>?_⟩
   .refine q p _ ((S.trans S3).free np) ((S.trans S3).trans (Same.new np)) ?_;unfold difR;rw [A3,xZ hi h0 G9,show (1+(i:Int))=((i+1:Nat):Int) by lia]
   .by_cases jE:k=i
    .rw [jE];exact he
    .exact h0 k 'a'
  rintro Y H2 ⟨⟨u,v,rfl⟩,S,h0⟩;walk_at "rd";refine ⟨by decide,fun p np=>q p _ (S.free np) (S.trans (Same.new np)) ?_⟩;unfold difR;rw [A3,yA h0]
theorem ae2:FnScope ["one", "other", "x", "y", "strength"] ["one", "other", "x", "y", "strength"] (C1 x5):=E6
abbrev oW:List Str:=["one", "other", "x", "y", "strength"]
theorem vcQ:VS oW x5 "one" 0:=vq
theorem vcR:VS oW x5 "other" 1:=vq
theorem vcS:VS oW x5 "x" 2:=vq
theorem vcT:VS oW x5 "y" 3:=vq
theorem vcU:VS oW x5 "strength" 4:=vq
theorem adv(F:FunD K "differences" "differences" x5 f fd)(T:Txt P w K mg C)(G3_difference:FO P w K mg base 9 "difference" ["order", "x", "y", "strength"] [] (spDif C)):FnOk P w K mg base E2 10 f fd ["one", "other", "x", "y", "strength"] (sG C):=by
 refine F.ok ae2 ?_ ?_
 .rintro _ _ _ _ ⟨x,y,z,z',n,R,R',L,M,L',M',rfl,_⟩;rfl
 .intro cdv A outer s H vs Q E hr h;have B3:=hu_of hr;have hu:=hr.units;refine ⟨_,QSs.out (A4 (C5 (qe_op (q_add (K:=K)) (D7 G3_difference (hm hr) (qa_c (vi vcQ) (qa_c (vi vcS) (qa_c (vi vcT) (qa_c (vi vcU) A2))))) (D7 G3_difference (hm hr) (qa_c (vi vcR) (qa_c (vi vcS) (qa_c (vi vcT) (qa_c (vi vcU) A2)))))))),?_⟩;obtain ⟨x,y,z,z',n,R,R',L,M,L',M',rfl,hn,hO,hO',h1,h2,h3,h4,q⟩:=h;walk_at "rd";refine ⟨x,z,z',n,R,L,M,rfl,hn,hO,h1,h2,fun t H1 nt S1 ht=>⟨y,z,z',n,R',L',M',rfl,hn,hO'.same S1,h3,h4,fun t' H2 nt' S2 qF=>?_⟩⟩;walk_at "rd";refine rAddR.t (.of (S2 _ _ ht)) (.of qF) 'd' (by simp only [L3,Z0];exact Q4 'a') (fun e=>by cases e) fun _ p np=>q p _ ((S1.trans S2).free np) ((S1.trans S2).trans (Same.new np)) ?_
  rw [A3];rfl
theorem ala:FnScope ["order", "so_far", "apart"] ["order", "so_far", "apart"] (C1 lG):=E6
abbrev zG:List Str:=["order", "so_far", "apart"]
theorem vcV:VS zG lG "order" 0:=vq
theorem oX:VS zG lG "so_far" 1:=vq
theorem lW:VS zG lG "apart" 2:=vq
theorem alb(F:FunD K "stands" "stands" lG f fd)(T:Txt P w K mg C):FnOk P w K mg base E2 1 f fd ["order", "so_far", "apart"] (aip K C):=by
 refine F.ok ala ?_ ?_
 .rintro _ _ _ _ ⟨x,p,q',s,a,R,L,M,rfl,_⟩;rfl
 .intro cdv A outer s H vs Q E hr h;have B3:=hu_of hr;have hu:=hr.units;refine ⟨_,QSs.out (A5 (qs_if (E1 'k' (qe_ix (K:=K) (vi lW) A1) A1) (A4 (C5 (vi oX))) E8)
   (A5 (qs_if (QW.pt (qw_or (E1 'k' (qe_ix (K:=K) (vi oX) A1) A1) (aT (E1 q_gt (qe_ix (K:=K) (vi oX) A1) (qe_ix (K:=K) (vi lW) A1))))) (A4 (C5 (vi lW))) E8)
   (A5 (qs_if (QW.pt (q9 (E1 'k' (qe_ix (K:=K) (vi oX) A1) (qe_ix (K:=K) (vi lW) A1)) (q9 (E1 'k' (qe_ix (K:=K) (vi lW) A1) A1) (w8 (P8 (K:=K) (aU (K:=K) (vi vcV))))))) (A4 (C5 (vi lW))) E8)
   (A4 (C5 (vi oX)))))),?_⟩
  obtain ⟨x,p,q',s,a,R,L,M,rfl,hO,hp,hq,q⟩:=h;obtain ⟨j,ll,ml,md,O⟩:=hO.ex;obtain ⟨dx,ho⟩:=O.ob;unfold J8 at hp hq;walk_at "rd";refine ⟨_,.inr hq,V.int a.1,J5 _ _,?_⟩;walk_at "rd";unfold Z5 at q;refine iteD (fun h0=>q p (by rw [if_pos h0];exact hp)) fun h0=>⟨_,.inr hp,V.int s.1,J5 _ _,?_⟩
  rw [if_neg h0] at q;walk_at "rd";have hA:(s.1=0\/a.1<s.1)->Q (V.ref q') H:=fun h=>q q' (by rw [if_pos h];exact hq)
  refine iteD (fun h1=>hA (.inl h1)) fun h1=>⟨_,.inr hp,V.int s.1,J5 _ _,_,.inr hq,V.int a.1,J5 _ _,?_⟩
  walk_at "rd";refine iteD (fun h2=>hA (.inr h2)) fun h2=>⟨_,.inr hp,V.int s.1,J5 _ _,_,.inr hq,V.int a.1,J5 _ _,?_⟩
  rw [if_neg (fun h=>h.elim h1 h2)] at q;walk_at "rd";have hS:¬ (s.1=a.1/\a.1=2/\hasW R "behind"=true)->Q (V.ref p) H:=fun h=>q p (by rw [if_neg h];exact hp)
  refine iteD (fun h3=>⟨_,.inr hq,V.int a.1,J5 _ _,?_⟩) fun h3=>hS (fun h=>h3 h.1)
  walk_at "rd";refine iteD (fun h4=>?_) fun h4=>hS (fun h=>h4 h.2.1)
  refine ⟨_,_,_,ho,T.cl,T.na_behind,_,aeE _ _ _ _ _ _,_,rfl,?_⟩
  by_cases hb:hasW R "behind"=true
  .rw [if_pos hb];exact q q' (by rw [if_pos ⟨h3,h4,hb⟩];exact hq)
  .rw [if_neg hb];exact hS (fun h=>hb h.2.2)
theorem aji:FnScope ["one", "other", "room", "apart"] ["one", "other", "room", "apart"] (C1 iB):=E6
abbrev sX:List Str:=["one", "other", "room", "apart"]
theorem vcY:VS sX iB "one" 0:=vq
theorem vcZ:VS sX iB "other" 1:=vq
theorem vc0:VS sX iB "room" 2:=vq
theorem vc1:VS sX iB "apart" 3:=vq
theorem ajj(F:FunD K "goes_on" "goes_on" iB f fd)(T:Txt P w K mg C)(G_stands:FO P w K mg base 1 "stands" ["order", "so_far", "apart"] [] (aip K C)):FnOk P w K mg base E2 2 f fd ["one", "other", "room", "apart"] (anj K C):=by
 refine F.ok aji ?_ ?_
 .rintro _ _ _ _ ⟨x,y,p,p',r,d,R,R',L,M,L',M',rfl,_⟩;rfl
 .intro cdv A outer s H vs Q E hr h;have B3:=hu_of hr;have hu:=hr.units;refine ⟨_,QSs.out (A4 (C5 (qe_op (q_add (K:=K)) (D7 G_stands (hm hr) (qa_c (vi vcY) (qa_c (O4 (K:=K) (vi vc0) Q8 (M4 A1)) (qa_c (O4 (K:=K) (vi vc1) Q8 (M4 A1)) A2)))) (D7 G_stands (hm hr) (qa_c (vi vcZ) (qa_c (O4 (K:=K) (vi vc0) (M4 A1) Q8) (qa_c (O4 (K:=K) (vi vc1) (M4 A1) Q8) A2))))))),?_⟩;obtain ⟨x,y,p,p',r,d,R,R',L,M,L',M',rfl,hO,hO',hp,hd,q⟩:=h;unfold P1 at hp hd;walk_at "rd";refine rSlR.t hp (by simp [HT.sIx]) fun l1 n1=>rSlR.t (g8 (Same.new n1) hd) (by simp [HT.sIx]) fun l2 n2=>?_
  rw [show cutV [V.int r.1,V.int r.2.1,V.int r.2.2.1,V.int r.2.2.2] none (some 2)=J8 (r.1,r.2.1) from aV _ 2,show cutV [V.int d.1,V.int d.2.1,V.int d.2.2.1,V.int d.2.2.2] none (some 2)=J8 (d.1,d.2.1) from aV _ 2] at *;have S1:Same H (A0 (A0 H l1 (.tup (J8 (r.1,r.2.1)))) l2 (.tup (J8 (d.1,d.2.1)))):=(Same.new n1).trans (Same.new n2);have e1:A0 (A0 H l1 (.tup (J8 (r.1,r.2.1)))) l2 (.tup (J8 (d.1,d.2.1))) l1=some (.tup (J8 (r.1,r.2.1))):=C9 A3 n2;have e2:A0 (A0 H l1 (.tup (J8 (r.1,r.2.1)))) l2 (.tup (J8 (d.1,d.2.1))) l2=some (.tup (J8 (d.1,d.2.1))):=A3;generalize A0 (A0 H l1 (.tup (J8 (r.1,r.2.1)))) l2 (.tup (J8 (d.1,d.2.1)))=H2 at S1 e1 e2;refine ⟨x,l1,l2,_,_,R,L,M,rfl,hO.same S1,.of e1,.of e2,fun t ht=>?_⟩;refine rSlR.t (g8 S1 hp) (by simp [HT.sIx]) fun l3 n3=>rSlR.t (g8 (Same.new n3) (g8 S1 hd)) (by simp [HT.sIx]) fun l4 n4=>?_
  rw [show cutV [V.int r.1,V.int r.2.1,V.int r.2.2.1,V.int r.2.2.2] (some 2) none=J8 (r.2.2.1,r.2.2.2) from r8 _ 2,show cutV [V.int d.1,V.int d.2.1,V.int d.2.2.1,V.int d.2.2.2] (some 2) none=J8 (d.2.2.1,d.2.2.2) from r8 _ 2] at *;have S3:Same H2 (A0 (A0 H2 l3 (.tup (J8 (r.2.2.1,r.2.2.2)))) l4 (.tup (J8 (d.2.2.1,d.2.2.2)))):=(Same.new n3).trans (Same.new n4);have e3:A0 (A0 H2 l3 (.tup (J8 (r.2.2.1,r.2.2.2)))) l4 (.tup (J8 (d.2.2.1,d.2.2.2))) l3=some (.tup (J8 (r.2.2.1,r.2.2.2))):=C9 A3 n4;have e4:A0 (A0 H2 l3 (.tup (J8 (r.2.2.1,r.2.2.2)))) l4 (.tup (J8 (d.2.2.1,d.2.2.2))) l4=some (.tup (J8 (d.2.2.1,d.2.2.2))):=A3;generalize A0 (A0 H2 l3 (.tup (J8 (r.2.2.1,r.2.2.2)))) l4 (.tup (J8 (d.2.2.1,d.2.2.2)))=H3 at S3 e3 e4;refine ⟨y,l3,l4,_,_,R',L',M',rfl,hO'.same (S1.trans S3),.of e3,.of e4,fun t' qF=>?_⟩;walk_at "rd";refine rAddR.t (g8 S3 ht) qF (by simp [J8]) (by simp only [J8,L3,Z0];exact Q4 'a') (fun e=>by cases e) fun _ p np=>q p _ ((S1.trans S3).free np) ((S1.trans S3).trans (Same.new np)) ?_
  rw [A3];rfl
theorem aeQ:FnScope ["room"] ["room"] (C1 sD):=E6
abbrev ae3:List Str:=["room"]
theorem vc2:VS ae3 sD "room" 0:=vq
theorem aeR(F:FunD K "is_otherwise" "is_otherwise" sD f fd)(T:Txt P w K mg C):FnOk P w K mg base E2 1 f fd ["room"] (spOt K Z6):=by
 refine F.ok aeQ ?_ ?_
 .rintro _ _ _ _ ⟨p,r,rfl,_⟩;rfl
 .intro cdv A outer s H vs Q E hr h;have B3:=hu_of hr;have hu:=hr.units;refine ⟨_,QSs.out (A4 (C5 (q0 (q_ne (K:=K) hu) (qe_ix (K:=K) (vi vc2) A1) (qe_ix (K:=K) (vi vc2) A1)))),?_⟩;obtain ⟨p,r,rfl,hp,q⟩:=h;unfold P1 at hp;walk_at "rd";refine ⟨_,.inr hp,V.int r.2.1,G8 (j:=1) rfl,_,.inr hp,V.int r.2.2.2,G8 (j:=3) rfl,?_⟩;walk_at "rd";exact q
theorem agT:FnScope ["room"] ["room"] (C1 sE):=E6
abbrev ahI:List Str:=["room"]
theorem vc3:VS ahI sE "room" 0:=vq
theorem agU(F:FunD K "is_uneven" "is_uneven" sE f fd)(T:Txt P w K mg C):FnOk P w K mg base E2 1 f fd ["room"] (spOt K m3):=by
 refine F.ok agT ?_ ?_
 .rintro _ _ _ _ ⟨p,r,rfl,_⟩;rfl
 .intro cdv A outer s H vs Q E hr h;have B3:=hu_of hr;have hu:=hr.units;refine ⟨_,QSs.out (A4 (C5 (q0 (q_ne (K:=K) hu) (q0 'k' (qe_ix (K:=K) (vi vc3) A1) A1) (q0 'k' (qe_ix (K:=K) (vi vc3) A1) A1)))),?_⟩;obtain ⟨p,r,rfl,hp,q⟩:=h;unfold P1 at hp;walk_at "rd";refine ⟨_,.inr hp,V.int r.1,J5 _ _,?_⟩;walk_at "rd";refine ⟨_,.inr hp,V.int r.2.2.1,G8 (j:=2) rfl,?_⟩;walk_at "rd";exact q
theorem ahJ:FnScope ["order", "sign"] ["order", "sign"] (C1 lH):=E6
abbrev afx:List Str:=["order", "sign"]
theorem vc4:VS afx lH "order" 0:=vq
theorem vc5:VS afx lH "sign" 1:=vq
theorem ahK(F:FunD K "is_plain" "is_plain" lH f fd)(T:Txt P w K mg C)(G_Order_steps:MO P w K mg base 1 C "steps" ["self", "piece"] (oH C)):FnOk P w K mg base E2 2 f fd ["order", "sign"] (ank C):=by
 refine F.ok ahJ ?_ ?_
 .rintro _ _ _ _ ⟨x,z,R,L,M,rfl,_⟩;rfl
 .intro cdv A outer s H vs Q E hr h;have B3:=hu_of hr;have hu:=hr.units;refine ⟨_,QSs.out (A4 (C5 (q0 'k' (qe_cB (q_len (K:=K)) T.b_len f7 (qa_c (f9  (V5:CompOk ["order", "sign"] (C1 lH).names _ ["step"] 1 []) (cL (K:=K) (rQ (vi vc4) G_Order_steps (hm hr) (qa_c (vi vc5) A2))) (fun _ _ _ _ _=>D3 (n:=0) (show List.Nodup (["step"]:List Str) by decide +kernel) rfl (Or.inl rfl)) (fun _ _ _ _ _=>(kS (E1 'k' (qe_ix (K:=K) (qv 0) A1) (gZ T.g_LETTER)))) (fun _ _ _ _ _=>(qv 0))) A2)) A1))),?_⟩;obtain ⟨x,z,R,L,M,rfl,hO,hl,q⟩:=h;obtain ⟨j,ll,ml,md,O⟩:=hO.ex;obtain ⟨dx,ho⟩:=O.ob;walk_at "rd";refine ⟨_,_,ho,nX _ _ _ _ _ _ 'c',x,j,ll,ml,md,z,_,R,L,M,rfl,O,fun r H1 S1 hs=>?_⟩;obtain ⟨ts,t1,t2⟩:=hs.ex;have pO:=Paired.length t2;generalize hss:stepF R L M z=ss at *;refine ⟨r,rfl,⟨_,.of t1⟩,compT (xs:=ts.map V.ref) [] rfl (fun D i ys H2=>Same H1 H2/\ys.length=letN (ss.take i)) (fun D nD=>⟨Same.new nD,rfl⟩) (by rintro D i ys H2 nD _ ⟨S,_⟩;exact .of (S _ _ t1)) ?_ ?_⟩
  .rintro D i y ys H2 nD hi hx ⟨S2,hn⟩ hD Q2;obtain ⟨t,ht,rfl⟩:=G5 hx;obtain ⟨u,fS,hut⟩:=Paired.at t2 ht;have o3:i<ts.length:=(E5.mp ht).1;have est:letN (ss.take (i+1))=letN (ss.take i)+(if u.1=2 then 1 else 0):=by
    unfold letN;rw [M7 fS,bZ,D9]
    by_cases h2:u.1=2
    .rw [if_pos h2];simp [h2]
    .rw [if_neg h2];simp [h2]
   have t3:H2 t=some (.tup [.int u.1,.int u.2.1,.int u.2.2]):=S2 _ _ hut;walk_at "rd";refine ⟨_,.inr (.of t3),V.int u.1,J5 _ _,?_⟩;walk_at "rd";refine iteD (fun h2=>⟨hD,L8 'a',CW.put hi Q2 ⟨S2.put nD,?_⟩⟩) fun h2=>⟨hD,wH hi Q2 ⟨S2,?_⟩⟩
   .rw [est,if_pos h2,D9,hn];rfl
   .rw [est,if_neg h2,hn];rfl
  rintro D ys H2 nD ⟨S2,hn⟩ hD _;rw [A6,pO,M3] at hn;walk_at "rd";refine ⟨ys.length,.inl ⟨_,.of hD,rfl⟩,?_⟩
  have:=q H2 (S1.trans S2)
  unfold fK at this;rw [hss] at this;rw [hn];rw [show decide ((letN ss:Int)=1)=decide (letN ss=1) from decide_eq_decide.mpr 'a'];exact this
theorem sc_check_plain:FnScope ["one", "other", "signs", "sign", "first", "second", "two"] ["one", "other", "signs"] (C1 g4):=E6
abbrev iH:List Str:=["one", "other", "signs", "sign", "first", "second", "two"]
theorem vc6:VS iH g4 "one" 0:=vq
theorem vc7:VS iH g4 "other" 1:=vq
theorem zH:VS iH g4 "signs" 2:=vq
theorem vc9:VS iH g4 "sign" 3:=vq
theorem vda:VS iH g4 "first" 4:=vq
theorem vdb:VS iH g4 "second" 5:=vq
theorem vdc:VS iH g4 "two" 6:=vq
theorem vdd:LS g4 "sign":=lq
theorem vde:LS g4 "first":=lq
theorem vdf:LS g4 "second":=lq
theorem vdg:LS g4 "two":=lq
theorem ae4(F:FunD K "check_plain" "check_plain" g4 f fd)(T:Txt P w K mg C)(G_Order_job:MO P w K mg base 1 C "job" ["self", "piece"] (xI C))(G_is_plain:FO P w K mg base 2 "is_plain" ["order", "sign"] [] (ank C)):FnOk P w K mg base E2 3 f fd ["one", "other", "signs"] (spChk C):=by
 refine F.ok sc_check_plain ?_ ?_
 .rintro _ _ _ _ ⟨x,y,l,zs,R,R',L,M,L',M',rfl,_⟩;rfl
 .intro cdv A outer s H vs Q E hr h;have B3:=hu_of hr;have hu:=hr.units;refine ⟨_,QSs.out (A5 (M0 PassesOwn.never (O5 (K:=K) (vi zH)) (D3 (n:=3) sc_check_plain.nd rfl vdd 'f') (A4 (qs_if (QW.pt (qw_or (aR (P8 (K:=K) (D7 G_is_plain (hm hr) (qa_c (vi vc6) (qa_c (vi vc9) A2))))) (aT (aR (P8 (K:=K) (D7 G_is_plain (hm hr) (qa_c (vi vc7) (qa_c (vi vc9) A2)))))))) (A4 kP) E8)))
   (A4 (M0 PassesOwn.never (O5 (K:=K) (vi zH)) (D3 (n:=4) sc_check_plain.nd rfl vde 'f') (A4 (M0 PassesOwn.never (O5 (K:=K) (vi zH)) (D3 (n:=5) sc_check_plain.nd rfl vdf 'f') (A5 (C8 (n:=6) sc_check_plain.nd rfl vdg (qe_op (q_add (K:=K)) (vi vda) (vi vdb)))
   (A4 (qs_if (QW.pt (qw_or (E1 wN (rQ (vi vc6) G_Order_job (hm hr) (qa_c (vi vdc) A2)) eZ) (aT (E1 wN (rQ (vi vc7) G_Order_job (hm hr) (qa_c (vi vdc) A2)) eZ)))) (A4 kP) E8)))))))),?_⟩
  obtain ⟨x,y,l,zs,R,R',L,M,L',M',rfl,hO,hO',hl,hz,hc,q⟩:=h;unfold chkF at hc;obtain ⟨c1,c2⟩:=Option.or_eq_none_iff.mp hc;walk_at "rd";refine ⟨⟨_,.of hl⟩,forLs (xs:=zs.map V.str) (fun i Y H2=>∃ u:Option V,Y=[some (.ref x),some (.ref y),some (.ref l),u,none,none,none]/\Same H H2/\True) ⟨none,rfl,aQ _,trivial⟩ (by rintro i Y H2 _ ⟨_,_,S,_⟩;exact .of (S _ _ hl)) ?_ ?_⟩
  .rintro P' Bk hP i a Y H2 ha ⟨u,rfl,S2,_⟩;obtain ⟨z,V9,rfl⟩:=G5 ha;have gC:=hz z (G6 V9);have hb:(!fK R L M z || !fK R' L' M' z)=false:=by have:=aI.mp c1 z (G6 V9);rwa [cA] at this
   rw [Bool.or_eq_false_iff,mY,mY] at hb;walk_at "rd";refine ⟨x,z,R,L,M,rfl,hO.same S2,gC.2.1,fun H3 S3=>⟨_,rfl,?_⟩⟩;rw [hb.1];refine iteF ⟨y,z,R',L',M',rfl,hO'.same (S2.trans S3),gC.2.2,fun H4 S4=>⟨_,rfl,?_⟩⟩;rw [hb.2];exact iteF (hP _ _ _ ⟨_,rfl,S2.trans (S3.trans S4),trivial⟩)
  rintro Y H2 ⟨u,rfl,S2,_⟩;have kn:∀ {R:List Rl} {g:Str->Str} {t:Str},(!decide ((if t∈keysP (C7 R)++W6 R then jobG g t else V.non)=V.non))=decide (t∈G4 R):=fun {R g t}=>by
   unfold G4 jobG
   by_cases h:t∈keysP (C7 R)++W6 R
   .rw [if_pos h,decide_eq_true h,decide_eq_false (by split <;> simp)];rfl
   .rw [if_neg h,decide_eq_false h];rfl
  walk_at "rd";refine ⟨⟨_,.of (S2 _ _ hl)⟩,forLs (xs:=zs.map V.str) (fun i Y H3=>∃ u v w r:Option V,Y=[some (.ref x),some (.ref y),some (.ref l),u,v,w,r]/\Same H H3) ⟨u,none,none,none,rfl,S2⟩ (by rintro i Y H2 _ ⟨_,_,_,_,_,S⟩;exact .of (S _ _ hl)) ?_ fun Y H3 ⟨_,_,_,_,e,S⟩=>q H3 S⟩;clear S2 H2;rintro P' Bk hP i a Y H2 ha ⟨u,v,w,r,rfl,S2⟩;obtain ⟨z,V9,rfl⟩:=G5 ha;have gC:=hz z (G6 V9);walk_at "rd";refine ⟨⟨_,.of (S2 _ _ hl)⟩,forLs (xs:=zs.map V.str) (fun k Y H3=>∃ w r:Option V,Y=[some (.ref x),some (.ref y),some (.ref l),u,some (.str z),w,r]/\Same H H3) ⟨w,r,rfl,S2⟩ (by rintro i Y H2 _ ⟨_,_,_,S⟩;exact .of (S _ _ hl)) ?_ fun Y H3 ⟨_,_,e,S⟩=>hP _ _ _ ⟨_,_,_,_,e,S⟩⟩;clear S2 H2;rintro P2 Bk2 hP2 k b Y H2 hb ⟨w,r,rfl,S2⟩;obtain ⟨z',uN,rfl⟩:=G5 hb;have hzm':=hz z' (G6 uN);have A9:(z++z').length=z.length+z'.length:=Array.size_append;have hk:=aI.mp c2 (z++z') (U8.mpr ⟨z,G6 V9,C6.mpr ⟨z',G6 uN,rfl⟩⟩);rw [cA,Bool.or_eq_false_iff] at hk;obtain ⟨j,ll,ml,md,O⟩:=(hO.same S2).ex;obtain ⟨j',ll',ml',md',O'⟩:=(hO'.same S2).ex;obtain ⟨dx,ho⟩:=O.ob;obtain ⟨dx',m5⟩:=O'.ob;walk_at "rd";refine ⟨Q4 'a',_,_,ho,nX _ _ _ _ _ _ 'c',x,j,ll,ml,md,z++z',_,R,L,M,rfl,O,?_⟩;show if (!decide ((if z++z'∈keysP (C7 R)++W6 R then jobG (oE R) (z++z') else V.non)=V.non))=true then _ else _
  rw [kn,hk.1];refine iteF ⟨_,_,m5,nX _ _ _ _ _ _ 'c',y,j',ll',ml',md',z++z',_,R',L',M',rfl,O',?_⟩;show if (!decide ((if z++z'∈keysP (C7 R')++W6 R' then jobG (oE R') (z++z') else V.non)=V.non))=true then _ else _
  rw [kn,hk.2];exact iteF (hP2 _ _ _ ⟨_,_,rfl,S2⟩)
theorem sc_moves_by:FnScope ["one", "other", "signs", "strength", "moves", "x", "y"] ["one", "other", "signs", "strength"] (C1 k9):=E6
abbrev iI:List Str:=["one", "other", "signs", "strength", "moves", "x", "y"]
theorem vdh:VS iI k9 "one" 0:=vq
theorem vdi:VS iI k9 "other" 1:=vq
theorem vdj:VS iI k9 "signs" 2:=vq
theorem vdk:VS iI k9 "strength" 3:=vq
theorem vdl:VS iI k9 "moves" 4:=vq
theorem vdm:VS iI k9 "x" 5:=vq
theorem vdn:VS iI k9 "y" 6:=vq
theorem vdo:LS k9 "moves":=lq
theorem vdp:LS k9 "x":=lq
theorem vdq:LS k9 "y":=lq
theorem ahL(F:FunD K "moves_by" "moves_by" k9 f fd)(T:Txt P w K mg C)(G3_differences:FO P w K mg base 10 "differences" ["one", "other", "x", "y", "strength"] [] (sG C)):FnOk P w K mg base E2 11 f fd ["one", "other", "signs", "strength"] (spMvs C):=by
 refine F.ok sc_moves_by ?_ ?_
 .rintro _ _ _ _ ⟨x,y,l,zs,n,R,R',L,M,L',M',rfl,_⟩;rfl
 .intro cdv A outer s H vs Q E hr h;have B3:=hu_of hr;have hu:=hr.units;refine ⟨_,QSs.out (A5 (C8 (n:=4) sc_moves_by.nd rfl vdo (R4 A2))
   (A5 (M0 PassesOwn.never (O5 (K:=K) (vi vdj)) (D3 (n:=5) sc_moves_by.nd rfl vdp 'f') (A4 (M0 PassesOwn.never (O5 (K:=K) (vi vdj)) (D3 (n:=6) sc_moves_by.nd rfl vdq 'f') (A4 (T0 (qe_mB (K:=K) W2 j8 j7 k7 (vi vdl) (qa_c (F9 (qa_c (vi vdm) (qa_c (vi vdn) (qa_c (D7 G3_differences (hm hr) (qa_c (vi vdh) (qa_c (vi vdi) (qa_c (vi vdm) (qa_c (vi vdn) (qa_c (vi vdk) A2)))))) A2)))) A2)))))))
   (A4 (C5 (vi vdl))))),?_⟩
  obtain ⟨x,y,l,zs,n,R,R',L,M,L',M',rfl,hn,hO,hO',hl,P7,hz,q⟩:=h;walk_at "rd";intro t nt;refine ⟨⟨_,.of (C9 hl nt)⟩,forLs (xs:=zs.map V.str) (fun i Y H2=>∃ u v:Option V,Y=[some (.ref x),some (.ref y),some (.ref l),some (.int n),some (.ref t),u,v]/\Same H H2/\IsMv H2 t ((zs.take i).flatMap fun x=>zs.map fun y=>(x,y,join4 (difR R L M n x y) (difR R' L' M' n x y)))) ⟨none,none,rfl,Same.new nt,[],A3,.nil⟩ (by rintro i Y H2 _ ⟨_,_,_,S,_⟩;exact .of (S _ _ hl)) ?_ ?_⟩
  .rintro P' Bk hP i a Y H2 ha ⟨u,v,rfl,S2,hm⟩;obtain ⟨z,V9,rfl⟩:=G5 ha;have hi:i<zs.length:=(E5.mp V9).1;have tz:=hz z (G6 V9);walk_at "rd";refine ⟨⟨_,.of (S2 _ _ hl)⟩,forLs (xs:=zs.map V.str) (fun k Y H3=>∃ v:Option V,Y=[some (.ref x),some (.ref y),some (.ref l),some (.int n),some (.ref t),some (.str z),v]/\Same H H3/\IsMv H3 t (((zs.take i).flatMap fun x=>zs.map fun y=>(x,y,join4 (difR R L M n x y) (difR R' L' M' n x y)))++(zs.take k).map fun y=>(z,y,join4 (difR R L M n z y) (difR R' L' M' n z y)))) ⟨v,rfl,S2,by simpa using hm⟩ (by rintro i Y H2 _ ⟨_,_,S,_⟩;exact .of (S _ _ hl)) ?_ ?_⟩
   .clear hm;rintro P2 Bk2 hP2 k b Y H3 hb ⟨v,rfl,S3,as,m1,m2⟩;obtain ⟨z',jJ,rfl⟩:=G5 hb;have hk:k<zs.length:=(E5.mp jJ).1;have tz':=hz z' (G6 jJ);have mQ:as.length<=10*10+10:=by
     rw [Paired.length m2];simp only [D9,List.length_flatMap,A6,G7,List.map_const',List.sum_replicate_nat];have h1:min i zs.length*zs.length<=10*10:=Nat.mul_le_mul 'a' P7;lia
    walk_at "rd";refine ⟨V2 m1,x,y,z,z',n,R,R',L,M,L',M',rfl,hn,hO.same S3,hO'.same S3,tz.1,tz'.1,tz.2,tz'.2,fun d H4 nd S4 hd=>⟨by decide,fun p np=>?_⟩⟩;have S5:=S4.trans (Same.new (u:=HO.tup [V.str z,V.str z',V.ref d]) np);refine appOk (S5 _ _ m1) (by rw [A6];exact L8 'a') (hP2 _ _ _ ⟨_,rfl,(S3.trans S5).put nt,?_⟩);rw [M7 jJ,D0,<- W8];exact IsMv.put (S5 _ _ m1) (N9 m2 fun _ _ ⟨d,e1,e2⟩=>⟨d,S5 _ _ e1,S5 _ _ e2⟩) A3 (C9 hd np)
   rintro Y H3 ⟨v,rfl,S3,hm3⟩;rw [A6,M3] at hm3;refine hP _ _ _ ⟨_,_,rfl,S3,?_⟩;rw [M7 V9,b9]
   simpa using hm3
  rintro Y H2 ⟨u,v,rfl,S2,hm⟩;rw [A6,M3] at hm;walk_at "rd";exact q t H2 nt S2 hm
theorem agV:FnScope ["sign", "room", "pair"] ["sign", "room", "pair"] (C1 lI):=E6
abbrev zI:List Str:=["sign", "room", "pair"]
theorem vdr:VS zI lI "sign" 0:=vq
theorem vds:VS zI lI "room" 1:=vq
theorem sY:VS zI lI "pair" 2:=vq
theorem agW(F:FunD K "longer_by" "longer_by" lI f fd)(T:Txt P w K mg C):FnOk P w K mg base E2 1 f fd ["sign", "room", "pair"] (spLg K):=by
 refine F.ok agV ?_ ?_
 .rintro _ _ _ _ ⟨p,p',z,u,v,r,rfl,_⟩;rfl
 .intro cdv A outer s H vs Q E hr h;have B3:=hu_of hr;have hu:=hr.units;refine ⟨_,QSs.out (A5 (qs_if (E1 q_lt (qe_ix (K:=K) (vi vds) A1) A1) (A4 (C5 (F9 (qa_c (qe_op (q_add (K:=K)) (qe_ix (K:=K) (vi sY) A1) (vi vdr)) (qa_c (qe_ix (K:=K) (vi sY) A1) A2))))) E8)
   (A4 (C5 (F9 (qa_c (qe_ix (K:=K) (vi sY) A1) (qa_c (qe_op (q_add (K:=K)) (qe_ix (K:=K) (vi sY) A1) (vi vdr)) A2)))))),?_⟩
  obtain ⟨p,p',z,u,v,r,rfl,hp,hq,h1,h2,h3,q⟩:=h;unfold P1 at hp;unfold iC at q;walk_at "rd";refine ⟨_,.inr hp,V.int r.2.1,G8 (j:=1) rfl,?_⟩;walk_at "rd";refine iteD (fun h0=>?_) fun h0=>?_
  .rw [if_pos h0] at q;refine ⟨_,.inr (.of hq),V.str u,J5 _ _,?_⟩;walk_at "rd";exact ⟨Q4 'a',_,.inr (.of hq),V.str v,G8 (j:=1) rfl,by decide,q⟩
  .rw [if_neg h0] at q;refine ⟨_,.inr (.of hq),V.str u,J5 _ _,_,.inr (.of hq),V.str v,G8 (j:=1) rfl,?_⟩;walk_at "rd";exact ⟨Q4 'a',by decide,q⟩
theorem sc_beside:FnScope ["one", "other", "signs", "strength", "moves", "pairs", "rooms", "at", "room", "pair", "x", "y", "apart", "further"] ["one", "other", "signs", "strength"] (C1 N6):=E6
abbrev g9:List Str:=["one", "other", "signs", "strength", "moves", "pairs", "rooms", "at", "room", "pair", "x", "y", "apart", "further"]
theorem zJ:VS g9 N6 "one" 0:=vq
theorem zK:VS g9 N6 "other" 1:=vq
theorem zL:VS g9 N6 "signs" 2:=vq
theorem vdx:VS g9 N6 "strength" 3:=vq
theorem vdy:VS g9 N6 "moves" 4:=vq
theorem zM:VS g9 N6 "pairs" 5:=vq
theorem sZ:VS g9 N6 "rooms" 6:=vq
theorem vdB:VS g9 N6 "at" 7:=vq
theorem tD:VS g9 N6 "room" 8:=vq
theorem oY:VS g9 N6 "pair" 9:=vq
theorem vdE:VS g9 N6 "x" 10:=vq
theorem vdF:VS g9 N6 "y" 11:=vq
theorem vdG:VS g9 N6 "apart" 12:=vq
theorem tE:VS g9 N6 "further" 13:=vq
theorem vdI:LS N6 "moves":=lq
theorem vdJ:LS N6 "pairs":=lq
theorem vdK:LS N6 "rooms":=lq
theorem vdL:LS N6 "at":=lq
theorem vdM:LS N6 "room":=lq
theorem vdN:LS N6 "pair":=lq
theorem vdO:LS N6 "x":=lq
theorem vdP:LS N6 "y":=lq
theorem vdQ:LS N6 "apart":=lq
theorem vdR:LS N6 "further":=lq
theorem agX(F:FunD K "beside" "beside" N6 f fd)(T:Txt P w K mg C)(G_goes_on:FO P w K mg base 2 "goes_on" ["one", "other", "room", "apart"] [] (anj K C))(G_is_otherwise:FO P w K mg base 1 "is_otherwise" ["room"] [] (spOt K Z6))(G_is_uneven:FO P w K mg base 1 "is_uneven" ["room"] [] (spOt K m3))(G_check_plain:FO P w K mg base 3 "check_plain" ["one", "other", "signs"] [] (spChk C))(G_moves_by:FO P w K mg base 11 "moves_by" ["one", "other", "signs", "strength"] [] (spMvs C))(G_longer_by:FO P w K mg base 1 "longer_by" ["sign", "room", "pair"] [] (spLg K)):FnOk P w K mg base E2 12 f fd ["one", "other", "signs", "strength"] (spBes K C):=by
 refine F.ok sc_beside ?_ ?_
 .rintro _ _ _ _ ⟨x,y,l,zs,n,R,R',L,M,L',M',rfl,_⟩;rfl
 .intro cdv A outer s H vs Q E hr h;have B3:=hu_of hr;have hu:=hr.units;obtain ⟨a_START,m_START,M_START⟩:=T.x_START;refine ⟨_,QSs.out (A5 (T0 (D7 G_check_plain (hm hr) (qa_c (vi zJ) (qa_c (vi zK) (qa_c (vi zL) A2)))))
   (A5 (C8 (n:=4) sc_beside.nd rfl vdI (D7 G_moves_by (hm hr) (qa_c (vi zJ) (qa_c (vi zK) (qa_c (vi zL) (qa_c (vi vdx) A2))))))
   (A5 (C8 (n:=5) sc_beside.nd rfl vdJ (amz (P:=P) (w:=w) (K:=K) B3 (kO m_START) (F9 (qa_c O3 (qa_c O3 A2)))))
   (A5 (C8 (n:=6) sc_beside.nd rfl vdK (R4 (qa_c (kO m_START) A2)))
   (A5 (C8 (n:=7) sc_beside.nd rfl vdL A1)
   (A5 (rK PassesOwn.never (E1 q_lt (vi vdB) (qe_cB (q_len (K:=K)) T.b_len f7 (qa_c (vi sZ) A2))) (A5 (C8 (n:=8) sc_beside.nd rfl vdM (qe_ix (K:=K) (vi sZ) (vi vdB)))
   (A5 (wM (n:=7) sc_beside.nd rfl vdL A1 wO)
   (A5 (C8 (n:=9) sc_beside.nd rfl vdN (amy (P:=P) (w:=w) (K:=K) B3 (vi zM) (vi tD)))
   (A5 (qs_if (P8 (K:=K) (D7 G_is_uneven (hm hr) (qa_c (vi tD) A2))) (A4 (C5 (F9 (qa_c (D7 G_longer_by (hm hr) (qa_c (qe_ix (K:=K) (vi zL) A1) (qa_c (vi tD) (qa_c (vi oY) A2)))) (qa_c eZ A2))))) E8)
   (A4 (M0 PassesOwn.never (O5 (K:=K) (vi vdy)) (cK (K:=K) (n:=3) (R5 ((D3 (n:=10) sc_beside.nd rfl vdO 'f')) (R5 ((D3 (n:=11) sc_beside.nd rfl vdP 'f')) (R5 ((D3 (n:=12) sc_beside.nd rfl vdQ 'f')) cJ)))) (A5 (C8 (n:=13) sc_beside.nd rfl vdR (D7 G_goes_on (hm hr) (qa_c (vi zJ) (qa_c (vi zK) (qa_c (vi tD) (qa_c (vi vdG) A2))))))
   (A5 (qs_if (P8 (K:=K) (D7 G_is_otherwise (hm hr) (qa_c (vi tE) A2))) (A4 (C5 (F9 (qa_c (F9 (qa_c (qe_op (q_add (K:=K)) (qe_ix (K:=K) (vi oY) A1) (vi vdE)) (qa_c (qe_op (q_add (K:=K)) (qe_ix (K:=K) (vi oY) A1) (vi vdF)) A2))) (qa_c eZ A2))))) E8)
   (A4 (qs_if (E1 (xU (P:=P) (w:=w) (K:=K) B3) (vi tE) (vi zM)) (A5 (aik (P:=P) (w:=w) (K:=K) B3 (vi zM) (vi tE) (F9 (qa_c (qe_op (q_add (K:=K)) (qe_ix (K:=K) (vi oY) A1) (vi vdE)) (qa_c (qe_op (q_add (K:=K)) (qe_ix (K:=K) (vi oY) A1) (vi vdF)) A2))))
   (A4 (T0 (qe_mB (K:=K) W2 j8 j7 k7 (vi sZ) (qa_c (vi tE) A2))))) E8)))))))))))
   (A4 (C5 (F9 (qa_c eZ (qa_c (vi sZ) A2))))))))))),?_⟩
  obtain ⟨x,y,l,zs,n,R,R',L,M,L',M',rfl,hn,hO,hO',hl,P7,hz,hc,htx,q⟩:=h;obtain ⟨aS,gS,hS⟩:=T.x_START;walk_at "rd";refine ⟨x,y,l,zs,R,R',L,M,L',M',rfl,hO,hO',hl,fun z h=>⟨by have:=(hz z h).1;lia,(hz z h).2⟩,hc,fun H1 S1=>?_⟩;have uO:∀ m∈mvsF R L M R' L' M' n zs,cS m.2.2/\m.1∈zs/\m.2.1∈zs:=fun m h=>anm hn h
  refine ⟨x,y,l,zs,n,R,R',L,M,L',M',rfl,hn,hO.same S1,hO'.same S1,S1 _ _ hl,P7,htx,fun mv H2 nmv S2 hmv=>?_⟩;generalize mvsF R L M R' L' M' n zs=ms at *;have hO2:=hO.same (S1.trans S2);have hO2':=hO'.same (S1.trans S2);have i6:=(S1.trans S2) _ _ hl;have q2:∀ t H',H2 t=none->Same H2 H'->BesR K 'e' 'g' ms zs H H' t->Q (.ref t) H':=fun t H' nt S' h=>q t H' ((S1.trans S2).free nt) ((S1.trans S2).trans S') h
  have fr:∀ a,H2 a=none->H a=none:=fun a h=>(S1.trans S2).free h
  clear q hO hO' hl S1 S2 hc htx nmv;clear H1;intro d nd;refine ⟨by decide,fun p0 fX=>⟨by rw [A7 (v7 A3 fX)];exact A3,L5 (0,0,0,0),M_START _,by decide,fun rl nrl=>?_⟩⟩;have hdp:p0≠d:=fun e=>by rw [e,A3] at fX;cases fX
  have B0:Bst P w K H2 (A0 (A0 (A0 (A0 H2 d (dX P w d [])) p0 (HO.tup [V.str (Str.ofString ""),V.str (Str.ofString "")])) d (dX P w d [(L5 (0,0,0,0),a_START,V.ref p0)])) rl (HO.lst [V.ref a_START])) d rl [⟨(0,0,0,0),a_START,p0, "", ""⟩]:=by
   have S3:Same H2 (A0 (A0 (A0 H2 d (dX P w d [])) p0 (HO.tup [V.str (Str.ofString ""),V.str (Str.ofString "")])) d (dX P w d [(L5 (0,0,0,0),a_START,V.ref p0)])):=((Same.new nd).trans (Same.new fX)).put nd;refine ⟨S3.trans (Same.new nrl),A3,C9 A3 nrl,fun e he=>?_,fun e he=>?_⟩
   .rw [E7.mp he];exact M_START _
   .rw [E7.mp he];exact C9 (by rw [A7 hdp];exact A3) nrl
  have nrl2:H2 rl=none:=(((Same.new nd).trans (Same.new fX)).put nd).free nrl;generalize A0 (A0 (A0 (A0 H2 d (dX P w d [])) p0 (HO.tup [V.str (Str.ofString ""),V.str (Str.ofString "")])) d (dX P w d [(L5 (0,0,0,0),a_START,V.ref p0)])) rl (HO.lst [V.ref a_START])=H3 at B0;clear fX nrl;have F0:Bfs 'e' 'g' ms [⟨(0,0,0,0),a_START,p0, "", ""⟩] 0:=by
   refine ⟨by simp,fun e he=>?_,fun i h=>absurd h (Nat.not_lt_zero _),fun i e he=>?_,⟨_,rfl,rfl⟩⟩
   .rw [E7.mp he];exact .st
   .rw [E7.mp (G6 he)];exact ⟨F7 _,F7 _⟩
  refine rM (fun m Y H4=>∃ i:Nat,BwI P w K H2 x y l n mv d rl 'e' 'g' ms i Y H4/\m=300-i) 300 ⟨0,⟨_,none,none,none,none,none,none,rfl,B0,F0,by simp⟩,rfl⟩ ?_;clear B0 F0 hdp p0 H3;rintro m Y H4 ⟨i,⟨es,u1,u2,u3,u4,u5,u6,rfl,B,F,hi⟩,rfl⟩;have dA:=F.few fun m h=>(uO m h).1
  walk_at "rd";refine ⟨es.length,.inl ⟨_,.of B.ls,by rw [A6]⟩,?_⟩;refine iteD (fun C4=>?_) fun hge=>?_
  .have o3:i<es.length:=by lia
   obtain ⟨e,he⟩:∃ e,es[i]?=some e:=⟨es[i],L1 o3⟩
   have X3:=G6 he;have hln:=F.ln i e he;have mR:=B.pt e X3;refine ⟨BwI P w K H2 x y l n mv d rl 'e' 'g' ms (i+1),fun σ' H' B'=>⟨300-(i+1),by lia,i+1,B',rfl⟩,?_⟩;refine ⟨_,.inl (.of B.ls),V.ref e.ra,G8 (by rw [U4,he];rfl),?_⟩;refine ⟨_,B.ds,B.keys,_,rfl,L5 e.r,B.rt e X3,_,akT F.nd he,e.ra,e.r,rfl,B.rt e X3,_,rfl,?_⟩
   by_cases hu:m3 e.r=true
   .rw [if_pos hu];obtain ⟨m,hm⟩:=(F.rc e X3).any hu;have fT:=(uO m hm).2.1;obtain ⟨z,zs',rfl⟩:∃ z zs',zs=z::zs':=by
     cases zs with
     | nil=>cases fT
     | cons z zs'=>exact ⟨z,zs',rfl⟩
    have V9:=(hz z N2).1;refine ⟨_,.inl (.of (B.same _ _ i6)),V.str z,J5 _ _,e.ra,e.pa,z,e.u,e.v,e.r,rfl,B.rt e X3,mR,by lia,by lia,by lia,fun t nt=>⟨by decide,fun t2 jI=>?_⟩⟩;refine q2 t2 _ (B.same.free ((Same.new nt).free jI)) (B.same.trans ((Same.new nt).trans (Same.new jI))) (.inl ⟨t,_,_,A3,C9 A3 jI,?_,?_,.inr ⟨e.r,e.u,e.v,z,F.rc e X3,hu,rfl,rfl⟩⟩)
    .unfold iC;split <;> simp only [iD] <;> lia
    .unfold iC;split <;> simp only [iD] <;> lia
   rw [if_neg hu];rw [cA] at hu;obtain ⟨as,m1,m2⟩:=hmv;refine ⟨⟨_,.of (B.same _ _ m1)⟩,forLs (xs:=as.map V.ref) (fun k Y H5=>∃ (es:List BE) (u3 u4 u5 u6:Option V),(Y=[some (.ref x),some (.ref y),some (.ref l),some (.int n),some (.ref mv),some (.ref d),some (.ref rl),some (.int ((i+1:Nat):Int)),some (.ref e.ra),some (.ref e.pa),u3,u4,u5,u6]/\Bst P w K H2 H5 d rl es)/\Bfs 'e' 'g' ms es i/\es[i]?=some e/\∀ m∈ms.take k,Z6 (M9 'e' 'g' e.r m.2.2)=false/\M9 'e' 'g' e.r m.2.2∈es.map (·.r)) ⟨es,u3,u4,u5,u6,⟨rfl,B⟩,F,he,by simp⟩ (by rintro k Y H5 _ ⟨_,_,_,_,_,⟨_,B⟩,_⟩;exact .of (B.same _ _ m1)) ?_ ?_⟩
   .clear B F he X3 dA o3 C4 hi mR;rintro P' Bk hP k a Y H5 ha ⟨es,u3,u4,u5,u6,⟨rfl,B⟩,F,he,hd⟩;have X3:=G6 he;have mR:=B.pt e X3;have dA:=F.few fun m h=>(uO m h).1
    have o3:i<es.length:=(E5.mp he).1;obtain ⟨c,hc,rfl⟩:=G5 ha;obtain ⟨m,hm,dm,fT,dG⟩:=Paired.at m2 hc;have hmm:=G6 hm;obtain ⟨z1,z2⟩:=(uO m hmm).2;have l1:=(hz _ z1).1;have l2:=(hz _ z2).1;walk_at "rd";refine ⟨_,.of (B.same _ _ fT),rfl,_,_,rfl,_,_,rfl,_,_,rfl,rfl,?_⟩;refine ⟨x,y,e.ra,dm,e.r,m.2.2,R,R',L,M,L',M',rfl,hO2.same B.same,hO2'.same B.same,B.rt e X3,.of (B.same _ _ dG),fun t H6 nt S6 ht=>?_⟩;have B6:=B.more S6;clear B;have dZ:=S6 _ _ mR;refine ⟨t,_,rfl,.of ht,_,rfl,?_⟩
    by_cases ho:Z6 (M9 'e' 'g' e.r m.2.2)=true
    .rw [if_pos ho];refine ⟨_,.inr (.of dZ),V.str e.u,J5 _ _,?_⟩;walk_at "rd";refine ⟨Q4 'a',_,.inr (.of dZ),V.str e.v,G8 (j:=1) rfl,?_⟩;walk_at "rd";refine ⟨Q4 'a',by decide,fun p np=>⟨by decide,fun p1 X2=>?_⟩⟩;exact q2 p1 _ (B6.same.free ((Same.new np).free X2)) (B6.same.trans ((Same.new np).trans (Same.new X2))) (.inl ⟨p,_,_,A3,C9 A3 X2,by rw [iD];lia,by rw [iD];lia,.inl ⟨e.r,e.u,e.v,m,hmm,F.rc e X3,hu,ho,rfl,rfl⟩⟩)
    rw [if_neg ho];rw [cA] at ho;have hnx:∀ {es':List BE},(∀ r∈es.map (·.r),r∈es'.map (·.r))->M9 'e' 'g' e.r m.2.2∈es'.map (·.r)->∀ m'∈ms.take (k+1),Z6 (M9 'e' 'g' e.r m'.2.2)=false/\M9 'e' 'g' e.r m'.2.2∈es'.map (·.r):=fun {es'} hs hg m' tZ=>by
     rw [M7 hm] at tZ
     rcases G3.mp tZ with h | h
     .exact ⟨(hd m' h).1,hs _ (hd m' h).2⟩
     .rw [E7.mp h];exact ⟨ho,hg⟩
    walk_at "rd";refine ⟨_,B6.ds,B6.keys,L5 (M9 'e' 'g' e.r m.2.2),.of ht,?_⟩
    by_cases E9:M9 'e' 'g' e.r m.2.2∈es.map (·.r)
    .rw [if_neg (by
      cases hq:lookX (es.map fun e=>(L5 e.r,e.ra,V.ref e.pa)) (L5 (M9 'e' 'g' e.r m.2.2)) with
      | none=>exact absurd E9 (look_es.mp hq)
      | some v=>exact L9)]
     exact hP _ _ _ ⟨es,_,_,_,_,⟨rfl,B6⟩,F,he,hnx (fun _ h=>h) E9⟩
    have hq:=look_es.mpr E9;rw [if_pos (by rw [hq];rfl)];refine ⟨_,.inr (.of dZ),V.str e.u,J5 _ _,?_⟩;walk_at "rd";refine ⟨Q4 'a',_,.inr (.of dZ),V.str e.v,G8 (j:=1) rfl,?_⟩;walk_at "rd";refine ⟨Q4 'a',by decide,fun p np=>?_⟩;have B7:=B6.more (Same.new (u:=HO.tup [V.str (e.u++m.1),V.str (e.v++m.2.1)]) np);have ht7:A0 H6 p (.tup [V.str (e.u++m.1),V.str (e.v++m.2.1)]) t=some (.tup (P1 (M9 'e' 'g' e.r m.2.2))):=C9 ht np;have hp7:A0 H6 p (.tup [V.str (e.u++m.1),V.str (e.v++m.2.1)]) p=some (.tup [V.str (e.u++m.1),V.str (e.v++m.2.1)]):=A3;generalize A0 H6 p (.tup [V.str (e.u++m.1),V.str (e.v++m.2.1)])=H7 at B7 ht7 hp7;have B8:=B7.put nd nrl2 (.of ht7) hp7;have mO:A0 H7 d (dX P w d (es.map (fun e=>(L5 e.r,e.ra,V.ref e.pa))++[(L5 (M9 'e' 'g' e.r m.2.2),t,V.ref p)])) rl=some (.lst (es.map fun e=>V.ref e.ra)):=by rw [A7 (ne_of B7.ls B7.ds (fun z=>by cases z))];exact B7.ls
    refine ⟨_,B7.ds,B7.keys,L5 (M9 'e' 'g' e.r m.2.2),.of ht7,hq,by rw [A6];exact L8 'a',V2 mO,appOk mO (by rw [A6];exact L8 'a') (hP _ _ _ ⟨_,_,_,_,_,⟨rfl,B8⟩,F.put he hmm l1 l2 hu ho E9,by rw [eD o3];exact he,hnx (fun r h=>by rw [D0];exact Q3 _ h) (by rw [D0];exact N7 _ N2)⟩)⟩
   rintro Y H5 ⟨es,u3,u4,u5,u6,⟨rfl,B⟩,F,he,hd⟩;rw [A6,Paired.length m2,M3] at hd;exact ⟨es,_,_,_,_,_,_,rfl,B,F.next he hu hd,(E5.mp he).1⟩
  .refine ⟨by decide,fun t nt=>q2 t _ (B.same.free nt) (B.same.trans (Same.new nt)) (.inr ⟨rl,es,A3,C9 B.ls nt,fun e he=>g8 (Same.new nt) (B.rt e he),?_⟩)⟩;refine ⟨?_,fr _ nrl2⟩;rw [show es.length=i by lia];exact F
theorem ahM:FnScope ["_law_script", "_law_k"] ["_law_script", "_law_k"] (C1 oO):=E6
abbrev afy:List Str:=["_law_script", "_law_k"]
theorem vdS:VS afy oO "_law_script" 0:=vq
theorem vdT:VS afy oO "_law_k" 1:=vq
theorem ahN(F:FunD K "_law_number" "_law_number" oO f fd)(T:Txt P w K mg C):FnOk P w K mg base E2 1 f fd ["_law_script", "_law_k"] (lM K):=by
 refine F.ok ahM ?_ ?_
 .rintro _ _ _ _ ⟨a,ns,k,rfl,_⟩;rfl
 .intro cdv A outer s H vs Q E hr h;have B3:=hu_of hr;have hu:=hr.units;refine ⟨_,QSs.out (A5 (qs_if (E1 q_lt (vi vdT) (qe_cB (q_len (K:=K)) T.b_len f7 (qa_c (vi vdS) A2))) (A4 (C5 (qe_op q_mod (qe_op q_mul (qe_ix (K:=K) (vi vdS) (vi vdT)) A1) A1))) E8)
   (A4 (C5 A1))),?_⟩
  obtain ⟨a,ns,k,rfl,hS,hk,q⟩:=h;walk_at "rd";refine ⟨ns.length,.inl ⟨_,hS,by rw [A6]⟩,iteD (fun e=>⟨_,.inl hS,V.int (ns.getD k.toNat 0),?_,?_⟩) fun e=>?_⟩
  .obtain ⟨j,rfl⟩:∃ j:Nat,k=(j:Int):=⟨k.toNat,by lia⟩
   have hl:j<ns.length:=by lia
   refine G8 ?_;rw [U4,L1 hl];show some (V.int ns[j])=_;rw [aG,Int.toNat_natCast,L1 hl];rfl
  .walk_at "rd";unfold numF cellF at q;rw [if_pos e] at q;exact ⟨.inr ⟨by lia,by lia⟩,q⟩
  .unfold numF cellF at q;rw [if_neg e] at q;exact q
theorem sc_l_sign:FnScope ["_law_cell", "_law_k", "_law_signs", "_law_step_here"] ["_law_cell", "_law_k"] (C1 cQ):=E6
abbrev tF:List Str:=["_law_cell", "_law_k", "_law_signs", "_law_step_here"]
theorem vdU:VS tF cQ "_law_cell" 0:=vq
theorem vdV:VS tF cQ "_law_k" 1:=vq
theorem vdW:VS tF cQ "_law_signs" 2:=vq
theorem vdX:VS tF cQ "_law_step_here" 3:=vq
theorem vdY:LS cQ "_law_signs":=lq
theorem vdZ:LS cQ "_law_step_here":=lq
theorem alc(F:FunD K "_law_sign" "_law_sign" cQ f fd)(T:Txt P w K mg C):FnOk P w K mg base E2 1 f fd ["_law_cell", "_law_k"] spSg8:=by
 refine F.ok sc_l_sign ?_ ?_
 .rintro _ _ _ _ ⟨n,k,rfl,_⟩;rfl
 .intro cdv A outer s H vs Q E hr h;have B3:=hu_of hr;have hu:=hr.units;refine ⟨_,QSs.out (A5 (C8 (n:=2) sc_l_sign.nd rfl vdY O3)
   (A5 (C8 (n:=2) sc_l_sign.nd rfl vdY (qe_op (q_add (K:=K)) (vi vdW) O3))
   (A5 (C8 (n:=3) sc_l_sign.nd rfl vdZ (qe_ix (K:=K) (R4 (qa_c A1 (qa_c A1 (qa_c A1 (qa_c A1 (qa_c A1 (qa_c A1 (qa_c A1 (qa_c A1 (qa_c A1 (qa_c A1 (qa_c A1 (qa_c A1 A2))))))))))))) (qe_op q_mod (qe_op x0 (vi vdU) A1) A1)))
   (A4 (C5 (qe_ix (K:=K) (vi vdW) (qe_op q_mod (qe_op (q_add (K:=K)) (vi vdU) (qe_op q_mul (vi vdV) (vi vdX))) A1))))))),?_⟩
  obtain ⟨n,k,rfl,hk,q⟩:=h;have Z8:=ao6 n;have h2:=(oQ n k).1;rw [<- SS_eq] at h2;walk_at "rd";refine ⟨aoD,by decide,fun p np=>⟨_,.inl (.of A3),_,(yC n).1,?_⟩⟩;walk_at "rd";exact ⟨.inr ⟨by lia,by lia⟩,aro,_,h2,q _ (Same.new np)⟩
theorem sc_l_pool:FnScope ["_law_script", "_law_number_here"] ["_law_script"] (C1 lJ):=E6
abbrev amO:List Str:=["_law_script", "_law_number_here"]
theorem vd0:VS amO lJ "_law_script" 0:=vq
theorem vd1:LS lJ "_law_number_here":=lq
theorem ald(F:FunD K "_law_pool" "_law_pool" lJ f fd)(T:Txt P w K mg C)(G_l_number:FO P w K mg base 1 "_law_number" ["_law_script", "_law_k"] [] (lM K))(G_l_sign:FO P w K mg base 1 "_law_sign" ["_law_cell", "_law_k"] [] spSg8):FnOk P w K mg base E2 2 f fd ["_law_script"] (ak2 K 8):=by
 refine F.ok sc_l_pool ?_ ?_
 .rintro _ _ _ _ ⟨a,ns,rfl,_⟩;rfl
 .intro cdv A outer s H vs Q E hr h;have B3:=hu_of hr;have hu:=hr.units;refine ⟨_,QSs.out (A5 (C8 (n:=1) sc_l_pool.nd rfl vd1 (D7 G_l_number (hm hr) (qa_c (vi vd0) (qa_c A1 A2))))
   (A4 (C5 (f9  (V5:CompOk ["_law_script", "_law_number_here"] (C1 lJ).names _ ["_law_k", "_law_number_here"] 1 [1]) (qi_r1 T.b_range (qa_c A1 A2)) (fun _ _ _ _ _=>D3 (n:=0) (show List.Nodup (["_law_k", "_law_number_here"]:List Str) by decide +kernel) rfl (Or.inl rfl)) (fun _ _ _ _ _=>k6) (fun _ _ _ _ _=>(D7 G_l_sign (hm hr) (qa_c (qv 1) (qa_c (qv 0) A2)))))))),?_⟩
  obtain ⟨a,ns,rfl,hS,q⟩:=h;walk_at "rd";refine ⟨a,ns,0,rfl,hS,by decide,?_⟩;walk_at "rd";generalize numF ns 0=n at *;refine ⟨by decide,by decide,compR [some (.int n)] rfl (fun D i ys H2=>Same H H2/\ys=(poolL n i).map V.str) (fun D nD=>⟨Same.new nD,rfl⟩) ?_ ?_⟩
  .rintro D i ys H2 nD hi ⟨S,rfl⟩ hD hy;walk_at "rd";refine ⟨n,_,rfl,by lia,fun H3 S3=>⟨S3 _ _ hD,by unfold poolL;rw [A6,A6,List.length_range];exact L8 (by have:i<8:=hi;lia),CW.put hi hy ⟨(S.trans S3).put nD,?_⟩⟩⟩;unfold poolL;rw [List.range_succ,D0,D0,cE];rfl
  rintro p ys H1 np ⟨S1,rfl⟩ hp _;exact q p H1 np S1 hp
theorem sc_l_digits:FnScope ["_law_script", "_law_digits_here", "_law_k"] ["_law_script"] (C1 fJ):=E6
abbrev zN:List Str:=["_law_script", "_law_digits_here", "_law_k"]
theorem vd2:VS zN fJ "_law_script" 0:=vq
theorem vd3:VS zN fJ "_law_digits_here" 1:=vq
theorem vd4:VS zN fJ "_law_k" 2:=vq
theorem vd5:LS fJ "_law_digits_here":=lq
theorem vd6:LS fJ "_law_k":=lq
theorem ahO(F:FunD K "_law_digits" "_law_digits" fJ f fd)(T:Txt P w K mg C)(G_l_number:FO P w K mg base 1 "_law_number" ["_law_script", "_law_k"] [] (lM K)):FnOk P w K mg base E2 2 f fd ["_law_script"] (anp K 4):=by
 refine F.ok sc_l_digits ?_ ?_
 .rintro _ _ _ _ ⟨a,ns,rfl,_⟩;rfl
 .intro cdv A outer s H vs Q E hr h;have B3:=hu_of hr;have hu:=hr.units;refine ⟨_,QSs.out (A5 (C8 (n:=1) sc_l_digits.nd rfl vd5 (R4 A2))
   (A5 (M0 PassesOwn.never (qi_r1 T.b_range (qa_c A1 A2)) (D3 (n:=2) sc_l_digits.nd rfl vd6 'f') (A4 (T0 (qe_mB (K:=K) W2 j8 j7 k7 (vi vd3) (qa_c (D7 G_l_number (hm hr) (qa_c (vi vd2) (qa_c (qe_op (q_add (K:=K)) A1 (vi vd4)) A2))) A2)))))
   (A4 (C5 (vi vd3))))),?_⟩
  obtain ⟨a,ns,rfl,hS,q⟩:=h;walk_at "rd";intro p np;refine ⟨by decide,by decide,forRs (fun i Y H2=>∃ (u:Option V) (ds:List Int),Y=[some (.ref a),some (.ref p),u]/\Same H H2/\H2 p=some (.lst (ds.map V.int))/\ds.length=i) ⟨none,[],rfl,Same.new np,A3,rfl⟩ ?_ ?_⟩
  .rintro P' Bk hP i Y H2 hi ⟨u,ds,rfl,S,hp,hl⟩;have hi8:i<4:=hi;walk_at "rd";exact ⟨V2 hp,a,ns,_,rfl,S.seq hS,by lia,appOk hp (by rw [A6];exact L8 'a') (hP _ _ _ ⟨_,ds++[_],rfl,S.put np,by rw [A3,D0];rfl,by rw [D9,hl];rfl⟩)⟩
  rintro Y H2 ⟨u,ds,rfl,S,hp,hl⟩;walk_at "rd";exact q p H2 ds np S hp hl
theorem sc_l_row:FnScope ["_law_pool_here", "_law_digits_here", "_law_turned", "_law_row_here", "_law_k", "_law_at"] ["_law_pool_here", "_law_digits_here", "_law_turned"] (C1 l6):=E6
abbrev lX:List Str:=["_law_pool_here", "_law_digits_here", "_law_turned", "_law_row_here", "_law_k", "_law_at"]
theorem vd7:VS lX l6 "_law_pool_here" 0:=vq
theorem vd8:VS lX l6 "_law_digits_here" 1:=vq
theorem zO:VS lX l6 "_law_turned" 2:=vq
theorem lY:VS lX l6 "_law_row_here" 3:=vq
theorem zP:VS lX l6 "_law_k" 4:=vq
theorem vec:VS lX l6 "_law_at" 5:=vq
theorem ved:LS l6 "_law_turned":=lq
theorem vee:LS l6 "_law_row_here":=lq
theorem vef:LS l6 "_law_k":=lq
theorem veg:LS l6 "_law_at":=lq
theorem amP(F:FunD K "_law_row" "_law_row" l6 f fd)(T:Txt P w K mg C):FnOk P w K mg base E2 1 f fd ["_law_pool_here", "_law_digits_here", "_law_turned"] (anq K 4 8):=by
 refine F.ok sc_l_row ?_ ?_
 .rintro _ _ _ _ ⟨p,d,t,n,ds,rfl,_⟩;rfl
 .intro cdv A outer s H vs Q E hr h;have B3:=hu_of hr;have hu:=hr.units;refine ⟨_,QSs.out (A5 (C8 (n:=3) sc_l_row.nd rfl vee (O4 (K:=K) (vi vd7) (M4 A1) (M4 A1)))
   (A5 (M0 PassesOwn.never (qi_r1 T.b_range (qa_c A1 A2)) (D3 (n:=4) sc_l_row.nd rfl vef 'f') (A4 (qs_if (E1 'k' (qe_op q_mod (qe_ix (K:=K) (vi vd8) (vi zP)) A1) A1) (A5 (C8 (n:=5) sc_l_row.nd rfl veg (qe_op q_mod (qe_op x0 (qe_ix (K:=K) (vi vd8) (vi zP)) A1) (qe_op (q_add (K:=K)) (qe_cB (q_len (K:=K)) T.b_len f7 (qa_c (vi lY) A2)) A1)))
   (A4 (C8 (n:=3) sc_l_row.nd rfl vee (qe_op (q_add (K:=K)) (qe_op (q_add (K:=K)) (O4 (K:=K) (vi lY) Q8 (M4 (vi vec))) (R4 (qa_c (qe_ix (K:=K) (vi vd7) (vi zP)) A2))) (O4 (K:=K) (vi lY) (M4 (vi vec)) Q8))))) E8)))
   (A5 (C8 (n:=2) sc_l_row.nd rfl ved (qe_op q_mod (vi zO) (qe_cB (q_len (K:=K)) T.b_len f7 (qa_c (vi lY) A2))))
   (A4 (C5 (qe_op (q_add (K:=K)) (O4 (K:=K) (vi lY) (M4 (vi zO)) Q8) (O4 (K:=K) (vi lY) Q8 (M4 (vi zO))))))))),?_⟩
  obtain ⟨p,d,t,n,ds,rfl,hp,hd,bQ,q⟩:=h;walk_at "rd";refine rSlR.l (.of hp) fun l1 n1=>?_
  rw [show cutV ((poolL n 8).map V.str) (some 4) (some 6)=[p8 n 4,p8 n 5].map V.str from rfl];have S1:Same H (A0 H l1 (.lst ([p8 n 4,p8 n 5].map V.str))):=Same.new n1;have h1:A0 H l1 (.lst ([p8 n 4,p8 n 5].map V.str)) l1=some (.lst ([p8 n 4,p8 n 5].map V.str)):=A3;generalize A0 H l1 (.lst ([p8 n 4,p8 n 5].map V.str))=H1 at S1 h1;clear n1;refine ⟨by decide,by decide,forRs (fun i Y H2=>∃ (u v:Option V) (l:Addr) (ls:List Str),(Y=[some (.ref p),some (.ref d),some (.int t),some (.ref l),u,v]/\Same H H2)/\H2 l=some (.lst (ls.map V.str))/\Row8 n 4 i ds ls) ⟨none,none,l1,_,⟨rfl,S1⟩,h1,uai 'h'⟩ ?_ ?_⟩
  .clear S1 h1;rintro P' Bk hP i Y H2 hi ⟨u,v,l,ls,⟨rfl,S⟩,hl,hr⟩;have gF:i<4:=hi;have ad:F8 (ds.map V.int) (0+(i:Int))=some (V.int (ds.getD i 0)):=by rw [cE];exact G8 (by rw [U4,aG,L1 'a'];rfl)
   have ap:F8 ((poolL n 8).map V.str) (0+(i:Int))=some (V.str (p8 n i)):=by rw [cE];exact G8 (by rw [U4,yH 'a'];rfl)
   have hle:=hr.le;walk_at "rd";refine ⟨_,.inl (.of (S _ _ hd)),_,ad,?_⟩;walk_at "rd";refine iteD (fun h0=>?_) fun h0=>hP _ _ _ ⟨_,_,l,ls,⟨rfl,S⟩,hl,hr.no h0⟩
   refine ⟨_,.inl (.of (S _ _ hd)),_,ad,?_⟩;walk_at "rd";refine ⟨ls.length,.inl ⟨_,.of hl,by rw [A6]⟩,by lia,?_⟩;obtain ⟨j,hj,hjl⟩:∃ j:Nat,ds.getD i 0 / 12 % ((ls.length:Int)+1)=j/\j<=ls.length:=by
    have h1:=Int.emod_nonneg (ds.getD i 0 / 12) (show ((ls.length:Int)+1)≠0 by lia);have h2:=nE (ds.getD i 0 / 12) (show (0:Int)<(ls.length:Int)+1 by lia);exact ⟨(ds.getD i 0 / 12 % ((ls.length:Int)+1)).toNat,by lia,by lia⟩
   rw [hj];refine rSlR.l (.of hl) fun l3 n3=>?_
   rw [aV,<- eJ];have S3:=S.trans (Same.new (u:=HO.lst ((ls.take j).map V.str)) n3);have hl3:=C9 (u:=HO.lst ((ls.take j).map V.str)) hl n3;have h3:A0 H2 l3 (.lst ((ls.take j).map V.str)) l3=some (.lst ((ls.take j).map V.str)):=A3;generalize A0 H2 l3 (.lst ((ls.take j).map V.str))=H3 at S3 h3 hl3;refine ⟨_,.inl (.of (S3 _ _ hp)),_,ap,by decide,fun l4 n4=>?_⟩;walk_at "rd";refine rAddR.l (C9 h3 n4) A3 (by simp only [A6,G7,Y8];exact Q4 'a') fun l5 n5=>?_
   have S5:Same H3 (A0 (A0 H3 l4 (.lst [V.str (p8 n i)])) l5 (.lst ((ls.take j).map V.str++[V.str (p8 n i)]))):=(Same.new n4).trans (Same.new n5);have h5:A0 (A0 H3 l4 (.lst [V.str (p8 n i)])) l5 (.lst ((ls.take j).map V.str++[V.str (p8 n i)])) l5=some (.lst ((ls.take j++[p8 n i]).map V.str)):=by rw [A3,D0];rfl
   generalize A0 (A0 H3 l4 (.lst [V.str (p8 n i)])) l5 (.lst ((ls.take j).map V.str++[V.str (p8 n i)]))=H5 at S5 h5;refine rSlR.l (.of (S5 _ _ hl3)) fun l7 n7=>?_
   rw [r8,<- gM];walk_at "rd";refine rAddR.l (C9 h5 n7) A3 (by simp only [A6,D9,G7,aK,Y8];exact Q4 'a') fun l8 n8=>?_
   refine hP _ _ _ ⟨_,_,l8,ls.take j++[p8 n i]++ls.drop j,⟨rfl,(S3.trans S5).trans ((Same.new n7).trans (Same.new n8))⟩,by rw [A3,<- D0],hr.yes 'h' gF h0 ?_⟩
   have:=List.perm_middle (a:=p8 n i) (l₁:=ls.take j) (l₂:=ls.drop j)
   rw [j4] at this;rw [W8];exact this
  rintro Y H2 ⟨u,v,l,ls,⟨rfl,S⟩,hl,hr⟩;have hle:ls.length<=2+4:=hr.le;have h0:0<ls.length:=qO ((hr.mm _).mpr 'f');walk_at "rd";refine ⟨ls.length,.inl ⟨_,.of hl,by rw [A6]⟩,by lia,?_⟩;obtain ⟨j,hj,hjl⟩:∃ j:Nat,t % (ls.length:Int)=j/\j<=ls.length:=by
   have h1:=Int.emod_nonneg t (show (ls.length:Int)≠0 by lia);have h2:=nE t (show (0:Int)<(ls.length:Int) by lia);exact ⟨(t % (ls.length:Int)).toNat,by lia,by lia⟩
  rw [hj];refine rSlR.l (.of hl) fun l3 n3=>?_
  rw [r8,<- gM];refine rSlR.l (.of (C9 hl n3)) fun l4 n4=>?_
  rw [aV,<- eJ];walk_at "rd";refine rAddR.l (C9 A3 n4) A3 (by simp only [A6,G7,aK];exact Q4 'a') fun l5 n5=>?_
  rw [<- D0];have S5:=S.trans (((Same.new n3).trans (Same.new n4)).trans (Same.new (u:=HO.lst ((ls.drop j++ls.take j).map V.str)) n5));refine q l5 _ (ls.drop j++ls.take j) (S.free ((Same.new n3).free ((Same.new n4).free n5))) S5 A3 (hr.perm ?_)
  have:=List.perm_append_comm (l₁:=ls.drop j) (l₂:=ls.take j)
  rw [j4] at this;exact this
theorem sc_l_made:FnScope ["_law_pool_here", "_law_digits_here", "_law_shape", "_law_row_here", "_law_marks", "_law_rules", "_law_table", "_law_k", "_law_forms", "_law_group", "_law_base", "_law_parts"] ["_law_pool_here", "_law_digits_here", "_law_shape"] (C1 P9):=E6
abbrev t9:List Str:=["_law_pool_here", "_law_digits_here", "_law_shape", "_law_row_here", "_law_marks", "_law_rules", "_law_table", "_law_k", "_law_forms", "_law_group", "_law_base", "_law_parts"]
theorem u7:VS t9 P9 "_law_pool_here" 0:=vq
theorem oZ:VS t9 P9 "_law_digits_here" 1:=vq
theorem pA:VS t9 P9 "_law_shape" 2:=vq
theorem zQ:VS t9 P9 "_law_row_here" 3:=vq
theorem vel:VS t9 P9 "_law_marks" 4:=vq
theorem pB:VS t9 P9 "_law_rules" 5:=vq
theorem lZ:VS t9 P9 "_law_table" 6:=vq
theorem bH:VS t9 P9 "_law_k" 7:=vq
theorem zR:VS t9 P9 "_law_forms" 8:=vq
theorem tG:VS t9 P9 "_law_group" 9:=vq
theorem tH:VS t9 P9 "_law_base" 10:=vq
theorem ves:VS t9 P9 "_law_parts" 11:=vq
theorem vet:LS P9 "_law_row_here":=lq
theorem veu:LS P9 "_law_marks":=lq
theorem vev:LS P9 "_law_rules":=lq
theorem vew:LS P9 "_law_table":=lq
theorem vex:LS P9 "_law_k":=lq
theorem vey:LS P9 "_law_forms":=lq
theorem vez:LS P9 "_law_group":=lq
theorem veA:LS P9 "_law_base":=lq
theorem veB:LS P9 "_law_parts":=lq
theorem ale(F:FunD K "_law_made" "_law_made" P9 f fd)(T:Txt P w K mg C)(G_Order___init__:KO P w K mg base 5 C "Order" ["self", "rules"] (rZ C))(G_l_row:FO P w K mg base 1 "_law_row" ["_law_pool_here", "_law_digits_here", "_law_turned"] [] (anq K 4 8)):FnOk P w K mg base E2 7 f fd ["_law_pool_here", "_law_digits_here", "_law_shape"] (ak3 C 4 8):=by
 refine F.ok sc_l_made ?_ ?_
 .rintro _ _ _ _ ⟨p,d,s',n,s0,s1,s2,ds,rfl,_⟩;rfl
 .intro cdv A outer s H vs Q E hr h;have B3:=hu_of hr;have hu:=hr.units;refine ⟨_,QSs.out (A5 (C8 (n:=3) sc_l_made.nd rfl vet (D7 G_l_row (hm hr) (qa_c (vi u7) (qa_c (vi oZ) (qa_c (qe_ix (K:=K) (vi pA) A1) A2)))))
   (A5 (C8 (n:=4) sc_l_made.nd rfl veu (R4 (qa_c (qe_ix (K:=K) (vi u7) (qe_op (q_add (K:=K)) A1 (qe_ix (K:=K) (vi pA) A1))) (qa_c (qe_ix (K:=K) (vi u7) (qe_op q_sub A1 (qe_ix (K:=K) (vi pA) A1))) A2))))
   (hJ (C8 (n:=5) sc_l_made.nd rfl vev (R4 (qa_c (qe_op (q_add (K:=K)) (F9 (qa_c O3 A2)) (qe_cT (nQ (K:=K)) T.b_tuple gY (qa_c (vi zQ) A2))) (qa_c (qe_op (q_add (K:=K)) (F9 (qa_c O3 A2)) (qe_cT (nQ (K:=K)) T.b_tuple gY (qa_c (vi vel) A2))) A2))))
   (A5 (C8 (n:=6) sc_l_made.nd rfl vew hG)
   (A5 (M0 PassesOwn.never (qi_r1 T.b_range (qa_c (qe_cB (q_len (K:=K)) T.b_len f7 (qa_c (vi zQ) A2)) A2)) (D3 (n:=7) sc_l_made.nd rfl vex 'f') (A4 (r0 B3 (vi lZ) (qe_ix (K:=K) (vi zQ) (vi bH)) (F9 (qa_c (vi bH) (qa_c (F9 A2) (qa_c A1 A2)))))))
   (A5 (C8 (n:=8) sc_l_made.nd rfl vey (R4 (qa_c A1 (qa_c A1 A2))))
   (A5 (M0 PassesOwn.never (qi_r1 T.b_range (qa_c A1 A2)) (D3 (n:=7) sc_l_made.nd rfl vex 'f') (A5 (C8 (n:=9) sc_l_made.nd rfl vez (qe_op q_mod (qe_op x0 (qe_ix (K:=K) (vi oZ) (vi bH)) A1) A1))
   (A5 (C8 (n:=10) sc_l_made.nd rfl veA (qe_ix (K:=K) (vi u7) (qe_op (q_add (K:=K)) A1 (vi tG))))
   (hJ (C8 (n:=11) sc_l_made.nd rfl veB (qe_ix (K:=K) (R4 (qa_c (F9 A2) (qa_c (F9 A2) (qa_c (F9 A2) (qa_c (F9 (qa_c (qe_ix (K:=K) (vi u7) A1) A2)) (qa_c (F9 (qa_c (qe_ix (K:=K) (vi u7) A1) A2)) (qa_c (F9 (qa_c (qe_ix (K:=K) (vi u7) A1) (qa_c (qe_ix (K:=K) (vi u7) A1) A2))) A2))))))) (qe_op q_mod (qe_ix (K:=K) (vi oZ) (vi bH)) A1)))
   (A4 (qs_if (E1 'k' (qe_op q_mod (qe_ix (K:=K) (vi oZ) (vi bH)) A1) A1) (A5 (kR (qe_op (q_add (K:=K)) (qe_ix (K:=K) (vi zR) (vi tG)) A1) (nY (vi zR) (vi tG)))
   (A5 (T0 (qe_mB (K:=K) W2 j8 j7 k7 (vi pB) (qa_c (F9 (qa_c O3 (qa_c (vi tH) (qa_c (qe_ix (K:=K) (vi u7) (vi bH)) A2)))) A2)))
   (A4 (r0 B3 (vi lZ) (qe_ix (K:=K) (vi u7) (vi bH)) (F9 (qa_c (qe_ix (K:=K) (f8 B3 (vi lZ) (vi tH)) A1) (qa_c (F9 A2) (qa_c (qe_ix (K:=K) (vi zR) (vi tG)) A2)))))))) (A4 (qs_if (E1 (q_ne (K:=K) hu) (qe_op q_mod (qe_ix (K:=K) (vi oZ) (vi bH)) A1) A1) (A5 (T0 (qe_mB (K:=K) W2 j8 j7 k7 (vi pB) (qa_c (qe_op (q_add (K:=K)) (F9 (qa_c O3 (qa_c (qe_ix (K:=K) (vi u7) (vi bH)) (qa_c (vi tH) A2)))) (vi ves)) A2)))
   (A4 (r0 B3 (vi lZ) (qe_ix (K:=K) (vi u7) (vi bH)) (F9 (qa_c (qe_ix (K:=K) (f8 B3 (vi lZ) (vi tH)) A1) (qa_c (qe_cT (nQ (K:=K)) T.b_tuple gY (qa_c (f9  (V5:CompOk ["_law_pool_here", "_law_digits_here", "_law_shape", "_law_row_here", "_law_marks", "_law_rules", "_law_table", "_law_k", "_law_forms", "_law_group", "_law_base", "_law_parts"] (C1 P9).names _ ["_law_mark", "_law_marks"] 1 [4]) (cL (K:=K) (vi ves)) (fun _ _ _ _ _=>D3 (n:=0) (show List.Nodup (["_law_mark", "_law_marks"]:List Str) by decide +kernel) rfl (Or.inl rfl)) (fun _ _ _ _ _=>k6) (fun _ _ _ _ _=>(qe_mB (K:=K) W2 PySem.F.slot_list_index PySem.F.type_list_index amo (qv 1) (qa_c (qv 0) A2)))) A2)) (qa_c A1 A2))))))) E8))))))))
   (hJ (qs_if (E1 'k' (qe_ix (K:=K) (vi pA) A1) A1) (A4 (T0 (qe_mB (K:=K) W2 j8 j7 k7 (vi pB) (qa_c (F9 (qa_c O3 A2)) A2)))) E8)
   (A4 (C5 (F9 (qa_c (aoO G_Order___init__ (hm hr) (qa_c (qe_op (q_add (K:=K)) (O4 (K:=K) (vi pB) (M4 A1) Q8) (O4 (K:=K) (vi pB) Q8 (M4 A1))) A2)) (qa_c (vi lZ) (qa_c (q0 'k' (qe_ix (K:=K) (vi pA) A1) A1) A2)))))))))))))),?_⟩
  obtain ⟨p,d,s',n,s0,s1,s2,ds,rfl,hp,hd,hs,bQ,hs1,q⟩:=h;have at_:∀ k:Nat,k<8->F8 ((poolL n 8).map V.str) (k:Int)=some (V.str (p8 n k)):=fun k hk=>G8 (by rw [U4,yH hk];rfl)
  obtain ⟨g1,dH⟩:∃ g:Nat,s1=g:=⟨s1.toNat,by lia⟩
  subst dH;have hg2:g1<=1:=by lia
  have am:∃ ms:List Str,lP n 4 ms/\∀ H1:Hp,[V.str (p8 n (6+g1)),V.str (p8 n (7-g1))]=ms.map V.str:=by
   rcases (show g1=0\/g1=1 by lia) with rfl | rfl
   .exact ⟨[p8 n 6,p8 n 7],.inl rfl,fun _=>rfl⟩
   .exact ⟨[p8 n 7,p8 n 6],.inr rfl,fun _=>rfl⟩
  obtain ⟨ms,fU,ems⟩:=am;walk_at "rd";refine ⟨_,.inl (.of hs),V.int s0,J5 _ _,p,d,s0,n,ds,rfl,hp,hd,bQ,fun rw_ H1 ls nrw S1 hrw hr=>⟨_,.inl (.of (S1 _ _ hs)),V.int g1,G8 (j:=1) rfl,?_⟩⟩;walk_at "rd";refine ⟨_,.inl (.of (S1 _ _ hp)),V.str (p8 n (6+g1)),by rw [show (6:Int)+(g1:Int)=((6+g1:Nat):Int) by lia];exact at_ _ 'a',_,.inl (.of (S1 _ _ hs)),V.int g1,G8 (j:=1) rfl,_,rfl,_,.inl (.of (S1 _ _ hp)),V.str (p8 n (7-g1)),by rw [show (7:Int)-(g1:Int)=((7-g1:Nat):Int) by lia];exact at_ _ 'a',by decide,fun mk nmk=>?_⟩;rw [ems H1];have S2:=S1.trans (Same.new (u:=HO.lst (ms.map V.str)) nmk);have eA:=C9 (u:=HO.lst (ms.map V.str)) hrw nmk;have jK:A0 H1 mk (.lst (ms.map V.str)) mk=some (.lst (ms.map V.str)):=A3;generalize A0 H1 mk (.lst (ms.map V.str))=H2 at S2 eA jK;clear nmk nrw hrw S1 H1;have hle:ls.length<=2+4:=hr.le;have hlne:ls≠[]:=fun e=>by have:=(hr.mm (p8 n 4)).mpr 'f';rw [e] at this;cases this
  have qG:ms.length=2:=by rcases fU with rfl | rfl <;> rfl
  refine midS (fun Y H3=>∃ rl:Addr,(Y=[some (.ref p),some (.ref d),some (.ref s'),some (.ref rw_),some (.ref mk),some (.ref rl),none,none,none,none,none,none]/\Same H2 H3)/\H2 rl=none/\T8 H3 rl [(("row" : Str),ls),(("marks" : Str),ms)]) ?_ ?_
  .intro M' hM';walk_at "rd";refine ⟨by decide,fun p1 n1=>rTupR.l (.of (C9 eA n1)) fun p2 n2=>?_⟩;walk_at "rd";refine rAddR.t (.of (C9 A3 n2)) (.of A3) 'd' (by simp only [A6,L3,Z0];exact Q4 'a') (fun e=>absurd (List.map_eq_nil_iff.mp e) hlne) fun _ p3 n3=>?_
   have S3:Same H2 (A0 (A0 (A0 H2 p1 (.tup [V.str (Str.ofString "row")])) p2 (.tup (ls.map V.str))) p3 (.tup ([V.str (Str.ofString "row")]++ls.map V.str))):=((Same.new n1).trans (Same.new n2)).trans (Same.new n3);have h3:A0 (A0 (A0 H2 p1 (.tup [V.str (Str.ofString "row")])) p2 (.tup (ls.map V.str))) p3 (.tup ([V.str (Str.ofString "row")]++ls.map V.str)) p3=some (tupR (("row" : Str),ls)):=A3;generalize A0 (A0 (A0 H2 p1 (.tup [V.str (Str.ofString "row")])) p2 (.tup (ls.map V.str))) p3 (.tup ([V.str (Str.ofString "row")]++ls.map V.str))=H3 at S3 h3;refine ⟨by decide,fun p4 n4=>rTupR.l (.of (C9 (S3 _ _ jK) n4)) fun p5 n5=>?_⟩;walk_at "rd";refine rAddR.t (.of (C9 A3 n5)) (.of A3) 'd' (by simp only [A6,L3,Z0];exact Q4 'a') (fun e=>by rw [List.map_eq_nil_iff.mp e] at qG;cases qG) fun _ p6 n6=>⟨by decide,fun rl nrl=>?_⟩
   have S6:Same H3 (A0 (A0 (A0 H3 p4 (.tup [V.str (Str.ofString "marks")])) p5 (.tup (ms.map V.str))) p6 (.tup ([V.str (Str.ofString "marks")]++ms.map V.str))):=((Same.new n4).trans (Same.new n5)).trans (Same.new n6);have h6:A0 (A0 (A0 H3 p4 (.tup [V.str (Str.ofString "marks")])) p5 (.tup (ms.map V.str))) p6 (.tup ([V.str (Str.ofString "marks")]++ms.map V.str)) p6=some (tupR (("marks" : Str),ms)):=A3;generalize A0 (A0 (A0 H3 p4 (.tup [V.str (Str.ofString "marks")])) p5 (.tup (ms.map V.str))) p6 (.tup ([V.str (Str.ofString "marks")]++ms.map V.str))=H6 at S6 h6 nrl;exact hM' _ _ ⟨rl,⟨rfl,(S3.trans S6).trans (Same.new nrl)⟩,(S3.trans S6).free nrl,[p3,p6],A3,.cons (C9 (S6 _ _ h3) nrl) (.cons (C9 h6 nrl) .nil)⟩
  rintro Y H3 ⟨rl,⟨rfl,S3⟩,nrl,hR⟩;walk_at "rd";intro tb ntb;have ntb2:H2 tb=none:=S3.free ntb;refine ⟨ls.length,.inl ⟨_,.of (C9 (S3 _ _ eA) ntb),by rw [A6]⟩,by lia,by lia,?_⟩;rw [Int.toNat_natCast];refine forRs (fun i Y H4=>∃ (u:Option V) (ks:List Str),(Y=[some (.ref p),some (.ref d),some (.ref s'),some (.ref rw_),some (.ref mk),some (.ref rl),some (.ref tb),u,none,none,none,none]/\Same H2 H4)/\T8 H4 rl [(("row" : Str),ls),(("marks" : Str),ms)]/\IsTb (y3 n 4 ds ls ms) H4 tb ks/\ks.length<=i/\∀ y∈ls.take i,y∈ks) ⟨none,[],⟨rfl,S3.trans (Same.new ntb)⟩,hR.same (Same.new ntb),⟨fun _=>tb,fun _=>tb,fun _=>(0,[],0),A3,fun y hy=>by cases hy⟩,C3 _,by simp⟩ ?_ ?_
  .clear S3 hR ntb H3;rintro P' Bk hP i Y H4 hi ⟨u,ks,⟨rfl,S4⟩,hR,hT,m8,Y7⟩;have hy:ls[i]?=some ls[i]:=L1 hi;have ar:F8 (ls.map V.str) (0+(i:Int))=some (V.str ls[i]):=by rw [cE];exact G8 (by rw [U4,hy];rfl)
   have hidx:ls.idxOf ls[i]=i:=hr.nd.idxOf_getElem i hi;walk_at "rd";intro p1 n1;refine newQ (A0 _ _ (.tup [])) (Same.new n1) A3 fun K1 S5 e1=>?_
   refine ⟨by decide,fun p2 n2=>?_⟩;refine newQ (A0 _ _ (.tup [V.int (0+(i:Int)),V.ref p1,V.int 0])) (Same.new n2) A3 fun K2 S6 e2=>?_
   refine ⟨_,.inl (.of (((S4.trans S5).trans S6) _ _ eA)),_,ar,?_⟩;have uP:=S5.trans S6;obtain ⟨kvs,U7,_⟩:=(hT.same uP).top;obtain ⟨x,h1,h2,o,rfl⟩:=(hT.same uP).put (l:=ls[i]) (p:=p2) (q:=p1) (e:=((ls.idxOf ls[i]:Int),[],0)) 'a' (.inl ⟨jY hi,rfl⟩) ⟨by rw [hidx];rw [cE] at e2;exact e2,S6 _ _ e1⟩;refine ⟨_,h1,hP _ _ _ ⟨_,_,⟨rfl,(S4.trans uP).put ntb2⟩,(hR.same uP).putD U7,h2,N8 (yJ _ _) 'a',fun y z9=>?_⟩⟩;rw [M7 hy] at z9;rw [dd_mem]
   rcases G3.mp z9 with h | h
   .exact .inl (Y7 y h)
   .exact .inr (E7.mp h)
  clear S3 hR ntb H3;rintro Y H3 ⟨u,ks,⟨rfl,S3⟩,hR,hT,m8,Y7⟩;rw [M3] at Y7;walk_at "rd";refine ⟨by decide,fun fo nfo=>⟨by decide,by decide,?_⟩⟩;have nfo2:H2 fo=none:=S3.free nfo;have I0:MdI H2 (A0 H3 fo (.lst [.int 0,.int 0])) rl tb fo (y3 n 4 ds ls ms) ks ([(("row" : Str),ls),(("marks" : Str),ms)]++X8 n 4 ds 0) (O6 n 4 ds 0 0) (O6 n 4 ds 0 1):=⟨S3.trans (Same.new nfo),hR.same (Same.new nfo),hT.same (Same.new nfo),A3,fun e=>by obtain ⟨ts,hR⟩:=hR;have:=hR.top;rw [<- e,nfo] at this;cases this⟩
  refine forRs (fun i Y H4=>∃ (u v w r:Option V) (ks:List Str),(Y=[some (.ref p),some (.ref d),some (.ref s'),some (.ref rw_),some (.ref mk),some (.ref rl),some (.ref tb),u,some (.ref fo),v,w,r]/\MdI H2 H4 rl tb fo (y3 n 4 ds ls ms) ks ([(("row" : Str),ls),(("marks" : Str),ms)]++X8 n 4 ds i) (O6 n 4 ds i 0) (O6 n 4 ds i 1))/\ks.length<=2+4+i/\(∀ y∈ls,y∈ks)/\∀ k<i,¬ ds.getD k 0 % 6=0->p8 n k∈ks) ⟨u,none,none,none,ks,⟨rfl,I0⟩,by lia,Y7,fun k hk=>absurd hk (Nat.not_lt_zero k)⟩ ?_ ?_
  .clear I0 S3 hR hT m8 Y7 nfo H3 u ks;rintro P' Bk hP i Y H4 hi ⟨u,v,w,r,ks,⟨rfl,I⟩,m8,Y7,uQ⟩;have gF:i<4:=hi;obtain ⟨D,hD⟩:∃ D,ds.getD i 0=D:=⟨_,rfl⟩
   have ad:F8 (ds.map V.int) (0+(i:Int))=some (V.int D):=by rw [cE,<- hD];exact G8 (by rw [U4,aG,L1 'a'];rfl)
   have ap:F8 ((poolL n 8).map V.str) (0+(i:Int))=some (V.str (p8 n i)):=by rw [cE];exact at_ i 'a'
   obtain ⟨g,hg⟩:∃ g:Nat,D / 6 % 2=g:=⟨(D / 6 % 2).toNat,by lia⟩
   have dH:g<=1:=by lia
   have mS:=bs8_g (n:=n) (m:=4) hg;have hbk:p8 n (4+g)∈ks:=Y7 _ (by rw [<- mS];rcases (show g=0\/g=1 by lia) with rfl | rfl <;> rw [mS,hr.mm] <;> simp);have S2':=S2;walk_at "rd";refine ⟨_,.inl (.of ((S2.trans I.same) _ _ hd)),_,ad,?_⟩;walk_at "rd";rw [hg];refine ⟨_,.inl (.of ((S2.trans I.same) _ _ hp)),V.str (p8 n (4+g)),by rw [show (4:Int)+(g:Int)=((4+g:Nat):Int) by lia];exact at_ _ 'a',?_⟩;refine midS (fun Y H5=>∃ pt:Addr,(Y=[some (.ref p),some (.ref d),some (.ref s'),some (.ref rw_),some (.ref mk),some (.ref rl),some (.ref tb),some (.int (0+(i:Int))),some (.ref fo),some (.int g),some (.str (p8 n (4+g))),some (.ref pt)]/\Same H4 H5)/\H5 pt=some (.tup ((prt8 n 4 (D % 6)).map V.str))) ?_ ?_
   .intro M' hM';have o4:=(S2.trans I.same) _ _ hp;have W7:=(S2.trans I.same) _ _ hd;walk_at "rd";intro p1 n1;refine newQ (A0 _ _ (.tup [])) (Same.new n1) A3 fun K1 T1 e1=>?_
    intro p2 n2;refine newQ (A0 _ _ (.tup [])) (Same.new n2) A3 fun K2 T2 e2=>?_
    intro p3 n3;refine newQ (A0 _ _ (.tup [])) (Same.new n3) A3 fun K3 T3 e3=>?_
    have T13:=T1.trans (T2.trans T3);refine ⟨_,.inl (.of (T13 _ _ o4)),_,at_ 6 'h',by decide,fun p4 n4=>?_⟩;refine newQ (A0 _ _ (.tup [V.str (p8 n 6)])) (Same.new n4) A3 fun K4 T4 e4=>?_
    refine ⟨_,.inl (.of ((T13.trans T4) _ _ o4)),_,at_ 7 'h',by decide,fun p5 n5=>?_⟩;refine newQ (A0 _ _ (.tup [V.str (p8 n 7)])) (Same.new n5) A3 fun K5 T5 e5=>?_
    have T15:=T13.trans (T4.trans T5);refine ⟨_,.inl (.of (T15 _ _ o4)),_,at_ 6 'h',_,.inl (.of (T15 _ _ o4)),_,at_ 7 'h',by decide,fun p6 n6=>?_⟩;refine newQ (A0 _ _ (.tup [V.str (p8 n 6),V.str (p8 n 7)])) (Same.new n6) A3 fun K6 T6 e6=>?_
    refine ⟨by decide,fun p7 n7=>?_⟩;refine newQ (A0 _ _ (.lst [V.ref p1,V.ref p2,V.ref p3,V.ref p4,V.ref p5,V.ref p6])) (Same.new n7) A3 fun K7 T7 e7=>?_
    have T17:=T15.trans (T6.trans T7);refine ⟨_,.inl (.of (T17 _ _ W7)),_,ad,?_⟩;walk_at "rd";have T27:=T2.trans (T3.trans (T4.trans (T5.trans (T6.trans T7))))
    rcases (show D % 6=0\/D % 6=1\/D % 6=2\/D % 6=3\/D % 6=4\/D % 6=5 by lia) with e | e | e | e | e | e <;> rw [e]
    .exact ⟨_,.inl (.of e7),V.ref p1,rfl,hM' _ _ ⟨p1,⟨rfl,T17⟩,by rw [e];exact T27 _ _ e1⟩⟩
    .exact ⟨_,.inl (.of e7),V.ref p2,rfl,hM' _ _ ⟨p2,⟨rfl,T17⟩,by rw [e];exact (T3.trans (T4.trans (T5.trans (T6.trans T7)))) _ _ e2⟩⟩
    .exact ⟨_,.inl (.of e7),V.ref p3,rfl,hM' _ _ ⟨p3,⟨rfl,T17⟩,by rw [e];exact (T4.trans (T5.trans (T6.trans T7))) _ _ e3⟩⟩
    .exact ⟨_,.inl (.of e7),V.ref p4,rfl,hM' _ _ ⟨p4,⟨rfl,T17⟩,by rw [e];exact (T5.trans (T6.trans T7)) _ _ e4⟩⟩
    .exact ⟨_,.inl (.of e7),V.ref p5,rfl,hM' _ _ ⟨p5,⟨rfl,T17⟩,by rw [e];exact (T6.trans T7) _ _ e5⟩⟩
    .exact ⟨_,.inl (.of e7),V.ref p6,rfl,hM' _ _ ⟨p6,⟨rfl,T17⟩,by rw [e];exact T7 _ _ e6⟩⟩
   rintro Y H5 ⟨pt,⟨rfl,S5⟩,mR⟩
   replace I:=I.more S5
   clear S5;have hRl:([(("row" : Str),ls),(("marks" : Str),ms)]++X8 n 4 ds i).length<=1000:=by rw [D9];have:=sK n 4 ds i;simp only [L3,Z0];lia
   have kdd:∀ k<i+1,¬ ds.getD k 0 % 6=0->p8 n k∈dd ks (p8 n i):=fun k hk h0=>by
    rw [dd_mem]
    by_cases e:k=i
    .exact .inr (by rw [e])
    .exact .inl (uQ k 'a' h0)
   walk_at "rd";refine ⟨_,.inl (.of ((S2.trans I.same) _ _ hd)),_,ad,?_⟩;walk_at "rd";refine iteD (fun h2=>?_) fun h2=>?_
   .have fy:=fun g' (h:g'<=1)=>ao8 (n:=n) (m:=4) (ds:=ds) (i:=i) (g:=g) (g':=g') 'h' (by rw [hD];exact h2) (by rw [hD];exact hg) h
    have ag:F8 [V.int (O6 n 4 ds i 0:Nat),V.int (O6 n 4 ds i 1:Nat)] (g:Int)=some (V.int (O6 n 4 ds i g:Nat)):=by rcases (show g=0\/g=1 by lia) with rfl | rfl <;> rfl
    have ig:Y0 2 (g:Int)=some g:=by rcases (show g=0\/g=1 by lia) with rfl | rfl <;> rfl
    have sg:[V.int (O6 n 4 ds i 0:Nat),V.int (O6 n 4 ds i 1:Nat)].set g (V.int ((O6 n 4 ds i g:Nat)+1))=[V.int (O6 n 4 ds (i+1) 0:Nat),V.int (O6 n 4 ds (i+1) 1:Nat)]:=by
     rw [fy 0 'h',fy 1 'h']
     rcases (show g=0\/g=1 by lia) with rfl | rfl <;> rfl
    have ag':F8 [V.int (O6 n 4 ds (i+1) 0:Nat),V.int (O6 n 4 ds (i+1) 1:Nat)] (g:Int)=some (V.int ((O6 n 4 ds i g+1:Nat):Int)):=by
     have:=fy g dH
     rw [if_pos rfl] at this;rw [<- this]
     rcases (show g=0\/g=1 by lia) with rfl | rfl <;> rfl
    have ex:X8 n 4 ds (i+1)=X8 n 4 ds i++[('i',[p8 n (4+g),p8 n i])]:=by rw [fL,hD];unfold R0;rw [if_neg 'a',if_pos h2,mS]
    refine ⟨_,.inl (.of I.fm),_,ag,?_⟩;walk_at "rd";refine ⟨_,I.fm,g,ig,?_⟩;rw [sg];have I1:=I.form (b0:=O6 n 4 ds (i+1) 0) (b1:=O6 n 4 ds (i+1) 1) nfo2;generalize A0 H5 fo (.lst [V.int (O6 n 4 ds (i+1) 0:Nat),V.int (O6 n 4 ds (i+1) 1:Nat)])=K1 at I1;obtain ⟨ts,hR1⟩:=id I1.ru;refine ⟨V2 hR1.top,_,.inl (.of ((S2.trans I1.same) _ _ hp)),_,ap,by decide,fun p1 n1=>?_⟩;refine newQ (A0 _ _ (.tup [V.str (Str.ofString "great"),V.str (p8 n (4+g)),V.str (p8 n i)])) (Same.new n1) A3 fun K2 T2 e2=>?_
    obtain ⟨xs,a1,a2,I2⟩:=(I1.more T2).rule (z:=('i',[p8 n (4+g),p8 n i])) nrl hRl e2;refine appOk a1 a2 ?_;rw [W8,<- ex] at I2;generalize A0 K2 rl (.lst (xs++[V.ref p1]))=K3 at I2;obtain ⟨pp,qq,e,g1',g2',g3'⟩:=I2.tab.get hbk;have ee:=g2'.base 'h' dH;refine ⟨_,g1',?_⟩;walk_at "rd";refine ⟨_,.inr (.of g3'.1),V.int e.1,J5 _ _,fun p2 n2=>?_⟩;refine newQ (A0 _ _ (.tup [])) (Same.new n2) A3 fun K4 T4 e4=>?_
    refine ⟨_,.inl (.of (T4 _ _ I2.fm)),_,ag',by decide,fun p3 n3=>?_⟩;refine newQ (A0 _ _ (.tup [V.int e.1,V.ref p2,V.int ((O6 n 4 ds i g+1:Nat):Int)])) (Same.new n3) A3 fun K5 T5 e5=>?_
    have I5:=I2.more (T4.trans T5);refine ⟨_,.inl (.of ((S2.trans I5.same) _ _ hp)),_,ap,?_⟩;obtain ⟨x,b1,b2⟩:=I5.put (l:=p8 n i) (p:=p3) (q:=p2) (e:=((ls.idxOf (p8 n (4+g)):Int),[],((O6 n 4 ds i g+1:Nat):Int))) ntb2 'a' (.inr ⟨i,gF,rfl,by rw [hD];lia,.inl ⟨by rw [hD];exact h2,by rw [hD,mS];rfl⟩⟩) ⟨by rw [ee] at e5;exact e5,T5 _ _ e4⟩;exact ⟨x,b1,hP _ _ _ ⟨_,_,_,_,_,⟨rfl,b2⟩,N8 (yJ _ _) 'a',fun y hy=>dd_mem.mpr (.inl (Y7 y hy)),kdd⟩⟩
   have fn:=fun g'=>arU (n:=n) (m:=4) (ds:=ds) (i:=i) (g:=g') (by rw [hD];exact h2)
   refine ⟨_,.inl (.of ((S2.trans I.same) _ _ hd)),_,ad,_,rfl,iteN (fun h0=>?_) fun h0=>hP _ _ _ ⟨_,_,_,_,ks,⟨rfl,by rw [fn 0,fn 1,fL,show R0 n 4 (ds.getD i 0) i=[] by rw [hD];unfold R0;rw [if_pos h0],M8];exact I⟩,by lia,Y7,fun k hk U7=>uQ k (by have:k≠i:=fun e=>U7 (by rw [e,hD];exact h0);lia) U7⟩⟩;have Y5:=amL n 4 (D % 6);obtain ⟨ts,hR1⟩:=id I.ru;refine ⟨V2 hR1.top,_,.inl (.of ((S2.trans I.same) _ _ hp)),_,ap,by decide,fun p1 n1=>?_⟩;refine newQ (A0 _ _ (.tup [V.str (Str.ofString "as"),V.str (p8 n i),V.str (p8 n (4+g))])) (Same.new n1) A3 fun K1 T1 e1=>?_
   have jL:=T1 _ _ mR;refine addT e1 jL 'd' (by simp only [A6,L3,Z0];exact Q4 'a') fun t K2 T2 e2=>?_
   have ex:X8 n 4 ds (i+1)=X8 n 4 ds i++[(("as" : Str),p8 n i::p8 n (4+g)::prt8 n 4 (D % 6))]:=by rw [fL,hD];unfold R0;rw [if_neg h0,if_neg h2,mS]
   obtain ⟨xs,a1,a2,I2⟩:=(I.more (T1.trans T2)).rule (z:=(("as" : Str),p8 n i::p8 n (4+g)::prt8 n 4 (D % 6))) nrl hRl e2;refine appOk a1 a2 ?_;rw [W8,<- ex] at I2;have jM:A0 K2 rl (.lst (xs++[V.ref t])) pt=some (.tup ((prt8 n 4 (D % 6)).map V.str)):=by rw [A7 (ne_of (T2 _ _ jL) a1 (fun z=>by cases z))];exact T2 _ _ jL
   generalize A0 K2 rl (.lst (xs++[V.ref t]))=K3 at I2 jM;obtain ⟨pp,qq,e,g1',g2',g3'⟩:=I2.tab.get hbk;have ee:=g2'.base 'h' dH;refine ⟨_,g1',?_⟩;walk_at "rd";refine ⟨_,.inr (.of g3'.1),V.int e.1,J5 _ _,⟨_,.of jM⟩,compT (xs:=(prt8 n 4 (D % 6)).map V.str) [some (.ref mk)] rfl (fun D' j ys K4=>Same K3 K4/\ys=(((prt8 n 4 (D % 6)).take j).map fun q=>(ms.idxOf q:Int)).map V.int) (fun D' nD=>⟨Same.new nD,rfl⟩) (by rintro D' j ys K4 nD _ ⟨S,_⟩;exact .of (S _ _ jM)) ?_ ?_⟩
   .rintro D' j y ys K4 nD hj hy ⟨S,rfl⟩ hD' Q2;obtain ⟨z,hz,rfl⟩:=G5 hy;have qH:=(I2.same.trans S) _ _ jK;walk_at "rd";refine ⟨V2 qH,mk,ms,z,rfl,rfl,qH,fU.mem.mpr (yI (G6 hz)),hD',by simp only [A6,G7];exact L8 'a',CW.put hj Q2 ⟨S.put nD,?_⟩⟩;rw [M7 hz,D0,D0];rfl
   rintro D' ys K4 nD ⟨S4,rfl⟩ hD' _;rw [A6,M3] at hD';walk_at "rd";refine rTupR.l (.of hD') fun p2 n2=>⟨by decide,fun p3 n3=>?_⟩
   obtain ⟨K5,q5,T5,e5⟩:=newT (o:=.tup (((prt8 n 4 (D % 6)).map fun q=>(ms.idxOf q:Int)).map V.int)) n2;rw [q5] at n3 ⊢
   refine newQ (A0 _ _ (.tup [V.int e.1,V.ref p2,V.int 0])) (Same.new n3) A3 fun K6 T6 e6=>?_
   have I6:=I2.more (S4.trans (T5.trans T6));refine ⟨_,.inl (.of ((S2.trans I6.same) _ _ hp)),_,ap,?_⟩;obtain ⟨x,b1,b2⟩:=I6.put (l:=p8 n i) (p:=p3) (q:=p2) (e:=((ls.idxOf (p8 n (4+g)):Int),(prt8 n 4 (D % 6)).map fun q=>(ms.idxOf q:Int),0)) ntb2 'a' (.inr ⟨i,gF,rfl,by rw [hD];exact h0,.inr ⟨by rw [hD];exact h2,by rw [hD,mS]⟩⟩) ⟨by rw [ee] at e6;exact e6,T6 _ _ e5⟩;exact ⟨x,b1,hP _ _ _ ⟨_,_,_,_,_,⟨rfl,by rw [fn 0,fn 1];exact b2⟩,N8 (yJ _ _) 'a',fun y hy=>dd_mem.mpr (.inl (Y7 y hy)),kdd⟩⟩
  clear I0 S3 hR hT m8 Y7 nfo H3 u ks;rintro Y H3 ⟨u,v,w,r,ks,⟨rfl,I⟩,m8,Y7,uQ⟩
  change MdI H2 H3 rl tb fo (y3 n 4 ds ls ms) ks ([(("row" : Str),ls),(("marks" : Str),ms)]++X8 n 4 ds 4) (O6 n 4 ds 4 0) (O6 n 4 ds 4 1) at I
  have hXl:=sK n 4 ds 4;have hS3:=(S2.trans I.same) _ _ hs;refine midS (fun Y H4=>(Y=[some (.ref p),some (.ref d),some (.ref s'),some (.ref rw_),some (.ref mk),some (.ref rl),some (.ref tb),u,some (.ref fo),v,w,r]/\Same H2 H4)/\T8 H4 rl ([(("row" : Str),ls),(("marks" : Str),ms)]++X8 n 4 ds 4++V6 "behind" (decide (s2=1)))/\IsTb (y3 n 4 ds ls ms) H4 tb ks) ?_ ?_
  .intro M' hM';walk_at "rd";refine ⟨_,.inl (.of hS3),V.int s2,G8 (j:=2) rfl,?_⟩;walk_at "rd";refine iteD (fun h=>?_) fun h=>hM' _ _ ⟨⟨rfl,I.same⟩,by rw [decide_eq_false h,show V6 "behind" false=[] from rfl,M8];exact I.ru,I.tab⟩
   obtain ⟨ts,hR1⟩:=id I.ru;refine ⟨V2 hR1.top,by decide,fun p1 n1=>?_⟩;refine newQ (A0 _ _ (.tup [V.str (Str.ofString "behind")])) (Same.new n1) A3 fun K1 T1 e1=>?_
   obtain ⟨xs,a1,a2,I2⟩:=(I.more T1).rule (z:=(("behind" : Str),[])) nrl (by rw [D9];simp only [L3,Z0];lia) e1;exact appOk a1 a2 (hM' _ _ ⟨⟨rfl,I2.same⟩,by rw [decide_eq_true h];exact I2.ru,I2.tab⟩)
  rintro Y H4 ⟨⟨rfl,S4⟩,⟨ts,hR⟩,hT⟩;have hR':Paired (fun t z=>H4 t=some (tupR z)) ts ((("row" : Str),ls)::((("marks" : Str),ms)::X8 n 4 ds 4++V6 "behind" (decide (s2=1)))):=hR.row;have qI:=hR.top;obtain ⟨t0,ts',rfl,ht0,bR⟩:∃ t0 ts',ts=t0::ts'/\H4 t0=some (tupR (("row" : Str),ls))/\Paired (fun t z=>H4 t=some (tupR z)) ts' ((("marks" : Str),ms)::X8 n 4 ds 4++V6 "behind" (decide (s2=1))):=by
   cases hR' with
   | cons h t=>exact ⟨_,_,rfl,h,t⟩
  have pO:ts'.length<=20:=by
   rw [Paired.length bR,gL,L3,D9]
   have:(V6 "behind" (decide (s2=1))).length<=1:=by unfold V6;split <;> simp
   lia
  walk_at "rd";refine rSlR.l (.of qI) fun l1 n1=>?_
  rw [show cutV ((t0::ts').map V.ref) (some 1) none=ts'.map V.ref from wQ _ _];refine rSlR.l (.of (C9 qI n1)) fun l2 n2=>?_
  rw [show cutV ((t0::ts').map V.ref) none (some 1)=[V.ref t0] from aV _ 1];walk_at "rd";refine rAddR.l (C9 A3 n2) A3 (by simp only [A6,Y8];exact Q4 'a') fun l3 n3=>?_
  have S5:Same H4 (A0 (A0 (A0 H4 l1 (.lst (ts'.map V.ref))) l2 (.lst [V.ref t0])) l3 (.lst (ts'.map V.ref++[V.ref t0]))):=((Same.new n1).trans (Same.new n2)).trans (Same.new n3);have h5:A0 (A0 (A0 H4 l1 (.lst (ts'.map V.ref))) l2 (.lst [V.ref t0])) l3 (.lst (ts'.map V.ref++[V.ref t0])) l3=some (.lst ((ts'++[t0]).map V.ref)):=by rw [A3,D0];rfl
  generalize A0 (A0 (A0 H4 l1 (.lst (ts'.map V.ref))) l2 (.lst [V.ref t0])) l3 (.lst (ts'.map V.ref++[V.ref t0]))=H5 at S5 h5;have hR5:T8 H5 l3 (R8 ls ms (X8 n 4 ds 4) (decide (s2=1))):=⟨ts'++[t0],h5,by
   have:=afs (N9 bR fun _ _ e=>S5 _ _ e) (.cons (S5 _ _ ht0) .nil)
   unfold R8
   simpa using this⟩
  intro x dx nx ndx ne;refine init8 hR5 nx ndx ne 'h' hr fU fun H9 L M S9 hO o8=>⟨rfl,?_⟩
  have qJ:=S5.trans S9;have hs9:=(S2.trans (S4.trans qJ)) _ _ hs;refine ⟨_,.inl (.of hs9),V.int s2,G8 (j:=2) rfl,?_⟩;walk_at "rd";refine ⟨by decide,fun t nt=>?_⟩;refine newQ (A0 _ _ (.tup [V.ref x,V.ref tb,V.bl (decide (s2=1))])) (Same.new nt) A3 fun K1 T1 e1=>?_
  have S20:=S2.trans (S4.trans (qJ.trans T1));have hkA:∀ k<4+2,p8 n k∈ks:=fun k hk=>by
   by_cases hk4:k<4
   .by_cases h0:ds.getD k 0 % 6=0
    .exact Y7 _ ((hr.mm _).mpr (.inr (.inr ⟨k,hk4,h0,rfl⟩)))
    .exact uQ k hk4 h0
   .refine Y7 _ ((hr.mm _).mpr ?_)
    by_cases hm:k=4
    .exact .inl (by rw [hm])
    .exact .inr (.inl (by rw [show k=5 by lia]))
  refine q t _ _ L M (S2.free (S4.free (qJ.free nt))) S20 (MadeT.mk8 e1 (hO _ T1).1 o8 ((hT.same qJ).same T1) hkA) fun f xs o hf=>MadeT.mk8 (by rw [A7 (fun e=>by rw [e] at e1;rw [S20 _ _ hf] at e1;cases e1)];exact e1) ((hO _ T1).2 f xs o ((S2.trans (S4.trans S5)) _ _ hf)) o8 (((hT.same qJ).same T1).putL (S20 _ _ hf)) hkA
theorem sc_l_both:FnScope ["_law_script", "_law_pool_here", "_law_cell", "_law_digits_here", "_law_shape", "_law_one", "_law_way", "_law_number_here", "_law_at", "_law_job"] ["_law_script", "_law_pool_here"] (C1 R7):=E6
abbrev bI:List Str:=["_law_script", "_law_pool_here", "_law_cell", "_law_digits_here", "_law_shape", "_law_one", "_law_way", "_law_number_here", "_law_at", "_law_job"]
theorem zS:VS bI R7 "_law_script" 0:=vq
theorem veD:VS bI R7 "_law_pool_here" 1:=vq
theorem tI:VS bI R7 "_law_cell" 2:=vq
theorem iJ:VS bI R7 "_law_digits_here" 3:=vq
theorem mB:VS bI R7 "_law_shape" 4:=vq
theorem veH:VS bI R7 "_law_one" 5:=vq
theorem iK:VS bI R7 "_law_way" 6:=vq
theorem veJ:VS bI R7 "_law_number_here" 7:=vq
theorem zT:VS bI R7 "_law_at" 8:=vq
theorem veL:VS bI R7 "_law_job" 9:=vq
theorem veM:LS R7 "_law_cell":=lq
theorem zU:LS R7 "_law_digits_here":=lq
theorem veO:LS R7 "_law_shape":=lq
theorem veP:LS R7 "_law_one":=lq
theorem veQ:LS R7 "_law_way":=lq
theorem veR:LS R7 "_law_number_here":=lq
theorem veS:LS R7 "_law_at":=lq
theorem veT:LS R7 "_law_job":=lq
theorem alf(F:FunD K "_law_both" "_law_both" R7 f fd)(T:Txt P w K mg C)(G_l_number:FO P w K mg base 1 "_law_number" ["_law_script", "_law_k"] [] (lM K))(G_l_digits:FO P w K mg base 2 "_law_digits" ["_law_script"] [] (anp K 4))(G_l_made:FO P w K mg base 7 "_law_made" ["_law_pool_here", "_law_digits_here", "_law_shape"] [] (ak3 C 4 8)):FnOk P w K mg base E2 8 f fd ["_law_script", "_law_pool_here"] (ak4 K C 4 8):=by
 refine F.ok sc_l_both ?_ ?_
 .rintro _ _ _ _ ⟨a,p,n,ns,rfl,_⟩;rfl
 .intro cdv A outer s H vs Q E hr h;have B3:=hu_of hr;have hu:=hr.units;refine ⟨_,QSs.out (A5 (C8 (n:=2) sc_l_both.nd rfl veM (qe_op x0 (D7 G_l_number (hm hr) (qa_c (vi zS) (qa_c A1 A2))) A1))
   (A5 (C8 (n:=3) sc_l_both.nd rfl zU (D7 G_l_digits (hm hr) (qa_c (vi zS) A2)))
   (A5 (C8 (n:=4) sc_l_both.nd rfl veO (R4 (qa_c (qe_op q_mod (vi tI) A1) (qa_c (qe_op q_mod (qe_op x0 (vi tI) A1) A1) (qa_c (qe_op q_mod (qe_op x0 (vi tI) A1) A1) A2)))))
   (A5 (C8 (n:=5) sc_l_both.nd rfl veP (D7 G_l_made (hm hr) (qa_c (vi veD) (qa_c (vi iJ) (qa_c (vi mB) A2)))))
   (A5 (C8 (n:=6) sc_l_both.nd rfl veQ (qe_op q_mod (qe_op x0 (vi tI) A1) A1))
   (A5 (C8 (n:=7) sc_l_both.nd rfl veR (D7 G_l_number (hm hr) (qa_c (vi zS) (qa_c A1 A2))))
   (hJ (qs_if (E1 'k' (vi iK) A1) (A4 (kR (qe_op (q_add (K:=K)) (qe_ix (K:=K) (vi mB) A1) A1) (nY (vi mB) A1))) (A4 (qs_if (E1 q_lt (vi iK) A1) (A4 (kR (qe_op q_sub A1 (qe_ix (K:=K) (vi mB) (vi iK))) (nY (vi mB) (vi iK)))) (A4 (qs_if (E1 'k' (vi iK) A1) (A4 (nP (n:=3) sc_l_both.nd rfl zU (V5:CompOk ["_law_script", "_law_pool_here", "_law_cell", "_law_digits_here", "_law_shape", "_law_one", "_law_way", "_law_number_here", "_law_at", "_law_job"] (C1 R7).names _ ["_law_k", "_law_number_here"] 1 [7]) (qi_r1 T.b_range (qa_c A1 A2)) (fun _ _ _ _ _=>D3 (n:=0) (show List.Nodup (["_law_k", "_law_number_here"]:List Str) by decide +kernel) rfl (Or.inl rfl)) (fun _ _ _ _ _=>k6) (fun _ _ _ _ _=>(qe_op q_mod (qe_op q_mul (qe_op (q_add (K:=K)) (qv 1) (qe_op q_mul A1 (qv 0))) A1) A1)))) (A4 (qs_if (E1 q_lt (vi iK) A1) (A5 (C8 (n:=8) sc_l_both.nd rfl veS (qe_op q_mod (vi veJ) A1))
   (A5 (C8 (n:=9) sc_l_both.nd rfl veT (qe_op q_mod (qe_ix (K:=K) (vi iJ) (vi zT)) A1))
   (A4 (kR (qe_op (q_add (K:=K)) (qe_op q_sub (qe_ix (K:=K) (vi iJ) (vi zT)) (vi veL)) (qe_op q_mod (qe_op x0 (vi veJ) A1) A1)) (nY (vi iJ) (vi zT)))))) (A4 (qs_if (E1 'k' (vi iK) A1) (A4 (C8 (n:=3) sc_l_both.nd rfl zU (qe_op (q_add (K:=K)) (O4 (K:=K) (vi iJ) (M4 A1) Q8) (O4 (K:=K) (vi iJ) Q8 (M4 A1))))) E8)))))))))
   (A4 (C5 (F9 (qa_c (vi veH) (qa_c (D7 G_l_made (hm hr) (qa_c (vi veD) (qa_c (vi iJ) (qa_c (vi mB) A2)))) A2)))))))))))),?_⟩
  obtain ⟨a,p,n,ns,rfl,hS,hp,q⟩:=h;walk_at "rd";refine ⟨a,ns,0,rfl,hS,by decide,_,rfl,a,ns,rfl,hS,fun d H1 ds nd S1 hd bQ=>⟨by decide,fun s' ns'=>?_⟩⟩;generalize numF ns 0 / 1116=c;refine newQ (A0 _ _ (.lst [V.int (c % 3),V.int (c / 3 % 2),V.int (c / 6 % 2)])) (Same.new ns') A3 fun H2 T2 e2=>?_
  have S2:=S1.trans T2;refine ⟨p,d,s',n,_,_,_,ds,rfl,S2 _ _ hp,T2 _ _ hd,e2,bQ,by lia,fun t1 H3 R L M nt1 S3 hM1 hM2=>?_⟩;have mT:=S2.trans S3;have R1:=S3 _ _ (T2 _ _ hd);have bV:=S3 _ _ e2;have ns0:H s'=none:=S1.free ns';walk_at "rd";refine ⟨a,ns,_,rfl,mT.seq hS,by decide,?_⟩;generalize numF ns _=num;refine midS (fun Y H4=>∃ (u v:Option V) (d':Addr) (ds':List Int) (s0 s1 s2:Int),(Y=[some (.ref a),some (.ref p),some (.int c),some (.ref d'),some (.ref s'),some (.ref t1),some (.int (c / 12 % 8)),some (.int num),u,v]/\Same H H4)/\MadeT C H4 t1 n 4 (decide (c / 6 % 2=1)) R L M/\H4 d'=some (.lst (ds'.map V.int))/\ds'.length=4/\H4 s'=some (.lst [.int s0,.int s1,.int s2])/\(s1=0\/s1=1)) ?_ ?_
  .intro M' hM';have fP:d≠s':=v7 hd ns';have jN:∀ s0 s1 s2:Int,s1=0\/s1=1->M' [some (.ref a),some (.ref p),some (.int c),some (.ref d),some (.ref s'),some (.ref t1),some (.int (c / 12 % 8)),some (.int num),none,none] (A0 H3 s' (.lst [.int s0,.int s1,.int s2])):=fun s0 s1 s2 h=>hM' _ _ ⟨_,_,d,ds,s0,s1,s2,⟨rfl,mT.put ns0⟩,hM2 s' _ _ e2,by rw [A7 fP];exact R1,bQ,A3,h⟩
   walk_at "rd";refine iteD (fun h0=>?_) fun h0=>iteD (fun h3=>?_) fun h3=>iteD (fun h4=>?_) fun h4=>iteD (fun h6=>?_) fun h6=>iteD (fun h7=>?_) fun h7=>hM' _ _ ⟨_,_,d,ds,_,_,_,⟨rfl,mT⟩,hM1,R1,bQ,bV,by lia⟩
   .refine ⟨_,.inl (.of bV),V.int (c % 3),J5 _ _,?_⟩;walk_at "rd";exact ⟨_,bV,0,rfl,jN _ _ _ 'a'⟩
   .rcases (show c / 12 % 8=1\/c / 12 % 8=2 by lia) with e | e <;> rw [e]
    .refine ⟨_,.inl (.of bV),V.int (c / 3 % 2),rfl,?_⟩;walk_at "rd";rw [<- e];refine ⟨_,bV,1,by rw [e];rfl,jN _ _ _ 'a'⟩
    .refine ⟨_,.inl (.of bV),V.int (c / 6 % 2),rfl,?_⟩;walk_at "rd";rw [<- e];refine ⟨_,bV,2,by rw [e];rfl,jN _ _ _ 'a'⟩
   .refine ⟨by decide,by decide,compR [some (.int num)] rfl (fun D i ys H2=>Same H3 H2/\∃ ds':List Int,ys=ds'.map V.int/\ds'.length=i) (fun D nD=>⟨Same.new nD,[],rfl,rfl⟩) ?_ ?_⟩
    .rintro D i ys H4 nD hi ⟨S,ds',rfl,hl⟩ hD hy;have gF:i<4:=hi;walk_at "rd";exact ⟨.inl ⟨by decide,by decide⟩,.inr ⟨by decide,by decide⟩,hD,by rw [A6];exact L8 'a',CW.put hi hy ⟨S.put nD,ds'++[_],by rw [D0];rfl,by rw [D9,hl];rfl⟩⟩
    rintro D ys H4 nD ⟨S,ds',rfl,hl⟩ hD _;exact hM' _ _ ⟨_,_,D,ds',_,_,_,⟨rfl,mT.trans S⟩,hM1.same S,hD,hl,S _ _ bV,by lia⟩
   .obtain ⟨j,hj⟩:∃ j:Nat,num % 4=j:=⟨(num % 4).toNat,by lia⟩
    have hjl:j<ds.length:=by lia
    have ad:F8 (ds.map V.int) (num % 4)=some (V.int ds[j]):=by rw [hj];exact G8 (by rw [U4,L1 hjl];rfl)
    refine ⟨_,.inl (.of R1),_,ad,_,rfl,_,.inl (.of R1),_,ad,_,rfl,_,R1,j,?_,hM' _ _ ⟨_,_,d,ds.set j _,_,_,_,⟨rfl,mT.put nd⟩,hM2 d _ _ (T2 _ _ hd),by rw [A3,List.map_set],by rw [List.length_set];exact bQ,by rw [A7 fP.symm];exact bV,by lia⟩⟩;unfold Y0;rw [hj,A6,if_pos (Int.natCast_nonneg _),if_pos 'a'];rfl
   .refine rSlR.l (.of R1) fun l1 n1=>rSlR.l (.of (C9 R1 n1)) fun l2 n2=>?_
    rw [show cutV (ds.map V.int) (some 1) none=(ds.drop 1).map V.int by rw [show cutV (ds.map V.int) (some 1) none=_ from r8 _ 1,gM],show cutV (ds.map V.int) none (some 1)=(ds.take 1).map V.int by rw [show cutV (ds.map V.int) none (some 1)=_ from aV _ 1,eJ]] at *;walk_at "rd";refine rAddR.l (C9 A3 n2) A3 (by simp only [A6,G7,aK];exact Q4 'a') fun l3 n3=>?_
    have S5:Same H3 (A0 (A0 (A0 H3 l1 (.lst ((ds.drop 1).map V.int))) l2 (.lst ((ds.take 1).map V.int))) l3 (.lst ((ds.drop 1).map V.int++(ds.take 1).map V.int))):=((Same.new n1).trans (Same.new n2)).trans (Same.new n3);exact hM' _ _ ⟨_,_,l3,ds.drop 1++ds.take 1,_,_,_,⟨rfl,mT.trans S5⟩,hM1.same S5,by rw [A3,D0],by rw [D9,aK,G7];lia,S5 _ _ bV,by lia⟩
  rintro Y H4 ⟨u,v,d',ds',s0,s1,s2,⟨rfl,S4⟩,hM4,W7,hdl4,hs4,hs14⟩;walk_at "rd";refine ⟨p,d',s',n,s0,s1,s2,ds',rfl,S4 _ _ hp,W7,hs4,hdl4,hs14,fun t2 H5 R' L' M' jI S5 hM5 _=>⟨by decide,fun t nt=>q t t1 t2 _ _ _ R L M R' L' M' (S4.free (S5.free nt)) (S4.trans (S5.trans (Same.new nt))) A3 ((hM4.same S5).same (Same.new nt)) (hM5.same (Same.new nt))⟩⟩
theorem sc_l_some:FnScope ["_law_script", "_law_pool_here", "_law_most", "_law_number_here", "_law_some_here"] ["_law_script", "_law_pool_here", "_law_most"] (C1 bE):=E6
abbrev pC:List Str:=["_law_script", "_law_pool_here", "_law_most", "_law_number_here", "_law_some_here"]
theorem veU:VS pC bE "_law_script" 0:=vq
theorem veV:VS pC bE "_law_pool_here" 1:=vq
theorem veW:VS pC bE "_law_most" 2:=vq
theorem zV:VS pC bE "_law_number_here" 3:=vq
theorem tJ:VS pC bE "_law_some_here" 4:=vq
theorem veZ:LS bE "_law_number_here":=lq
theorem ve0:LS bE "_law_some_here":=lq
theorem alg(F:FunD K "_law_some" "_law_some" bE f fd)(T:Txt P w K mg C)(G_l_number:FO P w K mg base 1 "_law_number" ["_law_script", "_law_k"] [] (lM K)):FnOk P w K mg base E2 2 f fd ["_law_script", "_law_pool_here", "_law_most"] (ak5 K 4 8):=by
 refine F.ok sc_l_some ?_ ?_
 .rintro _ _ _ _ ⟨a,p,k,n,ns,rfl,_⟩;rfl
 .intro cdv A outer s H vs Q E hr h;have B3:=hu_of hr;have hu:=hr.units;refine ⟨_,QSs.out (A5 (C8 (n:=3) sc_l_some.nd rfl veZ (D7 G_l_number (hm hr) (qa_c (vi veU) (qa_c A1 A2))))
   (A5 (C8 (n:=4) sc_l_some.nd rfl ve0 (O4 (K:=K) (vi veV) Q8 (M4 (qe_op q_mod (vi zV) (qe_op (q_add (K:=K)) (vi veW) A1)))))
   (hJ (qs_if (QW.pt (q9 (E1 (q_ne (K:=K) hu) (vi tJ) (R4 A2)) (w8 (E1 'k' (qe_op q_mod (qe_op x0 (vi zV) A1) A1) A1)))) (A4 (kR (qe_ix (K:=K) (vi veV) A1) (nY (vi tJ) (qe_op q_mod (qe_op x0 (vi zV) A1) (qe_cB (q_len (K:=K)) T.b_len f7 (qa_c (vi tJ) A2)))))) E8)
   (A4 (C5 (vi tJ)))))),?_⟩
  obtain ⟨a,p,k,n,ns,rfl,hS,hp,hk,q⟩:=h;walk_at "rd";refine ⟨a,ns,1,rfl,hS,by decide,_,rfl,by lia,?_⟩;generalize numF ns 1=num;obtain ⟨j,hj,hjk⟩:∃ j:Nat,num % ((k:Int)+1)=j/\j<=k:=by
   have h1:=Int.emod_nonneg num (show ((k:Int)+1)≠0 by lia);have h2:=nE num (show (0:Int)<(k:Int)+1 by lia);exact ⟨(num % ((k:Int)+1)).toNat,by lia,by lia⟩
  rw [hj];refine rSlR.l (.of hp) fun l nl=>?_
  rw [aV,<- eJ];have uR:∀ z∈(poolL n 8).take j,∃ i<4+2,z=p8 n i:=fun z hz=>by
   obtain ⟨i,hi,e⟩:=jP.mp hz;refine ⟨i,by lia,?_⟩;rw [<- e];unfold poolL;rw [List.getElem_map,List.getElem_range]
  have iU:((poolL n 8).take j).length<=4:=by rw [G7];lia
  generalize (poolL n 8).take j=zs at *;refine newQ (A0 _ _ (.lst (zs.map V.str))) (Same.new nl) A3 fun H1 T1 e1=>?_
  refine midS (fun Y H2=>∃ zs':List Str,(Y=[some (.ref a),some (.ref p),some (.int k),some (.int num),some (.ref l)]/\Same H H2)/\H2 l=some (.lst (zs'.map V.str))/\zs'.length<=4/\∀ z∈zs',∃ i<4+2,z=p8 n i) ?_ ?_
  .intro M' hM';have okz:∀ z∈zs,k0 z=true:=fun z hz=>by obtain ⟨i,_,rfl⟩:=uR z hz;exact ak7 (oQ n i).2
   walk_at "rd";intro p1 n1;refine newQ (A0 _ _ (.lst [])) (Same.new n1) A3 fun K1 T2 e2=>?_
   have o0:=T2 _ _ e1;refine ⟨_,.lst (.of o0) (wC okz),_,.lst (.of e2) .nil,by simp [eO,cC],?_⟩;rw [show (PyData.list (zs.map PyData.str)).eqv (PyData.list [])=decide (zs=[]) from wJ zs []];refine iteN (fun h0=>iteD (fun h1=>?_) fun _=>hM' _ _ ⟨zs,⟨rfl,T1.trans T2⟩,o0,iU,uR⟩) fun _=>hM' _ _ ⟨zs,⟨rfl,T1.trans T2⟩,o0,iU,uR⟩
   have dF:0<zs.length:=List.length_pos_iff.mpr h0;obtain ⟨i,hi,o3⟩:∃ i:Nat,num / 180 % (zs.length:Int)=i/\i<zs.length:=by
    have h1:=Int.emod_nonneg (num / 180) (show (zs.length:Int)≠0 by lia);have h2:=nE (num / 180) (show (0:Int)<(zs.length:Int) by lia);exact ⟨(num / 180 % (zs.length:Int)).toNat,by lia,by lia⟩
   refine ⟨_,.inl (.of ((T1.trans T2) _ _ hp)),V.str (p8 n 4),G8 (j:=4) (by rw [U4,yH 'h'];rfl),zs.length,.inl ⟨_,.of o0,by rw [A6]⟩,by lia,_,o0,i,?_,hM' _ _ ⟨zs.set i (p8 n 4),⟨rfl,(T1.trans T2).put nl⟩,by rw [A3,List.map_set],by rw [List.length_set];exact iU,fun z hz=>?_⟩⟩
   .unfold Y0;rw [hi,A6,if_pos (Int.natCast_nonneg _),if_pos 'a'];rfl
   .rcases List.mem_or_eq_of_mem_set hz with h | h
    .exact uR z h
    .exact ⟨4,by lia,h⟩
  rintro Y H2 ⟨zs',⟨rfl,S2⟩,i6,h1,h2⟩;walk_at "rd";exact q l H2 zs' nl S2 i6 h1 h2
theorem sc_l_sides:FnScope ["_law_text", "_law_made_here", "_law_level", "_law_sides_here"] ["_law_text", "_law_made_here", "_law_level"] (C1 cR):=E6
abbrev tK:List Str:=["_law_text", "_law_made_here", "_law_level", "_law_sides_here"]
theorem ve1:VS tK cR "_law_text" 0:=vq
theorem ve2:VS tK cR "_law_made_here" 1:=vq
theorem ve3:VS tK cR "_law_level" 2:=vq
theorem ve4:VS tK cR "_law_sides_here" 3:=vq
theorem ve5:LS cR "_law_sides_here":=lq
theorem ajk(F:FunD K "_law_sides" "_law_sides" cR f fd)(T:Txt P w K mg C):FnOk P w K mg base E2 1 f fd ["_law_text", "_law_made_here", "_law_level"] (aiy K C 4):=by
 refine F.ok sc_l_sides ?_ ?_
 .rintro _ _ _ _ ⟨t,z,k,n,bh,R,L,M,rfl,_⟩;rfl
 .intro cdv A outer s H vs Q E hr h;have B3:=hu_of hr;have hu:=hr.units;refine ⟨_,QSs.out (A5 (qs_if (E1 'k' (vi ve3) A1) (A4 (C5 (R4 (qa_c (vi ve1) A2)))) E8)
   (A5 (nP (n:=3) sc_l_sides.nd rfl ve5 (V5:CompOk ["_law_text", "_law_made_here", "_law_level", "_law_sides_here"] (C1 cR).names _ ["_law_sign_here", "_law_level", "_law_made_here"] 1 [2,1]) (am1 (vi ve1)) (fun _ _ _ _ _=>D3 (n:=0) (show List.Nodup (["_law_sign_here", "_law_level", "_law_made_here"]:List Str) by decide +kernel) rfl (Or.inl rfl)) (fun _ _ _ _ _=>k6) (fun _ _ _ _ _=>(qe_ix (K:=K) (f8 B3 (qe_ix (K:=K) (qv 2) A1) (qv 0)) (qe_op q_sub (qv 1) A1))))
   (A5 (qs_if (QW.pt (q9 (E1 'k' (vi ve3) A1) (w8 (P8 (K:=K) (qe_ix (K:=K) (vi ve2) A1))))) (A4 (C5 (aoY T.b_reversed T.b_list (qa_c (vi ve4) A2)))) E8)
   (A4 (C5 (vi ve4)))))),?_⟩
  obtain ⟨t,z,k,n,bh,R,L,M,rfl,hk,hM,hz,P7,q⟩:=h;obtain ⟨x,d,ks,ht,_,⟨ad,mt,F,hd,hF⟩,Y7⟩:=hM.ex;have at_:∀ i c,z.cps.toList[i]?=some c->one c∈ks:=fun i c hc=>by
   obtain ⟨j,hj,e⟩:=C6.mp (hz c (G6 hc))
   have:=Y7 j (j6.mp hj)
   rw [<- e];exact this
  have hzl2:z.cps.toList.length<=500:=by rw [lenL];exact P7
  walk_at "rd";refine iteD (fun h4=>⟨by decide,fun p np=>q p _ np (Same.new np) ?_⟩) fun h4=>?_
  .rw [show k=3 by lia];exact A3
  have uS:k<3:=by lia
  refine compS [some (.int ((k+1:Nat):Int)),some (.ref t)] rfl (fun D i ys H2=>Same H H2/\∃ es:List (Addr×En),ys=es.map (fun e=>vE k e.1 e.2)/\es.map (·.2)=(z.cps.toList.take i).map (L6 R L M)/\∀ e∈es,H e.1=some (.tup (e.2.2.1.map V.int))) (fun D nD=>⟨Same.new nD,[],rfl,rfl,fun e he=>by cases he⟩) ?_ ?_
  .rintro D i c ys H2 nD hi hc ⟨S,es,rfl,he,hp⟩ hD hy;have hck:=at_ i c hc
   obtain ⟨⟨c',ec,ee⟩,g1,g2⟩:=hF _ hck;obtain rfl:c=c':=List.singleton_inj.mp (congrArg (fun z:Str=>z.cps.toList) ec);have hg:DGet H2 d (.str (one c)) (some (.ref (ad (one c)))):=by
    have:DGet H2 d (kV (Sum.inr (one c))) (valV (C2 ks fun y=>V.ref (ad y)) (Sum.inr (one c))):=f6 (S _ _ hd)
    rw [Q5,if_pos hck] at this;exact this
   have i8:=congrArg c0 he;rw [A6,A6,G7] at i8;walk_at "rd";refine ⟨_,.inr (.of (S _ _ ht)),V.ref d,rfl,d,rfl,_,hg,?_⟩;walk_at "rd";refine ⟨_,.inr (.of (S _ _ g1)),_,vE_at uS,hD,by rw [A6];exact L8 'a',CW.put hi hy ⟨S.put nD,es++[(mt (one c),F (one c))],by rw [D0];rfl,?_,fun e' he'=>?_⟩⟩
   .rw [M7 hc,D0,D0,he,<- ee];rfl
   .rcases G3.mp he' with h | h
    .exact hp e' h
    .rw [E7.mp h];exact g2
  rintro D ys H2 nD ⟨S,es,rfl,he,hp⟩ hD _;rw [u9 'd'] at he;have bN:∀ e∈es,H2 e.1=some (.tup (e.2.2.1.map V.int)):=fun e h=>S _ _ (hp e h)
  refine iteD (fun h2=>⟨_,.inr (.of (S _ _ ht)),V.bl bh,G8 (j:=2) rfl,bh,rfl,?_⟩) fun h2=>q D H2 nD S (sd_of uS (by rw [if_neg 'a'];exact hD) he bN)
  obtain rfl:k=1:=by lia
  cases bh with
  | true=>
   refine iteT ⟨D,rfl,_,hD,fun l nl=>q l _ (S.free nl) (S.trans (Same.new nl)) (sd_of (es:=es) uS (by rw [if_pos ⟨rfl,rfl⟩];exact A3) he fun e h=>(Same.new nl) _ _ (bN e h))⟩
  | false=>exact iteF (q D H2 nD S (sd_of uS (by rw [if_neg (fun h=>by cases h.2)];exact hD) he bN))
theorem sc_l_put:FnScope ["_law_one", "_law_other", "_law_made_here", "_law_strength", "_law_level", "_law_mine", "_law_theirs"] ["_law_one", "_law_other", "_law_made_here", "_law_strength"] (C1 l9):=E6
abbrev iL:List Str:=["_law_one", "_law_other", "_law_made_here", "_law_strength", "_law_level", "_law_mine", "_law_theirs"]
theorem ve6:VS iL l9 "_law_one" 0:=vq
theorem ve7:VS iL l9 "_law_other" 1:=vq
theorem ve8:VS iL l9 "_law_made_here" 2:=vq
theorem ve9:VS iL l9 "_law_strength" 3:=vq
theorem vfa:VS iL l9 "_law_level" 4:=vq
theorem vfb:VS iL l9 "_law_mine" 5:=vq
theorem vfc:VS iL l9 "_law_theirs" 6:=vq
theorem vfd:LS l9 "_law_level":=lq
theorem vfe:LS l9 "_law_mine":=lq
theorem vff:LS l9 "_law_theirs":=lq
theorem amQ(F:FunD K "_law_put" "_law_put" l9 f fd)(T:Txt P w K mg C)(G_l_sides:FO P w K mg base 1 "_law_sides" ["_law_text", "_law_made_here", "_law_level"] [] (aiy K C 4)):FnOk P w K mg base E2 2 f fd ["_law_one", "_law_other", "_law_made_here", "_law_strength"] (ans K C 4):=by
 refine F.ok sc_l_put ?_ ?_
 .rintro _ _ _ _ ⟨t,z,z',k,n,bh,R,L,M,rfl,_⟩;rfl
 .intro cdv A outer s H vs Q E hr h;have B3:=hu_of hr;have hu:=hr.units;refine ⟨_,QSs.out (A5 (M0 PassesOwn.never (qi_r2 T.b_range (qa_c A1 (qa_c (qe_op (q_add (K:=K)) (vi ve9) A1) A2))) (D3 (n:=4) sc_l_put.nd rfl vfd 'f') (A5 (C8 (n:=5) sc_l_put.nd rfl vfe (D7 G_l_sides (hm hr) (qa_c (vi ve6) (qa_c (vi ve8) (qa_c (vi vfa) A2)))))
   (A5 (C8 (n:=6) sc_l_put.nd rfl vff (D7 G_l_sides (hm hr) (qa_c (vi ve7) (qa_c (vi ve8) (qa_c (vi vfa) A2)))))
   (A4 (qs_if (E1 (q_ne (K:=K) hu) (vi vfb) (vi vfc)) (A4 (C5 (qe_op q_sub A1 (qe_op q_mul A1 (qe_cT ana T.b_int wG (qa_c (q0 (q_ltL hu (K:=K)) (vi vfb) (vi vfc)) A2)))))) E8)))))
   (A4 (C5 A1))),?_⟩
  obtain ⟨t,z,z',k,n,bh,R,L,M,rfl,hk,hM,hz,Q1,P7,dY,q⟩:=h;walk_at "rd";refine ⟨by decide,by decide,by lia,by lia,?_⟩;rw [show ((k:Int)+1-1).toNat=k by lia];refine forRs (fun i Y H2=>∃ (u v w:Option V),(Y=[some (.str z),some (.str z'),some (.ref t),some (.int k),u,v,w]/\Same H H2)/\∀ j<i,D6 bh (L6 R L M) z.cps.toList z'.cps.toList j=0) ⟨none,none,none,⟨rfl,aQ _⟩,fun j hj=>absurd hj (Nat.not_lt_zero j)⟩ ?_ ?_
  .rintro P' Bk hP i Y H2 hi ⟨u,v,w,⟨rfl,S⟩,h0⟩;have e1:(1+(i:Int))=((i+1:Nat):Int):=by lia
   walk_at "rd";refine ⟨t,z,i,n,bh,R,L,M,by rw [e1],by lia,hM.same S,hz,P7,fun l1 H3 n3 S3 h3=>⟨t,z',i,n,bh,R,L,M,by rw [e1],by lia,(hM.same S).same S3,Q1,dY,fun l2 H4 n4 S4 h4=>?_⟩⟩;have h3':=h3.same S4;have uM:=aqa (bh:=bh) (en:=L6 R L M) (z:=z) (z':=z') (show i<4 by lia);have hlv:=arW (bh:=bh) (en:=L6 R L M) (z:=z) (z':=z') (show i<4 by lia);have okk:∀ {w:Str},k0 w=true->∀ y,cV bh (L6 R L M) w i=.ss y->k0 y=true:=fun {w} hw y e=>by
    match i,(show i<4 by lia) with
    | 0,_=>cases e
    | 1,_=>cases e
    | 2,_=>cases e
    | 3,_=>cases e;exact hw
   have S04:=S.trans (S3.trans S4);refine SdAt.ne h3' h4 uM (okk (ant hz)) (okk (ant Q1)) ⟨_,rfl,?_⟩;refine iteN (fun G9=>SdAt.lt h3' h4 uM ?_) fun he=>hP _ _ _ ⟨_,_,_,⟨rfl,S04⟩,fun j hj=>?_⟩
   .have hq:=q H4 S04;have mE:D6 bh (L6 R L M) z.cps.toList z'.cps.toList i≠0:=by rw [hlv];unfold cmpD;rw [if_neg G9];split <;> decide
    rw [x9 hi h0 mE,hlv] at hq;unfold cmpD at hq;rw [if_neg G9] at hq;walk_at "rd"
    by_cases C4:(cV bh (L6 R L M) z i).lt (cV bh (L6 R L M) z' i)=true
    .rw [if_pos C4] at hq ⊢
     exact ⟨.inl ⟨by decide,by decide⟩,hq⟩
    .rw [if_neg C4] at hq ⊢
     exact ⟨.inl ⟨by decide,by decide⟩,hq⟩
   .by_cases hji:j=i
    .rw [hji,hlv,he];exact if_pos rfl
    .exact h0 j 'a'
  rintro Y H2 ⟨u,v,w,⟨rfl,S⟩,h0⟩;walk_at "rd"
  have:=q H2 S
  rw [bF h0] at this;exact this
theorem sc_l_step:FnScope ["_law_one", "_law_other", "_law_made_here", "_law_strength", "_law_level", "_law_sign_here"] ["_law_one", "_law_other", "_law_made_here", "_law_strength"] (C1 x6):=E6
abbrev mC:List Str:=["_law_one", "_law_other", "_law_made_here", "_law_strength", "_law_level", "_law_sign_here"]
theorem vfg:VS mC x6 "_law_one" 0:=vq
theorem vfh:VS mC x6 "_law_other" 1:=vq
theorem vfi:VS mC x6 "_law_made_here" 2:=vq
theorem vfj:VS mC x6 "_law_strength" 3:=vq
theorem vfk:VS mC x6 "_law_level" 4:=vq
theorem vfl:VS mC x6 "_law_sign_here" 5:=vq
theorem vfm:LS x6 "_law_level":=lq
theorem vfn:LS x6 "_law_sign_here":=lq
theorem alh(F:FunD K "_law_step" "_law_step" x6 f fd)(T:Txt P w K mg C)(G_l_put:FO P w K mg base 2 "_law_put" ["_law_one", "_law_other", "_law_made_here", "_law_strength"] [] (ans K C 4)):FnOk P w K mg base E2 3 f fd ["_law_one", "_law_other", "_law_made_here", "_law_strength"] (aiA C 4):=by
 refine F.ok sc_l_step ?_ ?_
 .rintro _ _ _ _ ⟨t,u,v,k,n,bh,R,L,M,rfl,_⟩;rfl
 .intro cdv A outer s H vs Q E hr h;have B3:=hu_of hr;have hu:=hr.units;refine ⟨_,QSs.out (A5 (M0 PassesOwn.never (qi_r2 T.b_range (qa_c A1 (qa_c (qe_op (q_add (K:=K)) (vi vfj) A1) A2))) (D3 (n:=4) sc_l_step.nd rfl vfm 'f') (A5 (C8 (n:=5) sc_l_step.nd rfl vfn (D7 G_l_put (hm hr) (qa_c (vi vfg) (qa_c (vi vfh) (qa_c (vi vfi) (qa_c (vi vfk) A2))))))
   (A4 (qs_if (E1 (q_ne (K:=K) hu) (vi vfl) A1) (A4 (C5 (F9 (qa_c (vi vfk) (qa_c (vi vfl) A2))))) E8))))
   (A4 (C5 (F9 (qa_c A1 (qa_c A1 A2)))))),?_⟩
  obtain ⟨t,u,v,k,n,bh,R,L,M,rfl,hk,hM,hu,hv,hul,pS,q⟩:=h;walk_at "rd";refine ⟨by decide,by decide,by lia,by lia,?_⟩;rw [show ((k:Int)+1-1).toNat=k by lia];refine forRs (fun i Y H2=>∃ (w x:Option V),(Y=[some (.str u),some (.str v),some (.ref t),some (.int k),w,x]/\Same H H2)/\∀ j<i,(difL (j+1) (D6 bh (L6 R L M) u.cps.toList v.cps.toList)).2=0) ⟨none,none,⟨rfl,aQ _⟩,fun j hj=>absurd hj (Nat.not_lt_zero j)⟩ ?_ ?_
  .rintro P' Bk hP i Y H2 hi ⟨w,x,⟨rfl,S⟩,h0⟩;have e1:(1+(i:Int))=((i+1:Nat):Int):=by lia
   walk_at "rd";refine ⟨t,u,v,i+1,n,bh,R,L,M,by rw [e1],by lia,hM.same S,hu,hv,hul,pS,fun H3 S3=>?_⟩;have h00:∀ j<i,D6 bh (L6 R L M) u.cps.toList v.cps.toList j=0:=fun j hj=>difL_zero.mp (h0 j hj) j (kA j)
   walk_at "rd";refine iteN (fun G9=>⟨by decide,fun p np=>q p _ ((S.trans S3).free np) ((S.trans S3).trans (Same.new np)) ?_⟩) fun he=>hP _ _ _ ⟨_,_,⟨rfl,S.trans S3⟩,fun j hj=>?_⟩
   .have hn:D6 bh (L6 R L M) u.cps.toList v.cps.toList i≠0:=fun q=>G9 (difL_zero.mpr fun j hj=>by
     by_cases e:j=i
     .rw [e];exact q
     .exact h00 j 'a')
    have:=x9 (kA i) h00 hn
    rw [A3,x9 hi h00 hn,e1,this];rfl
   .by_cases e:j=i
    .rw [e];exact he
    .exact h0 j 'a'
  rintro Y H2 ⟨w,x,⟨rfl,S⟩,h0⟩;walk_at "rd";refine ⟨by decide,fun p np=>q p _ (S.free np) (S.trans (Same.new np)) ?_⟩;rw [A3,bF fun j hj=>difL_zero.mp (h0 j hj) j (kA j)];rfl
theorem aqd:FnScope ["_law_stands", "_law_step_here", "_law_turned"] ["_law_stands", "_law_step_here", "_law_turned"] (C1 lK):=E6
abbrev zW:List Str:=["_law_stands", "_law_step_here", "_law_turned"]
theorem pD:VS zW lK "_law_stands" 0:=vq
theorem pE:VS zW lK "_law_step_here" 1:=vq
theorem vfq:VS zW lK "_law_turned" 2:=vq
theorem aqe(F:FunD K "_law_on" "_law_on" lK f fd)(T:Txt P w K mg C):FnOk P w K mg base E2 1 f fd ["_law_stands", "_law_step_here", "_law_turned"] (anu K):=by
 refine F.ok aqd ?_ ?_
 .rintro _ _ _ _ ⟨p,p',s',a,b,rfl,_⟩;rfl
 .intro cdv A outer s H vs Q E hr h;have B3:=hu_of hr;have hu:=hr.units;refine ⟨_,QSs.out (A5 (qs_if (QW.pt (qw_or (E1 'k' (qe_ix (K:=K) (vi pE) A1) A1) (aT (QW.pt (q9 (E1 (q_ne (K:=K) hu) (qe_ix (K:=K) (vi pD) A1) A1) (w8 (E1 q_lt (qe_ix (K:=K) (vi pD) A1) (qe_ix (K:=K) (vi pE) A1)))))))) (A4 (C5 (vi pD))) E8)
   (A5 (qs_if (QW.pt (q9 (E1 'k' (qe_ix (K:=K) (vi pD) A1) (qe_ix (K:=K) (vi pE) A1)) (w8 (aR (QW.pt (q9 (E1 'k' (qe_ix (K:=K) (vi pE) A1) A1) (w8 (P8 (K:=K) (vi vfq))))))))) (A4 (C5 (vi pD))) E8)
   (A4 (C5 (vi pE))))),?_⟩
  obtain ⟨p,p',s',a,b,rfl,hp,ha,q⟩:=h;rw [<- arY] at q;unfold J8 at hp ha;have qs:(a.1=0\/(s'.1≠0/\s'.1<a.1)\/(s'.1=a.1/\¬ (a.1=2/\b=true)))->Q (V.ref p) H:=fun h=>q p (by
   by_cases h0:a.1=0\/(s'.1≠0/\s'.1<a.1)
   .rw [if_pos h0];exact hp
   .rw [if_neg h0,if_pos (h.elim (fun h=>absurd (.inl h) h0) fun h=>h.elim (fun h=>absurd (.inr h) h0) id)];exact hp)
  have qa:¬ (a.1=0\/(s'.1≠0/\s'.1<a.1))->¬ (s'.1=a.1/\¬ (a.1=2/\b=true))->Q (V.ref p') H:=fun h0 h1=>q p' (by rw [if_neg h0,if_neg h1];exact ha)
  walk_at "rd";refine ⟨_,.inr ha,V.int a.1,J5 _ _,?_⟩;walk_at "rd";refine iteD (fun h0=>qs (.inl h0)) fun h0=>⟨_,.inr hp,V.int s'.1,J5 _ _,?_⟩
  have rest:¬ (s'.1≠0/\s'.1<a.1)->∃ xs,(D1 K H p xs\/A8 K H p xs)/\∃ x,F8 xs 0=some x/\∃ xs,(D1 K H p' xs\/A8 K H p' xs)/\∃ x_1,F8 xs 0=some x_1/\rEqU K x x_1 H fun x H'=>∃ k,x=V.bl k/\if k=true then ∃ xs,(D1 K H' p' xs\/A8 K H' p' xs)/\∃ x,F8 xs 0=some x/\rEqU K x (V.int 2) H' fun x H'=>∃ k,x=V.bl k/\if k=true then if (!b)=true then Q (V.ref p) H' else Q (V.ref p') H' else Q (V.ref p) H' else Q (V.ref p') H':=fun h1=>by
   refine ⟨_,.inr hp,V.int s'.1,J5 _ _,_,.inr ha,V.int a.1,J5 _ _,?_⟩;walk_at "rd";refine iteD (fun h2=>⟨_,.inr ha,V.int a.1,J5 _ _,?_⟩) fun h2=>qa (fun h=>h.elim h0 h1) fun h=>h2 h.1
   walk_at "rd";refine iteD (fun h3=>?_) fun h3=>qs (.inr (.inr ⟨h2,fun h=>h3 h.1⟩))
   cases b with
   | true=>exact iteF (qa (fun h=>h.elim h0 h1) fun h=>h.2 ⟨h3,rfl⟩)
   | false=>exact iteT (qs (.inr (.inr ⟨h2,fun h=>by cases h.2⟩)))
  walk_at "rd";refine iteN (fun h1=>⟨_,.inr hp,V.int s'.1,J5 _ _,_,.inr ha,V.int a.1,J5 _ _,?_⟩) fun h1=>rest fun h=>h.1 h1
  walk_at "rd";exact iteD (fun h2=>qs (.inr (.inl ⟨h1,h2⟩))) fun h2=>rest fun h=>h2 h.2
theorem sc_l_is_room:FnScope ["_law_room", "_law_number_here"] ["_law_room"] (C1 lL):=E6
abbrev aeS:List Str:=["_law_room", "_law_number_here"]
theorem zX:VS aeS lL "_law_room" 0:=vq
theorem vfs:VS aeS lL "_law_number_here" 1:=vq
theorem vft:LS lL "_law_number_here":=lq
theorem agY(F:FunD K "_law_is_room" "_law_is_room" lL f fd)(T:Txt P w K mg C):FnOk P w K mg base E2 1 f fd ["_law_room"] (anv K):=by
 refine F.ok sc_l_is_room ?_ ?_
 .rintro _ _ _ _ ⟨p,r,rfl,_⟩;rfl
 .intro cdv A outer s H vs Q E hr h;have B3:=hu_of hr;have hu:=hr.units;refine ⟨_,QSs.out (A5 (qs_if (QW.pt (qw_or (aR (P8 (K:=K) (qe_cB (q_isT (K:=K)) T.b_isinstance nM (qa_c (vi zX) (qa_c (qe_ty T.b_tuple gY) A2))))) (aT (E1 (q_ne (K:=K) hu) (qe_cB (q_len (K:=K)) T.b_len f7 (qa_c (vi zX) A2)) A1)))) (A4 (C5 qe_bl)) E8)
   (A5 (M0 PassesOwn.never (cL (K:=K) (vi zX)) (D3 (n:=1) sc_l_is_room.nd rfl vft 'f') (A4 (qs_if (QW.pt (qw_or (aR (P8 (K:=K) (qe_cB q_isi T.b_isinstance nM (qa_c (vi vfs) (qa_c (qe_ty T.b_int wG) A2))))) (aT (P8 (K:=K) (qe_cB q_isi T.b_isinstance nM (qa_c (vi vfs) (qa_c (qe_ty T.b_bool aoB) A2))))))) (A4 (C5 qe_bl)) E8)))
   (A4 (C5 qe_bl)))),?_⟩
  obtain ⟨p,r,rfl,hp,q⟩:=h;walk_at "rd";refine ⟨⟨_,hp⟩,4,.inr (.inl ⟨_,hp,rfl⟩),iteNS rfl ⟨⟨_,hp⟩,forT (xs:=P1 r) (fun i Y H2=>∃ u:Option V,Y=[some (.ref p),u]/\H2=H) ⟨none,rfl,rfl⟩ (fun i Y H2 _ ⟨_,_,e⟩=>by rw [e];exact hp) ?_ ?_⟩⟩
  .rintro i x Y H2 hx ⟨u,rfl,rfl⟩;obtain ⟨y,rfl⟩:∃ y,x=V.int y:=by
    have:=G6 hx
    simp only [P1,L4,gK,or_false] at this
    rcases this with e | e | e | e <;> exact ⟨_,e⟩
   walk_at "rd";exact ⟨"int",rfl,rfl,iteF ⟨"int",rfl,rfl,iteF trivial⟩⟩
  rintro Y H2 ⟨u,rfl,rfl⟩;walk_at "rd";exact q
theorem sc_l_closed:FnScope ["_law_rooms", "_law_some_here", "_law_one", "_law_other", "_law_strength", "_law_inside", "_law_room", "_law_mine", "_law_theirs", "_law_here", "_law_there"] ["_law_rooms", "_law_some_here", "_law_one", "_law_other", "_law_strength"] (C1 U6):=E6
abbrev y7:List Str:=["_law_rooms", "_law_some_here", "_law_one", "_law_other", "_law_strength", "_law_inside", "_law_room", "_law_mine", "_law_theirs", "_law_here", "_law_there"]
theorem vfu:VS y7 U6 "_law_rooms" 0:=vq
theorem zY:VS y7 U6 "_law_some_here" 1:=vq
theorem vfw:VS y7 U6 "_law_one" 2:=vq
theorem vfx:VS y7 U6 "_law_other" 3:=vq
theorem vfy:VS y7 U6 "_law_strength" 4:=vq
theorem tL:VS y7 U6 "_law_inside" 5:=vq
theorem cY:VS y7 U6 "_law_room" 6:=vq
theorem vfB:VS y7 U6 "_law_mine" 7:=vq
theorem vfC:VS y7 U6 "_law_theirs" 8:=vq
theorem vfD:VS y7 U6 "_law_here" 9:=vq
theorem vfE:VS y7 U6 "_law_there" 10:=vq
theorem vfF:LS U6 "_law_inside":=lq
theorem vfG:LS U6 "_law_room":=lq
theorem vfH:LS U6 "_law_mine":=lq
theorem vfI:LS U6 "_law_theirs":=lq
theorem vfJ:LS U6 "_law_here":=lq
theorem vfK:LS U6 "_law_there":=lq
theorem ahP(F:FunD K "_law_closed" "_law_closed" U6 f fd)(T:Txt P w K mg C)(G_l_step:FO P w K mg base 3 "_law_step" ["_law_one", "_law_other", "_law_made_here", "_law_strength"] [] (aiA C 4))(G_l_on:FO P w K mg base 1 "_law_on" ["_law_stands", "_law_step_here", "_law_turned"] [] (anu K))(G_l_is_room:FO P w K mg base 1 "_law_is_room" ["_law_room"] [] (anv K)):FnOk P w K mg base E2 4 f fd ["_law_rooms", "_law_some_here", "_law_one", "_law_other", "_law_strength"] (ak8 K C):=by
 refine F.ok sc_l_closed ?_ ?_
 .rintro _ _ _ _ ⟨rl,sl,t1,t2,k,es,zs,n,b1,b2,R,R',L,M,L',M',rfl,_⟩;rfl
 .intro cdv A outer s H vs Q E hr h;have B3:=hu_of hr;have hu:=hr.units;refine ⟨_,QSs.out (A5 (C8 (n:=5) sc_l_closed.nd rfl vfF (amD (P:=P) (w:=w)))
   (A5 (M0 PassesOwn.never (O5 (K:=K) (vi vfu)) (D3 (n:=6) sc_l_closed.nd rfl vfG 'f') (A5 (qs_if (QW.pt (qw_or (aR (P8 (K:=K) (D7 G_l_is_room (hm hr) (qa_c (vi cY) A2)))) (qw_or (E1 (q_inX (P:=P) (w:=w) (K:=K) B3) (vi cY) (vi tL)) (aT (E1 (q_ne (K:=K) hu) (qe_ix (K:=K) (vi cY) A1) (qe_ix (K:=K) (vi cY) A1)))))) (A4 (C5 qe_bl)) E8)
   (A5 (qs_if (QW.pt (q9 (E1 (q_ne (K:=K) hu) (vi zY) (R4 A2)) (w8 (E1 (q_ne (K:=K) hu) (q0 'k' (qe_ix (K:=K) (vi cY) A1) A1) (q0 'k' (qe_ix (K:=K) (vi cY) A1) A1))))) (A4 (C5 qe_bl)) E8)
   (A4 (aik (P:=P) (w:=w) (K:=K) B3 (vi tL) (vi cY) qe_bl)))))
   (A5 (qs_if (E1 (xU (P:=P) (w:=w) (K:=K) B3) (F9 (qa_c A1 (qa_c A1 (qa_c A1 (qa_c A1 A2))))) (vi tL)) (A4 (C5 qe_bl)) E8)
   (A5 (M0 PassesOwn.never (O5 (K:=K) (vi zY)) (D3 (n:=7) sc_l_closed.nd rfl vfH 'f') (A4 (M0 PassesOwn.never (O5 (K:=K) (vi zY)) (D3 (n:=8) sc_l_closed.nd rfl vfI 'f') (A5 (C8 (n:=9) sc_l_closed.nd rfl vfJ (D7 G_l_step (hm hr) (qa_c (vi vfB) (qa_c (vi vfC) (qa_c (vi vfw) (qa_c (vi vfy) A2))))))
   (A5 (C8 (n:=10) sc_l_closed.nd rfl vfK (D7 G_l_step (hm hr) (qa_c (vi vfB) (qa_c (vi vfC) (qa_c (vi vfx) (qa_c (vi vfy) A2))))))
   (A4 (M0 PassesOwn.never (O5 (K:=K) (vi vfu)) (D3 (n:=6) sc_l_closed.nd rfl vfG 'f') (A4 (qs_if (E1 (xU (P:=P) (w:=w) (K:=K) B3) (qe_op (q_add (K:=K)) (D7 G_l_on (hm hr) (qa_c (O4 (K:=K) (vi cY) Q8 (M4 A1)) (qa_c (vi vfD) (qa_c (qe_ix (K:=K) (vi vfw) A1) A2)))) (D7 G_l_on (hm hr) (qa_c (O4 (K:=K) (vi cY) (M4 A1) Q8) (qa_c (vi vfE) (qa_c (qe_ix (K:=K) (vi vfx) A1) A2))))) (vi tL)) (A4 (C5 qe_bl)) E8)))))))))
   (A4 (C5 qe_bl)))))),?_⟩
  obtain ⟨rl,sl,t1,t2,k,es,zs,n,b1,b2,R,R',L,M,L',M',rfl,hk,bU,jO,B,i8,dR,Z,hM1,hM2,q⟩:=h;have okz:∀ z∈zs,k0 z=true:=fun z hz=>by obtain ⟨i,_,rfl⟩:=Z.of z hz;exact ak7 (oQ n i).2
  have zl:=Z.len;walk_at "rd";intro d nd;refine ⟨⟨_,.of (C9 bU nd)⟩,forLs (xs:=es.map fun e=>V.ref e.ra) (fun i Y H2=>∃ u:Option V,(Y=[some (.ref rl),some (.ref sl),some (.ref t1),some (.ref t2),some (.int k),some (.ref d),u,none,none,none,none])/\ClI P w K H H2 d (es.take i)) ⟨none,rfl,Same.new nd,A3,nd⟩ (by rintro i Y H2 _ ⟨_,_,CI⟩;exact .of (CI.same _ _ bU)) ?_ ?_⟩
  .rintro P' Bk hP i x Y H2 hx ⟨u,rfl,CI⟩;obtain ⟨e,he,rfl⟩:=G5 (f:=fun e:BE=>V.ref e.ra) hx;have X3:=G6 he;have hi:i<es.length:=(E5.mp he).1;have qK:A8 K H2 e.ra (P1 e.r):=g8 CI.same (jO e X3);have hky:=CI.keys fun e' h'=>jO e' (gI h')
   have hnot:e.r∉(es.take i).map (·.r):=fun h=>by
    obtain ⟨e',h',er⟩:=C6.mp h;obtain ⟨j,hj,e2⟩:=jP.mp h';have nd:=B.nd;rw [bW,List.pairwise_map,eC] at nd;refine nd j i 'a' hi 'a' ?_;rw [e2,er];exact congrArg (·.r) (E5.mp he).2.symm
   have dL:=(B.rc e X3).even;have dM:=(B.cl i hi e he).1;unfold Z6 at dL;unfold m3 at dM;have hlk:=yL (es:=es.take i) (r:=e.r);rw [decide_eq_false hnot] at hlk;walk_at "rd";refine ⟨e.ra,e.r,rfl,qK,_,rfl,iteF ⟨_,CI.ds,hky,L5 e.r,qK,?_⟩⟩;rw [hlk];refine iteF ⟨_,.inr qK,V.int e.r.2.1,G8 (j:=1) rfl,_,.inr qK,V.int e.r.2.2.2,G8 (j:=3) rfl,?_⟩;walk_at "rd";rw [dL];refine iteF fun p1 n1=>?_
   refine newQ (A0 _ _ (.lst [])) (Same.new n1) A3 fun K1 T1 e1=>?_
   have hr3:=g8 T1 qK;have fin:P' (i+1) [some (.ref rl),some (.ref sl),some (.ref t1),some (.ref t2),some (.int k),some (.ref d),some (.ref e.ra),none,none,none,none] (A0 K1 d (dX P w d ((es.take i).map (fun e=>(L5 e.r,e.ra,V.bl true))++[(L5 e.r,e.ra,V.bl true)]))):=hP _ _ _ ⟨_,rfl,(CI.same.trans T1).put nd,by rw [A3,M7 he,D0];rfl,nd⟩;have put:∃ kvs,K1 d=some (dX P w d kvs)/\KeysX K K1 kvs/\∃ k_1,A8 K K1 e.ra (List.map kV k_1)/\lookX kvs k_1=none/\kvs.length<sizeLine/\P' (i+1) [some (.ref rl),some (.ref sl),some (.ref t1),some (.ref t2),some (.int k),some (.ref d),some (.ref e.ra),none,none,none,none] (A0 K1 d (dX P w d (kvs++[(k_1,e.ra,V.bl true)]))):=⟨_,T1 _ _ CI.ds,fun p hp=>g8 T1 (hky p hp),L5 e.r,hr3,Option.not_isSome_iff_eq_none.mp (by rw [hlk];exact L9),by rw [A6,G7];exact L8 'a',fin⟩
   refine ⟨_,.lst (.of ((CI.same.trans T1) _ _ dR)) (wC okz),_,.lst (.of e1) .nil,by simp [eO,cC],?_⟩;rw [show (PyData.list (zs.map PyData.str)).eqv (PyData.list [])=decide (zs=[]) from wJ zs []];refine iteN (fun h0=>⟨_,.inr hr3,V.int e.r.1,J5 _ _,?_⟩) fun _=>?_
   .walk_at "rd";refine ⟨_,.inr hr3,V.int e.r.2.2.1,G8 (j:=2) rfl,?_⟩;walk_at "rd";rw [dM];exact iteF put
   .exact put
  rintro Y H2 ⟨u,rfl,CI⟩;rw [A6,M3] at CI;obtain ⟨x1,d1,k1,uT,_⟩:=hM1.ex;obtain ⟨x2,d2,k2,uU,_⟩:=hM2.ex;have inn:∀ z∈zs,Z7 (sg8L n (4+2)) z/\z.length<=500:=fun z hz=>by
   obtain ⟨c,hc,rfl⟩:=Z.ch.1 z hz;exact ⟨fun e he=>by rw [E7.mp (show e∈[c] from he)];exact (Z.ch.2 c hc).2,by show 1<=500;decide⟩
  have goal:∀ z∈zs,∀ z'∈zs,∀ e∈es,M9 b1 b2 e.r (join4 (difL k (D6 b1 (L6 R L M) z.cps.toList z'.cps.toList)) (difL k (D6 b2 (L6 R' L' M') z.cps.toList z'.cps.toList)))∈es.map (·.r):=fun z hz z' Q1 e he=>by
   obtain ⟨i,hi⟩:=jS.mp he
   have:=((B.cl i (E5.mp hi).1 e hi).2 (z,z',join4 (difR R L M k z z') (difR R' L' M' k z z')) (U8.mpr ⟨z,hz,C6.mpr ⟨z',Q1,rfl⟩⟩)).2
   change M9 _ _ e.r (join4 (difR R L M k z z') (difR R' L' M' k z z'))∈_ at this
   rw [hM1.en.dif hk (inn z hz).1 (inn z' Q1).1,hM2.en.dif hk (inn z hz).1 (inn z' Q1).1,hM1.bh,hM2.bh] at this;exact this
  walk_at "rd";refine ⟨by decide,fun p0 n0=>?_⟩;refine newQ (A0 _ _ (.tup [V.int 0,V.int 0,V.int 0,V.int 0])) (Same.new n0) A3 fun H3 T3 e3=>?_
  replace CI:ClI P w K H H3 d es:=⟨CI.same.trans T3,T3 _ _ CI.ds,nd⟩
  have h00:((0,0,0,0):Rm)∈es.map (·.r):=by
   obtain ⟨e,h1,h2⟩:=B.st;exact C6.mpr ⟨e,G6 h1,h2⟩
  refine ⟨_,CI.ds,CI.keys jO,L5 (0,0,0,0),.of e3,?_⟩;rw [yL,decide_eq_true h00];clear T3 n0 e3;refine iteF ⟨⟨_,.of (CI.same _ _ dR)⟩,forLs (xs:=zs.map V.str) (fun i Y H4=>∃ u1 u2 u3 u4 u5:Option V,(Y=[some (.ref rl),some (.ref sl),some (.ref t1),some (.ref t2),some (.int k),some (.ref d),u1,u2,u3,u4,u5])/\ClI P w K H H4 d es) ⟨_,_,_,_,_,rfl,CI⟩ (by rintro i Y H4 _ ⟨_,_,_,_,_,_,CI⟩;exact .of (CI.same _ _ dR)) ?_ fun Y H4 ⟨_,_,_,_,_,e,CI⟩=>?_⟩
  .clear CI H3;rintro P' Bk hP i x Y H3 hx ⟨u1,u2,u3,u4,u5,rfl,CI⟩;obtain ⟨z,V9,rfl⟩:=G5 hx;have hz:=G6 V9;walk_at "rd";refine ⟨⟨_,.of (CI.same _ _ dR)⟩,forLs (xs:=zs.map V.str) (fun i Y H4=>∃ u1 u3 u4 u5:Option V,(Y=[some (.ref rl),some (.ref sl),some (.ref t1),some (.ref t2),some (.int k),some (.ref d),u1,some (.str z),u3,u4,u5])/\ClI P w K H H4 d es) ⟨_,_,_,_,rfl,CI⟩ (by rintro i Y H4 _ ⟨_,_,_,_,_,CI⟩;exact .of (CI.same _ _ dR)) ?_ fun Y H4 ⟨_,_,_,_,e,CI⟩=>hP _ _ _ ⟨_,_,_,_,_,e,CI⟩⟩;clear CI H3;rintro P2 Bk2 hP2 i2 x2' Y H3 qB ⟨u1,u3,u4,u5,rfl,CI⟩;obtain ⟨z',uN,rfl⟩:=G5 qB;have Q1:=G6 uN;walk_at "rd";refine ⟨t1,z,z',k,n,b1,R,L,M,rfl,hk,hM1.same CI.same,(inn z hz).1,(inn z' Q1).1,(inn z hz).2,(inn z' Q1).2,fun p1 H4 n4 S4 e4=>⟨t2,z,z',k,n,b2,R',L',M',rfl,hk,hM2.same (CI.same.trans S4),(inn z hz).1,(inn z' Q1).1,(inn z hz).2,(inn z' Q1).2,fun p2 H5 n5 S5 e5=>?_⟩⟩
   replace CI:ClI P w K H H5 d es:=⟨CI.same.trans (S4.trans S5),(S4.trans S5) _ _ CI.ds,nd⟩
   replace e4:=S5 _ _ e4
   clear S4 S5 n4 n5 H4 H3;have gl:=goal z hz z' Q1;generalize difL k (D6 b1 (L6 R L M) z.cps.toList z'.cps.toList)=A at *;generalize difL k (D6 b2 (L6 R' L' M') z.cps.toList z'.cps.toList)=A' at *;refine ⟨⟨_,.of (CI.same _ _ bU)⟩,forLs (xs:=es.map fun e=>V.ref e.ra) (fun i Y H6=>∃ u1:Option V,(Y=[some (.ref rl),some (.ref sl),some (.ref t1),some (.ref t2),some (.int k),some (.ref d),u1,some (.str z),some (.str z'),some (.ref p1),some (.ref p2)])/\ClI P w K H H6 d es/\Same H5 H6) ⟨_,rfl,CI,aQ _⟩ (by rintro i Y H4 _ ⟨_,_,CI,_⟩;exact .of (CI.same _ _ bU)) ?_ fun Y H4 ⟨_,e,CI,_⟩=>hP2 _ _ _ ⟨_,_,_,_,e,CI⟩⟩;clear CI;rintro P3 Bk3 hP3 i3 x3 Y H6 hx3 ⟨u1,rfl,CI,S6⟩;obtain ⟨e,he,rfl⟩:=G5 (f:=fun e:BE=>V.ref e.ra) hx3;have X3:=G6 he;have hr6:A8 K H6 e.ra (P1 e.r):=g8 CI.same (jO e X3);walk_at "rd";refine rSlR.t hr6 (by simp [HT.sIx,P1]) fun l1 n1=>?_
   rw [show cutV (P1 e.r) none (some 2)=J8 (e.r.1,e.r.2.1) from aV _ 2];refine newQ (A0 _ _ (.tup (J8 (e.r.1,e.r.2.1)))) (Same.new n1) A3 fun K1 T1 c1=>?_
   refine ⟨_,.inr (.of ((CI.same.trans T1) _ _ uT)),V.bl b1,rfl,l1,p1,_,A,b1,rfl,.of c1,.of ((S6.trans T1) _ _ e4),fun t ht=>?_⟩;refine rSlR.t (g8 T1 hr6) (by simp [HT.sIx,P1]) fun l2 n2=>?_
   rw [show cutV (P1 e.r) (some 2) none=J8 (e.r.2.2.1,e.r.2.2.2) from r8 _ 2];refine newQ (A0 _ _ (.tup (J8 (e.r.2.2.1,e.r.2.2.2)))) (Same.new n2) A3 fun K2 T2 c2=>?_
   refine ⟨_,.inr (.of ((CI.same.trans (T1.trans T2)) _ _ uU)),V.bl b2,rfl,l2,p2,_,A',b2,rfl,.of c2,.of ((S6.trans (T1.trans T2)) _ _ e5),fun t' qF=>?_⟩;walk_at "rd";refine rAddR.t (g8 T2 ht) qF (by simp [J8]) (by simp only [J8,L3,Z0];decide) (fun e=>by cases e) fun _ p3 n3=>?_
   refine newQ (A0 _ _ (.tup (J8 (Z5 b1 (e.r.1,e.r.2.1) A)++J8 (Z5 b2 (e.r.2.2.1,e.r.2.2.2) A')))) (Same.new n3) A3 fun K3 T3 c3=>?_
   have S63:=T1.trans (T2.trans T3)
   replace CI:ClI P w K H K3 d es:=⟨CI.same.trans S63,S63 _ _ CI.ds,nd⟩
   walk_at "rd";refine ⟨_,CI.ds,CI.keys jO,L5 (M9 b1 b2 e.r (join4 A A')),.of c3,?_⟩;rw [yL,decide_eq_true (gl e X3)];exact iteF (hP3 _ _ _ ⟨_,rfl,CI,S6.trans S63⟩)
  subst e;walk_at "rd";exact q _ CI.same
theorem sc_law:FnScope ["_law_script", "_law_pool_here", "_law_some_here", "_law_one", "_law_other", "_law_strength", "_law_got", "_law_again"] ["_law_script"] (C1 s_law):=E6
abbrev n_law:List Str:=["_law_script", "_law_pool_here", "_law_some_here", "_law_one", "_law_other", "_law_strength", "_law_got", "_law_again"]
theorem tM:VS n_law s_law "_law_script" 0:=vq
theorem vfM:VS n_law s_law "_law_pool_here" 1:=vq
theorem tN:VS n_law s_law "_law_some_here" 2:=vq
theorem tO:VS n_law s_law "_law_one" 3:=vq
theorem tP:VS n_law s_law "_law_other" 4:=vq
theorem tQ:VS n_law s_law "_law_strength" 5:=vq
theorem iM:VS n_law s_law "_law_got" 6:=vq
theorem vfS:VS n_law s_law "_law_again" 7:=vq
theorem vfT:LS s_law "_law_pool_here":=lq
theorem vfU:LS s_law "_law_some_here":=lq
theorem vfV:LS s_law "_law_one":=lq
theorem vfW:LS s_law "_law_other":=lq
theorem vfX:LS s_law "_law_strength":=lq
theorem vfY:LS s_law "_law_got":=lq
theorem vfZ:LS s_law "_law_again":=lq
theorem arZ(F:FunD K "law" "law" s_law f fd)(T:Txt P w K mg C)(G3_beside:FO P w K mg base 12 "beside" ["one", "other", "signs", "strength"] [] (spBes K C))(G_l_number:FO P w K mg base 1 "_law_number" ["_law_script", "_law_k"] [] (lM K))(G_l_pool:FO P w K mg base 2 "_law_pool" ["_law_script"] [] (ak2 K 8))(G_l_both:FO P w K mg base 8 "_law_both" ["_law_script", "_law_pool_here"] [] (ak4 K C 4 8))(G_l_some:FO P w K mg base 2 "_law_some" ["_law_script", "_law_pool_here", "_law_most"] [] (ak5 K 4 8))(G_l_closed:FO P w K mg base 4 "_law_closed" ["_law_rooms", "_law_some_here", "_law_one", "_law_other", "_law_strength"] [] (ak8 K C)):FnOk P w K mg base E2 13 f fd ["_law_script"] (spLaw K):=by
 refine F.ok sc_law ?_ ?_
 .rintro _ _ _ _ ⟨a,ns,rfl,_⟩;rfl
 .intro cdv A outer s H vs Q E hr h;have B3:=hu_of hr;have hu:=hr.units;refine ⟨_,QSs.out (A5 (C8 (n:=1) sc_law.nd rfl vfT (D7 G_l_pool (hm hr) (qa_c (vi tM) A2)))
   (A5 (C8 (n:=2) sc_law.nd rfl vfU (D7 G_l_some (hm hr) (qa_c (vi tM) (qa_c (vi vfM) (qa_c A1 A2)))))
   (A5 (kR (D7 G_l_both (hm hr) (qa_c (vi tM) (qa_c (vi vfM) A2))) (cK (K:=K) (n:=2) (R5 ((D3 (n:=3) sc_law.nd rfl vfV 'f')) (R5 ((D3 (n:=4) sc_law.nd rfl vfW 'f')) cJ))))
   (A5 (C8 (n:=5) sc_law.nd rfl vfX (qe_op (q_add (K:=K)) A1 (qe_op q_mod (qe_op x0 (D7 G_l_number (hm hr) (qa_c (vi tM) (qa_c A1 A2))) A1) A1)))
   (A5 (C8 (n:=6) sc_law.nd rfl vfY (D7 G3_beside (hm hr) (qa_c (qe_ix (K:=K) (vi tO) A1) (qa_c (qe_ix (K:=K) (vi tP) A1) (qa_c (vi tN) (qa_c (vi tQ) A2))))))
   (A5 (qs_if (QW.pt (qw_or (aR (P8 (K:=K) (qe_cB q_isi T.b_isinstance nM (qa_c (vi iM) (qa_c (qe_ty T.b_tuple gY) A2))))) (aT (E1 (q_ne (K:=K) hu) (qe_cB (q_len (K:=K)) T.b_len f7 (qa_c (vi iM) A2)) A1)))) (A4 (C5 qe_bl)) E8)
   (A5 (qs_if (E1 wN (qe_ix (K:=K) (vi iM) A1) eZ) (A4 (C5 (q0 q_isN (qe_ix (K:=K) (vi iM) A1) eZ))) E8)
   (A5 (qs_if (QW.pt (qw_or (aR (P8 (K:=K) (qe_cB q_isi T.b_isinstance nM (qa_c (qe_ix (K:=K) (vi iM) A1) (qa_c (qe_ty T.b_list kN) A2))))) (aT (aR (P8 (K:=K) (D7 G_l_closed (hm hr) (qa_c (qe_ix (K:=K) (vi iM) A1) (qa_c (vi tN) (qa_c (vi tO) (qa_c (vi tP) (qa_c (vi tQ) A2))))))))))) (A4 (C5 qe_bl)) E8)
   (A5 (T0 (qe_m0 (K:=K) W2 PySem.F.slot_list_clear PySem.F.type_list_clear aoF (qe_ix (K:=K) (vi iM) A1)))
   (A5 (C8 (n:=7) sc_law.nd rfl vfZ (D7 G3_beside (hm hr) (qa_c (qe_ix (K:=K) (vi tO) A1) (qa_c (qe_ix (K:=K) (vi tP) A1) (qa_c (vi tN) (qa_c (vi tQ) A2))))))
   (A4 (C5 (am0 (q0 q_isN (qe_ix (K:=K) (vi vfS) A1) eZ) (amZ (D7 G_l_closed (hm hr) (qa_c (qe_ix (K:=K) (vi vfS) A1) (qa_c (vi tN) (qa_c (vi tO) (qa_c (vi tP) (qa_c (vi tQ) A2)))))))))))))))))))),?_⟩
  obtain ⟨a,ns,rfl,hS,A9,q⟩:=h;walk_at "rd";refine ⟨a,ns,rfl,hS,fun p H1 np S1 hp=>?_⟩;generalize numF ns 0=n at *;refine ⟨a,p,4,n,ns,rfl,S1.seq hS,hp,by decide,fun sl H2 zs nsl S2 dR P7 dN=>?_⟩;have S02:=S1.trans S2;refine ⟨a,p,n,ns,rfl,S02.seq hS,S2 _ _ hp,fun t t1 t2 H3 b1 b2 R L M R' L' M' nt S3 ht hM1 hM2=>?_⟩;have Z:Zs8 n 4 zs:=⟨by lia,dN⟩
  refine ⟨t,rfl,_,.of ht,rfl,_,_,rfl,_,_,rfl,rfl,a,ns,1,rfl,(S02.trans S3).seq hS,by decide,_,rfl,?_⟩;obtain ⟨sg,hsg,qL,b8⟩:∃ sg:Nat,1+numF ns 1 / 720 % 4=sg/\1<=sg/\sg<=4:=⟨(1+numF ns 1 / 720 % 4).toNat,by lia,by lia,by lia⟩
  rw [hsg];have eB:=S3 _ _ dR;clear dR S3 S2 S1 S02 ht nt hp np nsl hS A9 hsg;obtain ⟨x1,d1,k1,uT,O1,_⟩:=hM1.ex;obtain ⟨x2,d2,k2,uU,O2,_⟩:=hM2.ex;obtain ⟨ck,tx⟩:=Z.chk hM1 hM2;have dI:∀ z∈zs,z.length<=1/\(stepF R L M z).length<=15/\(stepF R' L' M' z).length<=15:=fun z hz=>by
   obtain ⟨i,_,rfl⟩:=dN z hz;exact ⟨C3 1,hM1.st _,hM2.st _⟩
  have few:∀ {es:List BE} {i:Nat},Bfs 'e' 'g' (mvsF R L M R' L' M' sg zs) es i->es.length<=225:=fun B=>B.few fun m h=>(anm b8 h).1
  walk_at "rd";refine ⟨_,.inr (.of uT),V.ref x1,rfl,_,.inr (.of uU),V.ref x2,rfl,x1,x2,sl,zs,sg,R,R',L,M,L',M',rfl,b8,O1,O2,eB,by lia,dI,ck,tx,fun g H5 ng S5 hB=>?_⟩
  rcases hB with ⟨pr,u,v,hg,hpr,hul,pS,hW⟩ | ⟨rl,es,hg,bU,jO,B,nrl⟩
  .refine ⟨"tuple",aj4 hg,rfl,iteF ?_⟩;walk_at "rd";refine ⟨2,.inr (.inl ⟨_,.of hg,rfl⟩),?_⟩;rw [if_neg 'h'];refine ⟨_,.inr (.of hg),V.ref pr,J5 _ _,?_⟩;rw [if_pos 'd'];exact ⟨_,.inr (.of hg),V.non,G8 (j:=1) rfl,q _⟩
  .refine ⟨"tuple",aj4 hg,rfl,iteF ?_⟩;walk_at "rd";refine ⟨2,.inr (.inl ⟨_,.of hg,rfl⟩),?_⟩;rw [if_neg 'h'];refine ⟨_,.inr (.of hg),V.non,J5 _ _,?_⟩;rw [if_neg 'd'];refine ⟨_,.inr (.of hg),V.ref rl,G8 (j:=1) rfl, "list",aoE bU,rfl,iteF ⟨_,.inr (.of hg),V.ref rl,G8 (j:=1) rfl,rl,sl,t1,t2,sg,es,zs,n,b1,b2,R,R',L,M,L',M',rfl,b8,bU,jO,B,few B,S5 _ _ eB,Z,hM1.same S5,hM2.same S5,fun H6 S6=>⟨_,rfl,iteF ?_⟩⟩⟩;have hg6:=S6 _ _ hg;have qM:=S6 _ _ bU;refine ⟨_,.inr (.of hg6),V.ref rl,G8 (j:=1) rfl,V2 qM,clrOk qM ?_⟩;have S7:Same H3 (A0 H6 rl (.lst [])):=(S5.trans S6).put nrl;generalize A0 H6 rl (.lst [])=H7 at S7;refine ⟨_,.inr (.of (S7 _ _ uT)),V.ref x1,rfl,_,.inr (.of (S7 _ _ uU)),V.ref x2,rfl,x1,x2,sl,zs,sg,R,R',L,M,L',M',rfl,b8,O1.same S7,O2.same S7,S7 _ _ eB,by lia,dI,ck,tx,fun g2 H8 ng2 S8 hB2=>?_⟩
   rcases hB2 with ⟨pr,u,v,_,_,_,_,hW⟩ | ⟨rl2,es2,hg2,hrl2,hrt2,B2,_⟩
   .obtain ⟨w1,w2,_,_,w5⟩:=wit8 hM1 hM2 Z b8 qL hW;exact absurd (arX hM1 hM2 Z b8 qL B w1 w2).1 w5
   walk_at "rd";refine ⟨_,.inr (.of hg2),V.non,J5 _ _,?_⟩;rw [if_pos 'd'];refine ⟨_,.inr (.of hg2),V.ref rl2,G8 (j:=1) rfl,?_⟩;exact ⟨rl2,sl,t1,t2,sg,es2,zs,n,b1,b2,R,R',L,M,L',M',rfl,b8,hrl2,hrt2,B2,few B2,(S7.trans S8) _ _ eB,Z,hM1.same (S7.trans S8),hM2.same (S7.trans S8),fun H9 _=>q _⟩
end
theorem all_mk{l:PySem.W.OpenLaw}{w:World}(X:K.In h)(G:h.Ns mainGlobals mg)(uJ:mg "law"=some (.ref fa))(d0:DF K "told" bB)(d1:DF K "followers" g0)(d2:DF K "count_ahead" bC)(d3:DF K "lined_up" R6)(d4:DF K "is_figure" sB)(d5:DF K "has_rule" oI)(d6:DF K "pieces_told" sC)(d7:DF K "is_clash" fE)(d8:DF K "jobs_of" t5)(d9:DF K "misused" cN)(d10:DF K "check_letters" cO)(d11:DF K "line_of" oJ)(d12:DF K "forms_of" fF)(d13:DF K "steps_of" Q9){f14:Addr}{od14 an14:Option Addr}{sl14:Array (Option Value)}{oc14 kV14 dc14 pm14 cd14 ct14:Value}(a14:R9 K (.ref C) "__init__"=some (some (.ref f14)))(i14:gP K (.ref f14)=true)(l14:K.lookup f14=some ⟨oc14,od14,.func (U5 "__init__" "Order.__init__" (W4 fG) (V1 fG) (C1 fG) .none kV14 dc14 pm14 an14 cd14 ct14),sl14⟩)(c14:X7 K cd14 "Order.__init__"=true)(k14:W3 K (.ref f14)=true){f15:Addr}{od15 an15:Option Addr}{sl15:Array (Option Value)}{oc15 kV15 dc15 pm15 cd15 ct15:Value}(a15:R9 K (.ref C) "job"=some (some (.ref f15)))(i15:gP K (.ref f15)=true)(l15:K.lookup f15=some ⟨oc15,od15,.func (U5 "job" "Order.job" (W4 fH) (V1 fH) (C1 fH) .none kV15 dc15 pm15 an15 cd15 ct15),sl15⟩)(c15:X7 K cd15 "Order.job"=true)(k15:W3 K (.ref f15)=true)(d16:DF K "figures_at" hX)(d17:DF K "part_at" cP){f18:Addr}{od18 an18:Option Addr}{sl18:Array (Option Value)}{oc18 kV18 dc18 pm18 cd18 ct18:Value}{tD18:Addr}{nD18:Nat}{cD18:Value}{oD18:Option Addr}{sD18:Array (Option Value)}(dl18:K.lookup tD18=some ⟨cD18,oD18,.seq #[.bool false] nD18,sD18⟩)(a18:O9 K mainGlobals "cut"=some (some (.ref f18)))(l18:K.lookup f18=some ⟨oc18,od18,.func (U5 "cut" "cut" (W4 s_cut) (V1 s_cut) (C1 s_cut) (.ref tD18) kV18 dc18 pm18 an18 cd18 ct18),sl18⟩)(c18:X7 K cd18 "cut"=true)(k18:W3 K (.ref f18)=true){f19:Addr}{od19 an19:Option Addr}{sl19:Array (Option Value)}{oc19 kV19 dc19 pm19 cd19 ct19:Value}(a19:R9 K (.ref C) "known"=some (some (.ref f19)))(i19:gP K (.ref f19)=true)(l19:K.lookup f19=some ⟨oc19,od19,.func (U5 "known" "Order.known" (W4 iA) (V1 iA) (C1 iA) .none kV19 dc19 pm19 an19 cd19 ct19),sl19⟩)(c19:X7 K cd19 "Order.known"=true)(k19:W3 K (.ref f19)=true){f20:Addr}{od20 an20:Option Addr}{sl20:Array (Option Value)}{oc20 kV20 dc20 pm20 cd20 ct20:Value}(a20:R9 K (.ref C) "steps"=some (some (.ref f20)))(i20:gP K (.ref f20)=true)(l20:K.lookup f20=some ⟨oc20,od20,.func (U5 "steps" "Order.steps" (W4 fI) (V1 fI) (C1 fI) .none kV20 dc20 pm20 an20 cd20 ct20),sl20⟩)(c20:X7 K cd20 "Order.steps"=true)(k20:W3 K (.ref f20)=true)(d21:DF K "parts_of" oK)(d22:DF K "steps_by" oM)(d23:DF K "add_mark" oN)(d24:DF K "add_part" t6)(d25:DF K "units" bD)(d26:DF K "looks" t7){f27:Addr}{od27 an27:Option Addr}{sl27:Array (Option Value)}{oc27 kV27 dc27 pm27 cd27 ct27:Value}{kD27:Tok}{tD27:Addr}{nD27:Nat}{cD27:Value}{oD27:Option Addr}{sD27:Array (Option Value)}(dl27:K.lookup tD27=some ⟨cD27,oD27,.seq #[.int 4 kD27] nD27,sD27⟩)(a27:O9 K mainGlobals "compare"=some (some (.ref f27)))(l27:K.lookup f27=some ⟨oc27,od27,.func (U5 "compare" "compare" (W4 Y3) (V1 Y3) (C1 Y3) (.ref tD27) kV27 dc27 pm27 an27 cd27 ct27),sl27⟩)(c27:X7 K cd27 "compare"=true)(k27:W3 K (.ref f27)=true){f28:Addr}{od28 an28:Option Addr}{sl28:Array (Option Value)}{oc28 kV28 dc28 pm28 cd28 ct28:Value}{kD28:Tok}{tD28:Addr}{nD28:Nat}{cD28:Value}{oD28:Option Addr}{sD28:Array (Option Value)}(dl28:K.lookup tD28=some ⟨cD28,oD28,.seq #[.int 4 kD28] nD28,sD28⟩)(a28:O9 K mainGlobals "difference"=some (some (.ref f28)))(l28:K.lookup f28=some ⟨oc28,od28,.func (U5 "difference" "difference" (W4 g3) (V1 g3) (C1 g3) (.ref tD28) kV28 dc28 pm28 an28 cd28 ct28),sl28⟩)(c28:X7 K cd28 "difference"=true)(k28:W3 K (.ref f28)=true){f29:Addr}{od29 an29:Option Addr}{sl29:Array (Option Value)}{oc29 kV29 dc29 pm29 cd29 ct29:Value}{kD29:Tok}{tD29:Addr}{nD29:Nat}{cD29:Value}{oD29:Option Addr}{sD29:Array (Option Value)}(dl29:K.lookup tD29=some ⟨cD29,oD29,.seq #[.int 4 kD29] nD29,sD29⟩)(a29:O9 K mainGlobals "differences"=some (some (.ref f29)))(l29:K.lookup f29=some ⟨oc29,od29,.func (U5 "differences" "differences" (W4 x5) (V1 x5) (C1 x5) (.ref tD29) kV29 dc29 pm29 an29 cd29 ct29),sl29⟩)(c29:X7 K cd29 "differences"=true)(k29:W3 K (.ref f29)=true)(d30:DF K "stands" lG)(d31:DF K "goes_on" iB)(d32:DF K "is_otherwise" sD)(d33:DF K "is_uneven" sE)(d34:DF K "is_plain" lH)(d35:DF K "check_plain" g4)(d36:DF K "moves_by" k9)(d37:DF K "longer_by" lI){f38:Addr}{od38 an38:Option Addr}{sl38:Array (Option Value)}{oc38 kV38 dc38 pm38 cd38 ct38:Value}{kD38:Tok}{tD38:Addr}{nD38:Nat}{cD38:Value}{oD38:Option Addr}{sD38:Array (Option Value)}(dl38:K.lookup tD38=some ⟨cD38,oD38,.seq #[.int 4 kD38] nD38,sD38⟩)(a38:O9 K mainGlobals "beside"=some (some (.ref f38)))(l38:K.lookup f38=some ⟨oc38,od38,.func (U5 "beside" "beside" (W4 N6) (V1 N6) (C1 N6) (.ref tD38) kV38 dc38 pm38 an38 cd38 ct38),sl38⟩)(c38:X7 K cd38 "beside"=true)(k38:W3 K (.ref f38)=true)(d39:DF K "_law_number" oO)(d40:DF K "_law_sign" cQ)(d41:DF K "_law_pool" lJ)(d42:DF K "_law_digits" fJ)(d43:DF K "_law_row" l6)(d44:DF K "_law_made" P9)(d45:DF K "_law_both" R7)(d46:DF K "_law_some" bE)(d47:DF K "_law_sides" cR)(d48:DF K "_law_put" l9)(d49:DF K "_law_step" x6)(d50:DF K "_law_on" lK)(d51:DF K "_law_is_room" lL)(d52:DF K "_law_closed" U6){f53:Addr}{od53 an53:Option Addr}{sl53:Array (Option Value)}{oc53 kV53 dc53 pm53 cd53 ct53:Value}(a53:O9 K mainGlobals "law"=some (some (.ref f53)))(l53:K.lookup f53=some ⟨oc53,od53,.func (U5 "law" "law" (W4 s_law) (V1 s_law) (C1 s_law) .none kV53 dc53 pm53 an53 cd53 ct53),sl53⟩)(c53:X7 K cd53 "law"=true)(k53:W3 K (.ref f53)=true)(aC:O9 K mainGlobals "Order"=some (some (.ref C)))(pgC:nB K C Str.empty=true)(hdC:PySem.W.hasDictIn K C=true)(poC:PySem.W.plainOver K C=true)(saC:R9 K (.ref C) "__setattr__"=some (some (.builtin "object.__setattr__")))(mkC:PySem.W.makesIn K C=true)(kcC:W3 K (.ref C)=true)(nC_figures:R9 K (.ref C) "figures"=some none)(nC_behind:R9 K (.ref C) "behind"=some none)(nC_jobs:R9 K (.ref C) "jobs"=some none)(nC_letter_line:R9 K (.ref C) "letter_line"=some none)(nC_mark_line:R9 K (.ref C) "mark_line"=some none)(nC_made:R9 K (.ref C) "made"=some none)(z_any:O9 K mainGlobals "any"=some none)(z_bool:O9 K mainGlobals "bool"=some none)(z_dict:O9 K mainGlobals "dict"=some none)(z_enumerate:O9 K mainGlobals "enumerate"=some none)(z_int:O9 K mainGlobals "int"=some none)(z_isinstance:O9 K mainGlobals "isinstance"=some none)(z_len:O9 K mainGlobals "len"=some none)(z_list:O9 K mainGlobals "list"=some none)(z_min:O9 K mainGlobals "min"=some none)(z_range:O9 K mainGlobals "range"=some none)(z_reversed:O9 K mainGlobals "reversed"=some none)(z_tuple:O9 K mainGlobals "tuple"=some none)(z_zip:O9 K mainGlobals "zip"=some none){a_JOBS:Addr}{ep_JOBS:Nat}{h_JOBS_0:Int}{t_JOBS_0 u_JOBS_0:Tok}{h_JOBS_1:Int}{t_JOBS_1 u_JOBS_1:Tok}{h_JOBS_2:Int}{t_JOBS_2 u_JOBS_2:Tok}{h_JOBS_3:Int}{t_JOBS_3 u_JOBS_3:Tok}{h_JOBS_4:Int}{t_JOBS_4 u_JOBS_4:Tok}(y_JOBS:O9 K mainGlobals "JOBS"=some (some (.ref a_JOBS)))(d_JOBS:K.lookup a_JOBS=some { cls:=.type "dict",dict:=none,data:=.dict #[⟨h_JOBS_0,.str "row" t_JOBS_0,.str "letter" u_JOBS_0⟩,⟨h_JOBS_1,.str "marks" t_JOBS_1,.str "mark" u_JOBS_1⟩,⟨h_JOBS_2,.str "great" t_JOBS_2,.str "great" u_JOBS_2⟩,⟨h_JOBS_3,.str "as" t_JOBS_3,.str "as" u_JOBS_3⟩,⟨h_JOBS_4,.str "over" t_JOBS_4,.str "over" u_JOBS_4⟩] ep_JOBS,slots:=#[] })(s_JOBS:(a_JOBS==sysModules)=false)(e_JOBS_0:h_JOBS_0=keyH w (Sum.inr ("row" : Str)))(e_JOBS_1:h_JOBS_1=keyH w (Sum.inr ("marks" : Str)))(e_JOBS_2:h_JOBS_2=keyH w (Sum.inr 'i'))(e_JOBS_3:h_JOBS_3=keyH w (Sum.inr ("as" : Str)))(e_JOBS_4:h_JOBS_4=keyH w (Sum.inr ("over" : Str))){a_AGAIN:Addr}{n_AGAIN:Nat}{od_AGAIN:Option Addr}{sl_AGAIN:Array (Option Value)}{t_AGAIN_0:Tok}{t_AGAIN_1:Tok}{t_AGAIN_2:Tok}(y_AGAIN:O9 K mainGlobals "AGAIN"=some (some (.ref a_AGAIN)))(d_AGAIN:K.lookup a_AGAIN=some ⟨.type "tuple",od_AGAIN,.seq #[.str "letter" t_AGAIN_0,.str "mark" t_AGAIN_1,.str "over" t_AGAIN_2] n_AGAIN,sl_AGAIN⟩){a_START:Addr}{n_START:Nat}{od_START:Option Addr}{sl_START:Array (Option Value)}{t_START_0:Tok}{t_START_1:Tok}{t_START_2:Tok}{t_START_3:Tok}(y_START:O9 K mainGlobals "START"=some (some (.ref a_START)))(d_START:K.lookup a_START=some ⟨.type "tuple",od_START,.seq #[.int 0 t_START_0,.int 0 t_START_1,.int 0 t_START_2,.int 0 t_START_3] n_START,sl_START⟩){tMARK tLETTER tFIGURES:Tok}(y_MARK:O9 K mainGlobals "MARK"=some (some (.int 0 tMARK)))(y_LETTER:O9 K mainGlobals "LETTER"=some (some (.int 2 tLETTER)))(y_FIGURES:O9 K mainGlobals "FIGURES"=some (some (.int 1 tFIGURES)))
  : ∃ fd:FuncData,(∀ (s:Shared) (v:Value),BindsTo s fd ⟨[v],[]⟩ [("_law_script",v)])/\∀ base:Heap,K.In base->base.Ns mainGlobals mg->FnOk l.prog w K mg base E2 13 fa fd ["_law_script"] (spLaw K):=by
 have e:=uJ.symm.trans (V0 X G a53);cases e;have T:Txt l.prog w K mg C:=⟨⟨pgC,hdC,poC,saC⟩,nC_figures,nC_behind,nC_jobs,nC_letter_line,nC_mark_line,nC_made,j9 X G z_any,j9 X G z_bool,j9 X G z_dict,j9 X G z_enumerate,j9 X G z_int,j9 X G z_isinstance,j9 X G z_len,j9 X G z_list,j9 X G z_min,j9 X G z_range,j9 X G z_reversed,j9 X G z_tuple,j9 X G z_zip,⟨_,V0 X G y_MARK⟩,⟨_,V0 X G y_LETTER⟩,⟨_,V0 X G y_FIGURES⟩,⟨_,V0 X G y_JOBS,aoG d_JOBS s_JOBS (.cons ⟨kC _ _,e_JOBS_0,⟨_,rfl⟩⟩ ( .cons ⟨kC _ _,e_JOBS_1,⟨_,rfl⟩⟩ ( .cons ⟨kC _ _,e_JOBS_2,⟨_,rfl⟩⟩ ( .cons ⟨kC _ _,e_JOBS_3,⟨_,rfl⟩⟩ ( .cons ⟨kC _ _,e_JOBS_4,⟨_,rfl⟩⟩ ( .nil)))))) 'c'⟩,⟨_,V0 X G y_AGAIN,fun H=>.inr ⟨_,_,_,d_AGAIN,rfl,rfl,(by show 3<=sizeLine;decide),.cons ⟨_,rfl⟩ ( .cons ⟨_,rfl⟩ ( .cons ⟨_,rfl⟩ ( .nil)))⟩⟩,⟨_,V0 X G y_START,fun H=>.inr ⟨_,_,_,d_START,rfl,rfl,(by show 4<=sizeLine;decide),.cons ⟨_,rfl⟩ ( .cons ⟨_,rfl⟩ ( .cons ⟨_,rfl⟩ ( .cons ⟨_,rfl⟩ ( .nil))))⟩⟩⟩
 have F14:=w6 (st:=fG) l14 c14;have F15:=w6 (st:=fH) l15 c15;have F18:=w6 (st:=s_cut) l18 c18;have F19:=w6 (st:=iA) l19 c19;have F20:=w6 (st:=fI) l20 c20;have F27:=w6 (st:=Y3) l27 c27;have F28:=w6 (st:=g3) l28 c28;have F29:=w6 (st:=x5) l29 c29;have F38:=w6 (st:=N6) l38 c38;have F53:=w6 (st:=s_law) l53 c53;refine ⟨U5 "law" "law" (W4 s_law) (V1 s_law) (C1 s_law) .none kV53 dc53 pm53 an53 cd53 ct53,fun s v=>.of_eq rfl,fun base hb hn=>?_⟩;have G_told:=d0.go X G hb fun F=>aqc F T
 have G_followers:=d1.go X G hb fun F=>agN F T G_told
 have G_count_ahead:=d2.go X G hb fun F=>aeV F T
 have G_lined_up:=d3.go X G hb fun F=>aht F T G_followers G_count_ahead
 have G_is_figure:=d4.go X G hb fun F=>agP F T
 have G_has_rule:=d5.go X G hb fun F=>ahw F T
 have G_pieces_told:=d6.go X G hb fun F=>aeX F T
 have G_is_clash:=d7.go X G hb fun F=>ahy F T G_is_figure
 have G_jobs_of:=d8.go X G hb fun F=>ajd F T G_has_rule G_pieces_told G_is_clash
 have G_misused:=d9.go X G hb fun F=>aje F T
 have G_check_letters:=d10.go X G hb fun F=>aee F T G_misused
 have G_line_of:=d11.go X G hb fun F=>ajg F T G_lined_up
 have G_forms_of:=d12.go X G hb fun F=>ahz F T
 have G_steps_of:=d13.go X G hb fun F=>ahA F T G_forms_of
 have G_Order___init__:KO l.prog w K mg base 5 C "Order" ["self", "rules"] (rZ C):=⟨_,_,ad5 F14 T G_has_rule G_jobs_of G_check_letters G_line_of G_steps_of,⟨mkC,a14,i14,kcC⟩,V0 X G aC,.all (len2 fun _ _=>rfl)⟩
 have G_Order_job:MO l.prog w K mg base 1 C "job" ["self", "piece"] (xI C):=⟨_,_,agS F15 T,T.cl,⟨a15,i15,k15⟩,.all (len2 fun _ _=>rfl)⟩
 have G_figures_at:=d16.go X G hb fun F=>afY F T G_is_figure
 have G_part_at:=d17.go X G hb fun F=>ajh F T G_is_figure G_figures_at
 have G_cut:FO l.prog w K mg base 4 "cut" ["known", "text", "figures"] [.bl false] (sA K):=⟨_,_,anw F18 T G_part_at,V0 X G a18,k18,[.bool false],(fun s us E9 hl=>by obtain ⟨u1,u2,rfl⟩:=arM hl;exact aM E9 rfl dl18 rfl rfl rfl),.cons rfl .nil⟩
 have G3_cut:FO l.prog w K mg base 4 "cut" ["known", "text", "figures"] [] (sA K):=⟨_,_,anw F18 T G_part_at,V0 X G a18,k18,[],(fun s us E9 hl=>by obtain ⟨u1,u2,u3,rfl⟩:=ams hl;exact aM E9 rfl dl18 rfl rfl rfl),.nil⟩
 have G_Order_known:MO l.prog w K mg base 1 C "known" ["self"] (xM C):=⟨_,_,aeZ F19 T,T.cl,⟨a19,i19,k19⟩,.all (len1 fun _=>rfl)⟩
 have G_Order_steps:MO l.prog w K mg base 1 C "steps" ["self", "piece"] (oH C):=⟨_,_,ae1 F20 T,T.cl,⟨a20,i20,k20⟩,.all (len2 fun _ _=>rfl)⟩
 have G_parts_of:=d21.go X G hb fun F=>ahC F T G3_cut G_Order_known
 have G_steps_by:=d22.go X G hb fun F=>ahE F T G_is_figure G_Order_steps
 have G_add_mark:=d23.go X G hb fun F=>ahG F T
 have G_add_part:=d24.go X G hb fun F=>ahH F T G_steps_by G_add_mark
 have G_units:=d25.go X G hb fun F=>amM F T G_parts_of G_add_part
 have G_looks:=d26.go X G hb fun F=>amN F T G_units
 have G_compare:FO l.prog w K mg base 8 "compare" ["order", "one", "other", "strength"] [.int 4] (sF C):=⟨_,_,afw F27 T G_looks,V0 X G a27,k27,[.int 4 _],(fun s us E9 hl=>by obtain ⟨u1,u2,u3,rfl⟩:=xV hl;exact aM E9 rfl dl27 rfl rfl rfl),.cons ⟨_,rfl⟩ .nil⟩
 have G3_compare:FO l.prog w K mg base 8 "compare" ["order", "one", "other", "strength"] [] (sF C):=⟨_,_,afw F27 T G_looks,V0 X G a27,k27,[],(fun s us E9 hl=>by obtain ⟨u1,u2,u3,u4,rfl⟩:=xW hl;exact aM E9 rfl dl27 rfl rfl rfl),.nil⟩
 have G_difference:FO l.prog w K mg base 9 "difference" ["order", "x", "y", "strength"] [.int 4] (spDif C):=⟨_,_,adP F28 T G3_compare,V0 X G a28,k28,[.int 4 _],(fun s us E9 hl=>by obtain ⟨u1,u2,u3,rfl⟩:=xV hl;exact aM E9 rfl dl28 rfl rfl rfl),.cons ⟨_,rfl⟩ .nil⟩
 have G3_difference:FO l.prog w K mg base 9 "difference" ["order", "x", "y", "strength"] [] (spDif C):=⟨_,_,adP F28 T G3_compare,V0 X G a28,k28,[],(fun s us E9 hl=>by obtain ⟨u1,u2,u3,u4,rfl⟩:=xW hl;exact aM E9 rfl dl28 rfl rfl rfl),.nil⟩
 have G_differences:FO l.prog w K mg base 10 "differences" ["one", "other", "x", "y", "strength"] [.int 4] (sG C):=⟨_,_,adv F29 T G3_difference,V0 X G a29,k29,[.int 4 _],(fun s us E9 hl=>by obtain ⟨u1,u2,u3,u4,rfl⟩:=amH hl;exact aM E9 rfl dl29 rfl rfl rfl),.cons ⟨_,rfl⟩ .nil⟩
 have G3_differences:FO l.prog w K mg base 10 "differences" ["one", "other", "x", "y", "strength"] [] (sG C):=⟨_,_,adv F29 T G3_difference,V0 X G a29,k29,[],(fun s us E9 hl=>by obtain ⟨u1,u2,u3,u4,u5,rfl⟩:=ao2 hl;exact aM E9 rfl dl29 rfl rfl rfl),.nil⟩
 have G_stands:=d30.go X G hb fun F=>alb F T
 have G_goes_on:=d31.go X G hb fun F=>ajj F T G_stands
 have G_is_otherwise:=d32.go X G hb fun F=>aeR F T
 have G_is_uneven:=d33.go X G hb fun F=>agU F T
 have G_is_plain:=d34.go X G hb fun F=>ahK F T G_Order_steps
 have G_check_plain:=d35.go X G hb fun F=>ae4 F T G_Order_job G_is_plain
 have G_moves_by:=d36.go X G hb fun F=>ahL F T G3_differences
 have G_longer_by:=d37.go X G hb fun F=>agW F T
 have G_beside:FO l.prog w K mg base 12 "beside" ["one", "other", "signs", "strength"] [.int 4] (spBes K C):=⟨_,_,agX F38 T G_goes_on G_is_otherwise G_is_uneven G_check_plain G_moves_by G_longer_by,V0 X G a38,k38,[.int 4 _],(fun s us E9 hl=>by obtain ⟨u1,u2,u3,rfl⟩:=xV hl;exact aM E9 rfl dl38 rfl rfl rfl),.cons ⟨_,rfl⟩ .nil⟩
 have G3_beside:FO l.prog w K mg base 12 "beside" ["one", "other", "signs", "strength"] [] (spBes K C):=⟨_,_,agX F38 T G_goes_on G_is_otherwise G_is_uneven G_check_plain G_moves_by G_longer_by,V0 X G a38,k38,[],(fun s us E9 hl=>by obtain ⟨u1,u2,u3,u4,rfl⟩:=xW hl;exact aM E9 rfl dl38 rfl rfl rfl),.nil⟩
 have G_l_number:=d39.go X G hb fun F=>ahN F T
 have G_l_sign:=d40.go X G hb fun F=>alc F T
 have G_l_pool:=d41.go X G hb fun F=>ald F T G_l_number G_l_sign
 have G_l_digits:=d42.go X G hb fun F=>ahO F T G_l_number
 have G_l_row:=d43.go X G hb fun F=>amP F T
 have G_l_made:=d44.go X G hb fun F=>ale F T G_Order___init__ G_l_row
 have G_l_both:=d45.go X G hb fun F=>alf F T G_l_number G_l_digits G_l_made
 have G_l_some:=d46.go X G hb fun F=>alg F T G_l_number
 have G_l_sides:=d47.go X G hb fun F=>ajk F T
 have G_l_put:=d48.go X G hb fun F=>amQ F T G_l_sides
 have G_l_step:=d49.go X G hb fun F=>alh F T G_l_put
 have G_l_on:=d50.go X G hb fun F=>aqe F T
 have G_l_is_room:=d51.go X G hb fun F=>agY F T
 have G_l_closed:=d52.go X G hb fun F=>ahP F T G_l_step G_l_on G_l_is_room
 exact arZ F53 T G3_beside G_l_number G_l_pool G_l_both G_l_some G_l_closed
theorem walk{l:PySem.W.OpenLaw}{q:Program}{XP:(Str->Option Value)->Heap->Prop}{YP:World->Heap->Prop}{d:DefRec}{K:Params->PySem.W.Frag}(hn:l.most=some 63)(bM:d.params.defaults=[])(hY:∀ (w:World) (h:Heap),YP w h->(K w.params).In h)(F:∀ (w:World) (mg:Str->Option Value) (fa:Addr) (h:Heap),(K w.params).In h->h.Ns mainGlobals mg->mg d.name=some (.ref fa)->
   ∃ fd:FuncData,(∀ (s:Shared) (u:Value),BindsTo s fd ⟨[u],[]⟩ [("_law_script",u)])/\∀ base:Heap,(K w.params).In base->base.Ns mainGlobals mg->FnOk l.prog w (K w.params) mg base E2 13 fa fd ["_law_script"] (spLaw (K w.params))) :
  PySem.W.WalkO q loose XP YP l.row.toRowW d [] (fun f vs=>PySem.call f vs):=
 L2.walk_of (n:=63) (k:=13) (x:="_law_script") (CX:=fun _=>E2) (sp:=fun w=>spLaw (K w.params)) hn 'h' bM ⟨rfl,by decide,by decide,rfl⟩ hY F (fun _ _ a ns hl _ hS=>⟨a,ns,rfl,hS,hl,fun _=>rfl⟩) fun _ _ _ _ _ z=>z
end K73
open PySem PySem.W PyProof.Rows
set_option maxRecDepth 100000 in
set_option maxHeartbeats 0 in
theorem PySem.Challenge.cw_sortlore_k73_rooms_walked_holds : PySem.Challenge.rw_sortlore_k73_rooms_walked.Holds := by
 w_on;o_law;k_head;(case hw=>w_witness2)
 k_fill
 refine K73.walk (l:=PySem.Challenge.rw_sortlore_k73_rooms_walked) rfl rfl (fun w h zy=>PySem.W.kIn_of zy) ?F
 case F=>
  intro w mg fa h KX G pI
  refine' K73.all_mk KX G pI ?d0 ?d1 ?d2 ?d3 ?d4 ?d5 ?d6 ?d7 ?d8 ?d9 ?d10 ?d11 ?d12 ?d13 ?a14 ?i14 ?l14 ?c14 ?k14 ?a15 ?i15 ?l15 ?c15 ?k15 ?d16 ?d17 ?dl18 ?a18 ?l18 ?c18 ?k18 ?a19 ?i19 ?l19 ?c19 ?k19 ?a20 ?i20 ?l20 ?c20 ?k20 ?d21 ?d22 ?d23 ?d24 ?d25 ?d26 ?dl27 ?a27 ?l27 ?c27 ?k27 ?dl28 ?a28 ?l28 ?c28 ?k28 ?dl29 ?a29 ?l29 ?c29 ?k29 ?d30 ?d31 ?d32 ?d33 ?d34 ?d35 ?d36 ?d37 ?dl38 ?a38 ?l38 ?c38 ?k38 ?d39 ?d40 ?d41 ?d42 ?d43 ?d44 ?d45 ?d46 ?d47 ?d48 ?d49 ?d50 ?d51 ?d52 ?a53 ?l53 ?c53 ?k53 ?aC ?pgC ?hdC ?poC ?saC ?mkC ?kcC ?nC_figures ?nC_behind ?nC_jobs ?nC_letter_line ?nC_mark_line ?nC_made ?z_any ?z_bool ?z_dict ?z_enumerate ?z_int ?z_isinstance ?z_len ?z_list ?z_min ?z_range ?z_reversed ?z_tuple ?z_zip ?y_JOBS ?d_JOBS ?s_JOBS ?e_JOBS_0 ?e_JOBS_1 ?e_JOBS_2 ?e_JOBS_3 ?e_JOBS_4 ?y_AGAIN ?d_AGAIN ?y_START ?d_START ?y_MARK ?y_LETTER ?y_FIGURES
  any_goals (refine' K73.df_mk ?da ?dl ?dc ?dk;(case da=>k_is);(case dl=>k_is);(case dc=>k_is);(case dk=>k_is))
  (case aC=>k_is)
  (case a14=>k_is)
  (case i14=>k_is)
  (case l14=>k_is)
  (case c14=>k_is)
  (case k14=>k_is)
  (case a15=>k_is)
  (case i15=>k_is)
  (case l15=>k_is)
  (case c15=>k_is)
  (case k15=>k_is)
  (case a18=>k_is)
  (case l18=>k_is)
  (case c18=>k_is)
  (case k18=>k_is)
  (case a19=>k_is)
  (case i19=>k_is)
  (case l19=>k_is)
  (case c19=>k_is)
  (case k19=>k_is)
  (case a20=>k_is)
  (case i20=>k_is)
  (case l20=>k_is)
  (case c20=>k_is)
  (case k20=>k_is)
  (case a27=>k_is)
  (case l27=>k_is)
  (case c27=>k_is)
  (case k27=>k_is)
  (case a28=>k_is)
  (case l28=>k_is)
  (case c28=>k_is)
  (case k28=>k_is)
  (case a29=>k_is)
  (case l29=>k_is)
  (case c29=>k_is)
  (case k29=>k_is)
  (case a38=>k_is)
  (case l38=>k_is)
  (case c38=>k_is)
  (case k38=>k_is)
  (case a53=>k_is)
  (case l53=>k_is)
  (case c53=>k_is)
  (case k53=>k_is)
  (case pgC=>k_is)
  (case hdC=>k_is)
  (case poC=>k_is)
  (case saC=>k_is)
  (case mkC=>k_is)
  (case kcC=>k_is)
  (case nC_figures=>k_is)
  (case nC_behind=>k_is)
  (case nC_jobs=>k_is)
  (case nC_letter_line=>k_is)
  (case nC_mark_line=>k_is)
  (case nC_made=>k_is)
  (case z_any=>k_is)
  (case z_bool=>k_is)
  (case z_dict=>k_is)
  (case z_enumerate=>k_is)
  (case z_int=>k_is)
  (case z_isinstance=>k_is)
  (case z_len=>k_is)
  (case z_list=>k_is)
  (case z_min=>k_is)
  (case z_range=>k_is)
  (case z_reversed=>k_is)
  (case z_tuple=>k_is)
  (case z_zip=>k_is)
  (case y_JOBS=>k_is)
  (case d_JOBS=>k_is)
  (case s_JOBS=>rfl)
  (case e_JOBS_0=>rfl)
  (case e_JOBS_1=>rfl)
  (case e_JOBS_2=>rfl)
  (case e_JOBS_3=>rfl)
  (case e_JOBS_4=>rfl)
  (case y_AGAIN=>k_is)
  (case d_AGAIN=>k_is)
  (case y_START=>k_is)
  (case d_START=>k_is)
  (case y_MARK=>k_is)
  (case y_LETTER=>k_is)
  (case y_FIGURES=>k_is)
  (case dl18=>k_is)
  (case dl27=>k_is)
  (case dl28=>k_is)
  (case dl29=>k_is)
  (case dl38=>k_is)
